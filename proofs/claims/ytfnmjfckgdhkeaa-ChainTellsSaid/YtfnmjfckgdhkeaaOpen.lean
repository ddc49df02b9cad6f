/-
  Versions, stamps, pairs of stamps and slices of versions among the arguments, opened.
-/
import Derived.Test.YtfnmjfckgdhkeaaRows
import Derived.Test.YtfnmjfckgdhkeaaVs
import Derived.ProofKit
import Derived.OpenShut
import Derived.Lib.SmallJoins
import Derived.SizedLaws
import Derived.ShutString
import Derived.Deep.Strs
namespace Go.Proofs.Ytfnmjfckgdhkeaa
open Go.ChangeShapes Go.WideShapes Go.ChangeAt Go.RowKit Go.Joins Go.Deep
namespace Opn
theorem own : ownKnob Try.prog.godebug = none := by kernel_rfl
theorem laidOut : laidOutB Try.prog = true := by kernel_rfl
theorem c4 : Try.prog.cellsOf 4 = 1 := by kernel_rfl
theorem c9 : Try.prog.cellsOf 9 = 1 := by kernel_rfl
theorem c23 : Try.prog.cellsOf 23 = 1 := by kernel_rfl
theorem c24 : Try.prog.cellsOf 24 = 1 := by kernel_rfl
theorem c26 : Try.prog.cellsOf 26 = 2 := by kernel_rfl
theorem c28 : Try.prog.cellsOf 28 = 2 := by kernel_rfl
theorem c30 : Try.prog.cellsOf 30 = 6 := by kernel_rfl
theorem c44 : Try.prog.cellsOf 44 = 4 := by kernel_rfl

theorem cells_at {w : World} {base : Nat} {b off : Nat} {v0 v1 v2 v3 v4 v5 : Value} (h : w.cells? base ⟨b, off, none⟩ 6 = some [v0, v1, v2, v3, v4, v5]) :
    w.cell? ⟨b, off, none⟩ = some v0 ∧ w.cell? ⟨b, off + 1, none⟩ = some v1 ∧ w.cell? ⟨b, off + 2, none⟩ = some v2 ∧ w.cell? ⟨b, off + 3, none⟩ = some v3 ∧ w.cell? ⟨b, off + 4, none⟩ = some v4 ∧ w.cell? ⟨b, off + 5, none⟩ = some v5 := by
  obtain ⟨_, _, hc⟩ := World.cells?_some h
  have h0 := hc 0 (by omega)
  have h1 := hc 1 (by omega)
  have h2 := hc 2 (by omega)
  have h3 := hc 3 (by omega)
  have h4 := hc 4 (by omega)
  have h5 := hc 5 (by omega)
  rw [add_plain] at h0 h1 h2 h3 h4 h5
  exact ⟨h0, h1, h2, h3, h4, h5⟩

section
variable {H : Type} {enc : TypeId × Value → H} {w : World} {base : Nat} {spare : Nat → Bool} {held : Bool}

theorem ts_open {fuel : Nat} {cs : List Value} {x : DataW H × List MemPlace} (h : DataW.trod enc Try.prog w base spare held fuel 26 cs = some x) :
    ∃ p q : Int, cs = [.int .u64 p, .int .u32 q] ∧ (Lit.int .u64 p).wf = true ∧ (Lit.int .u32 q).wf = true := by
  obtain ⟨y0, y1, n, rfl, hl, h0, h1⟩ := trod_struct2 Try.underlying26 h
  rw [c26] at hl
  match cs, hl with
  | [c0, c1], _ =>
    simp only [c23, c24, List.drop_zero, List.take_succ_cons, List.take_zero, List.drop_succ_cons] at h0 h1
    obtain ⟨p, e0, rfl, w0⟩ := DataW.trod_int Try.underlying23 h0
    obtain ⟨q, e1, rfl, w1⟩ := DataW.trod_int Try.underlying24 h1
    simp only [List.cons.injEq, and_true] at e0 e1
    subst e0 e1
    exact ⟨p, q, rfl, w0, w1⟩
theorem txn_open {fuel : Nat} {cs : List Value} {x : DataW H × List MemPlace} (h : DataW.trod enc Try.prog w base spare held fuel 28 cs = some x) :
    ∃ p q : Int, cs = [.int .u32 p, .int .u32 q] := by
  obtain ⟨y0, y1, n, rfl, hl, h0, h1⟩ := trod_struct2 Try.underlying28 h
  rw [c28] at hl
  match cs, hl with
  | [c0, c1], _ =>
    simp only [c24, List.drop_zero, List.take_succ_cons, List.take_zero, List.drop_succ_cons] at h0 h1
    obtain ⟨p, e0, rfl, w0⟩ := DataW.trod_int Try.underlying24 h0
    obtain ⟨q, e1, rfl, w1⟩ := DataW.trod_int Try.underlying24 h1
    simp only [List.cons.injEq, and_true] at e0 e1
    subst e0 e1
    exact ⟨p, q, rfl⟩
theorem ve_open {fuel : Nat} {cs : List Value} {x : DataW H × List MemPlace} (h : DataW.trod enc Try.prog w base spare held fuel 30 cs = some x) : ∃ u : Ve, cs = vcs u := by
  obtain ⟨y0, y1, y2, y3, m, rfl, hl, h0, h1, h2, h3⟩ := trod_struct4 Try.underlying30 h
  rw [c30] at hl
  match cs, hl with
  | [k0, k1, k2, k3, k4, k5], _ =>
    simp only [c26, c28, c9, c4, List.drop_zero, List.take_succ_cons, List.take_zero, List.drop_succ_cons] at h0 h1 h2 h3
    obtain ⟨a0, a1, e0, w0, w1⟩ := ts_open h0
    obtain ⟨b0, b1, e1⟩ := txn_open h1
    obtain ⟨s, e2, _, w4⟩ := DataW.trod_string Try.underlying9 h2
    obtain ⟨d, e3, _⟩ := DataW.trod_bool Try.underlying4 h3
    simp only [List.cons.injEq, and_true] at e0 e1 e2 e3
    obtain ⟨e0, e4⟩ := e0
    obtain ⟨e1, e5⟩ := e1
    subst e0 e1 e2 e3 e4 e5
    exact ⟨⟨a0, a1, b0, b1, s.data.toList, d⟩, by simp only [vcs, bs_of]⟩
theorem two_open {fuel : Nat} {cs : List Value} {x : DataW H × List MemPlace} (h : DataW.trod enc Try.prog w base spare held fuel 44 cs = some x) :
    ∃ a b c d : Int, cs = [.int .u64 a, .int .u32 b, .int .u64 c, .int .u32 d] := by
  obtain ⟨xs, m, _, _, hl, hn, hf⟩ := DataW.trod_array Try.underlying44 h
  rw [c44] at hl
  match cs, hl with
  | [k0, k1, k2, k3], _ =>
    match xs, hn with
    | [y0, y1], _ =>
      have h0 := hf 0 (by omega)
      have h1 := hf 1 (by omega)
      simp only [c26, Nat.zero_mul, Nat.one_mul, List.drop_zero, List.take_succ_cons, List.take_zero, List.drop_succ_cons, List.getElem?_cons_zero, List.getElem?_cons_succ] at h0 h1
      obtain ⟨a0, a1, e0, _⟩ := ts_open h0
      obtain ⟨b0, b1, e1, _⟩ := ts_open h1
      simp only [List.cons.injEq, and_true] at e0 e1
      obtain ⟨e0, e4⟩ := e0
      obtain ⟨e1, e5⟩ := e1
      subst e0 e1 e4 e5
      exact ⟨a0, a1, b0, b1, rfl⟩

theorem vs_open {fuel : Nat} {ao : Option Addr} {len cap : Nat} {x : DataW H × List MemPlace} (h : DataW.trod enc Try.prog w base (fun _ => true) held fuel 22 [.slice ao len cap] = some x) :
    ∃ L : List Ve, len = L.length ∧ VsAt w.heap.size (.slice ao len cap) L w := by
  rcases open_slice Try.underlying22 h with ⟨hcs, hd⟩ | ⟨a, len', cap', m, n, D, Pl, hcs, _, hl, hm, hmm, hd, hx⟩
  · simp at hcs
    obtain ⟨rfl, rfl, rfl⟩ := hcs
    exact ⟨[], rfl, vs_nil _ _⟩
  · simp at hcs
    obtain ⟨rfl, rfl, rfl⟩ := hcs
    rw [c30] at hx
    obtain ⟨b, off, spot⟩ := a
    have hmc : m = cap := by rw [hmm]; rfl
    subst hmc
    have each : ∀ i, i < m → ∃ f : Ve, (spot = none ∨ 0 < i) ∧ VeAt w b (off + i * 6) f := by
      intro i hi
      obtain ⟨cs', h1, h2⟩ := hx i (by omega)
      obtain ⟨c, rfl⟩ := ve_open h2
      have hsp : spot = none ∨ 0 < i := by
        by_cases hi0 : i = 0
        · left
          subst hi0
          obtain ⟨_, _, hc⟩ := World.cells?_some h1
          have h0 := hc 0 (by omega)
          simpa [Addr.add] using World.cell?_spot h0
        · right; omega
      have ha : (⟨b, off, spot⟩ : Addr).add (i * 6) = ⟨b, off + i * 6, none⟩ := by
        rcases hsp with rfl | h0
        · exact add_plain _ _ _
        · simp [Addr.add]; omega
      rw [ha] at h1
      have hc := cells_at h1
      exact ⟨c, hsp, ⟨hc.1, hc.2.1, hc.2.2.1, hc.2.2.2.1, hc.2.2.2.2.1, hc.2.2.2.2.2⟩⟩
    haveI : Inhabited Ve := ⟨dv⟩
    obtain ⟨F, hF⟩ := choose_lt each
    have hlen : ((List.range len).map F).length = len := by simp
    have e : ∀ i, i < len → ((List.range len).map F).getD i dv = F i := fun i hi => by simp [List.getD, hi]
    refine ⟨(List.range len).map F, hlen.symm, some ⟨b, off, spot⟩, m, by rw [hlen], by rw [hlen]; exact hl, by unfold maxLen at hm; omega, fun h0 => ⟨b, off, ?_, ?_, ?_⟩⟩
    · rcases (hF 0 h0).1 with rfl | h1
      · rfl
      · omega
    · intro _
      exact World.block_lt_of_cell? _ _ (hF 0 h0).2.c0
    · intro i hi
      rw [hlen] at hi
      rw [e i hi]
      exact (hF i (by omega)).2
theorem okWide_array {P : Program} {r : Reach} {t e : TypeId} {n : Nat} {v : Value} (ht : P.underlying t = some (.array n e)) (h : Value.okWide P w r base t v) : ∃ cs, v = .agg cs ∧ cs.size = P.cellsOf t := by
  simp only [Value.okWide, ht] at h
  obtain ⟨cs, h1, h2, _⟩ := h
  exact ⟨cs, h1, h2⟩
end
end Opn
end Go.Proofs.Ytfnmjfckgdhkeaa
