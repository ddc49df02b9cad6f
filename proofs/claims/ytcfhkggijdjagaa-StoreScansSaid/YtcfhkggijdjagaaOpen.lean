/-
  Acts, versions, stamps among the arguments, opened.
-/
import Derived.Test.YtcfhkggijdjagaaFil
import Derived.ProofKit
import Derived.OpenShut
import Derived.Lib.SmallJoins
import Derived.SizedLaws
import Derived.ShutString
import Derived.Deep.Strs
namespace Go.Proofs.Ytcfhkggijdjagaa
open Go.ChangeShapes Go.WideShapes Go.ChangeAt Go.RowKit Go.Joins Go.Deep
namespace Opn
theorem own : ownKnob Try.prog.godebug = none := by kernel_rfl
theorem laidOut : laidOutB Try.prog = true := by kernel_rfl
theorem c3 : Try.prog.cellsOf 3 = 1 := by kernel_rfl
theorem c4 : Try.prog.cellsOf 4 = 1 := by kernel_rfl
theorem c9 : Try.prog.cellsOf 9 = 1 := by kernel_rfl
theorem cu64 : Try.prog.cellsOf 30 = 1 := by kernel_rfl
theorem cu32 : Try.prog.cellsOf 31 = 1 := by kernel_rfl
theorem cTs : Try.prog.cellsOf 33 = 2 := by kernel_rfl
theorem cTxn : Try.prog.cellsOf 35 = 2 := by kernel_rfl
theorem cVer : Try.prog.cellsOf 37 = 6 := by kernel_rfl
theorem cAct : Try.prog.cellsOf 39 = 10 := by kernel_rfl

section
variable {H : Type} {enc : TypeId × Value → H} {w : World} {base : Nat} {spare : Nat → Bool} {held : Bool}

theorem struct5 {t : TypeId} {f0 f1 f2 f3 f4 : Field} {fuel : Nat} {cs : List Value} {x : DataW H × List MemPlace} (ht : Try.prog.underlying t = some (.struct #[f0, f1, f2, f3, f4])) (h : DataW.trod enc Try.prog w base spare held fuel t cs = some x) :
    ∃ y0 y1 y2 y3 y4 n, cs.length = Try.prog.cellsOf t ∧ DataW.trod enc Try.prog w base spare held n f0.type ((cs.drop f0.offset).take (Try.prog.cellsOf f0.type)) = some y0 ∧
      DataW.trod enc Try.prog w base spare held n f1.type ((cs.drop f1.offset).take (Try.prog.cellsOf f1.type)) = some y1 ∧ DataW.trod enc Try.prog w base spare held n f2.type ((cs.drop f2.offset).take (Try.prog.cellsOf f2.type)) = some y2 ∧
      DataW.trod enc Try.prog w base spare held n f3.type ((cs.drop f3.offset).take (Try.prog.cellsOf f3.type)) = some y3 ∧ DataW.trod enc Try.prog w base spare held n f4.type ((cs.drop f4.offset).take (Try.prog.cellsOf f4.type)) = some y4 := by
  obtain ⟨xs, n, _, rfl, hl, hlen, hf⟩ := DataW.trod_struct ht h
  match xs, hlen with
  | [y0, y1, y2, y3, y4], _ => exact ⟨y0, y1, y2, y3, y4, n, hl, by simpa using hf 0 f0 rfl, by simpa using hf 1 f1 rfl, by simpa using hf 2 f2 rfl, by simpa using hf 3 f3 rfl, by simpa using hf 4 f4 rfl⟩
set_option maxRecDepth 100000 in
theorem ts_open {fuel : Nat} {cs : List Value} {x : DataW H × List MemPlace} (h : DataW.trod enc Try.prog w base spare held fuel 33 cs = some x) :
    ∃ p q : Int, cs = [.int .u64 p, .int .u32 q] := by
  obtain ⟨y0, y1, n, rfl, hl, h0, h1⟩ := trod_struct2 Try.underlying33 h
  rw [cTs] at hl
  match cs, hl with
  | [c0, c1], _ =>
    simp only [cu64, cu32, List.drop_zero, List.take_succ_cons, List.take_zero, List.drop_succ_cons] at h0 h1
    obtain ⟨p, e0, rfl, w0⟩ := DataW.trod_int Try.underlying30 h0
    obtain ⟨q, e1, rfl, w1⟩ := DataW.trod_int Try.underlying31 h1
    simp only [List.cons.injEq, and_true] at e0 e1
    subst e0 e1
    exact ⟨p, q, rfl⟩
set_option maxRecDepth 100000 in
theorem txn_open {fuel : Nat} {cs : List Value} {x : DataW H × List MemPlace} (h : DataW.trod enc Try.prog w base spare held fuel 35 cs = some x) :
    ∃ p q : Int, cs = [.int .u32 p, .int .u32 q] := by
  obtain ⟨y0, y1, n, rfl, hl, h0, h1⟩ := trod_struct2 Try.underlying35 h
  rw [cTxn] at hl
  match cs, hl with
  | [c0, c1], _ =>
    simp only [cu32, List.drop_zero, List.take_succ_cons, List.take_zero, List.drop_succ_cons] at h0 h1
    obtain ⟨p, e0, rfl, w0⟩ := DataW.trod_int Try.underlying31 h0
    obtain ⟨q, e1, rfl, w1⟩ := DataW.trod_int Try.underlying31 h1
    simp only [List.cons.injEq, and_true] at e0 e1
    subst e0 e1
    exact ⟨p, q, rfl⟩
set_option maxRecDepth 100000 in
theorem ve_open {fuel : Nat} {cs : List Value} {x : DataW H × List MemPlace} (h : DataW.trod enc Try.prog w base spare held fuel 37 cs = some x) : ∃ u : Ve, cs = vcs u := by
  obtain ⟨y0, y1, y2, y3, m, rfl, hl, h0, h1, h2, h3⟩ := trod_struct4 Try.underlying37 h
  rw [cVer] at hl
  match cs, hl with
  | [k0, k1, k2, k3, k4, k5], _ =>
    simp only [cTs, cTxn, c9, c4, List.drop_zero, List.take_succ_cons, List.take_zero, List.drop_succ_cons] at h0 h1 h2 h3
    obtain ⟨a0, a1, e0⟩ := ts_open h0
    obtain ⟨b0, b1, e1⟩ := txn_open h1
    obtain ⟨s, e2, _⟩ := DataW.trod_string Try.underlying9 h2
    obtain ⟨d, e3, _⟩ := DataW.trod_bool Try.underlying4 h3
    simp only [List.cons.injEq, and_true] at e0 e1 e2 e3
    obtain ⟨e0, e4⟩ := e0
    obtain ⟨e1, e5⟩ := e1
    subst e0 e1 e2 e3 e4 e5
    exact ⟨⟨a0, a1, b0, b1, s.data.toList, d⟩, by simp only [vcs, bs_of]⟩
set_option maxRecDepth 100000 in
theorem act_open {fuel : Nat} {cs : List Value} {x : DataW H × List MemPlace} (h : DataW.trod enc Try.prog w base spare held fuel 39 cs = some x) : ∃ a : Ac, cs = acv a := by
  obtain ⟨y0, y1, y2, y3, y4, n, hl, h0, h1, h2, h3, h4⟩ := struct5 Try.underlying39 h
  rw [cAct] at hl
  match cs, hl with
  | [k0, k1, k2, k3, k4, k5, k6, k7, k8, k9], _ =>
    simp only [c3, c9, cVer, List.drop_zero, List.take_succ_cons, List.take_zero, List.drop_succ_cons] at h0 h1 h2 h3 h4
    obtain ⟨q0, e0, _⟩ := DataW.trod_int Try.underlying3 h0
    obtain ⟨q1, e1, _⟩ := DataW.trod_int Try.underlying3 h1
    obtain ⟨s, e2, _⟩ := DataW.trod_string Try.underlying9 h2
    obtain ⟨t, e3, _⟩ := DataW.trod_string Try.underlying9 h3
    obtain ⟨u, e4⟩ := ve_open h4
    simp only [vcs, List.cons.injEq, and_true] at e0 e1 e2 e3 e4
    obtain ⟨e4, e5, e6, e7, e8, e9⟩ := e4
    subst e0 e1 e2 e3 e4 e5 e6 e7 e8 e9
    exact ⟨⟨q0, q1, s.data.toList, t.data.toList, u⟩, by simp only [acv, bs_of]⟩
/-- A slice whose elements are read each as a plain thing of so many cells. -/
theorem row_open {α : Type} (d : α) (vc : α → List Value) (size : Nat) (hsz : 0 < size) (hvc : ∀ a, (vc a).length = size) {t e : TypeId} (ht : Try.prog.underlying t = some (.slice e)) (hce : Try.prog.cellsOf e = size)
    (hel : ∀ {n : Nat} {cs : List Value} {x : DataW H × List MemPlace}, DataW.trod enc Try.prog w base (fun _ => true) held n e cs = some x → ∃ a, cs = vc a)
    {fuel : Nat} {ao : Option Addr} {len cap : Nat} {x : DataW H × List MemPlace} (h : DataW.trod enc Try.prog w base (fun _ => true) held fuel t [.slice ao len cap] = some x) :
    ∃ L : List α, len = L.length ∧ RwAt w.heap.size size (.slice ao len cap) L.length (L.flatMap vc) w := by
  rcases open_slice ht h with ⟨hcs, _⟩ | ⟨a, len', cap', m, n, D, Pl, hcs, _, hl, hm, hmm, hd, hx⟩
  · simp at hcs
    obtain ⟨rfl, rfl, rfl⟩ := hcs
    exact ⟨[], rfl, RwAt.nil _ _ _⟩
  · simp at hcs
    obtain ⟨rfl, rfl, rfl⟩ := hcs
    rw [hce] at hx
    obtain ⟨b, off, spot⟩ := a
    have hmc : m = cap := by rw [hmm]; rfl
    subst hmc
    have each : ∀ i, i < m → ∃ f : α, (spot = none ∨ 0 < i) ∧ ∀ j u, (vc f)[j]? = some u → w.cell? ⟨b, off + i * size + j, none⟩ = some u := by
      intro i hi
      obtain ⟨cs', h1, h2⟩ := hx i (by omega)
      obtain ⟨c, rfl⟩ := hel h2
      obtain ⟨_, _, hc⟩ := World.cells?_some h1
      have hsp : spot = none ∨ 0 < i := by
        by_cases hi0 : i = 0
        · left
          subst hi0
          have h0 := hc 0 hsz
          rw [show (vc c)[0]? = some ((vc c)[0]'(by rw [hvc]; exact hsz)) from List.getElem?_eq_getElem _] at h0
          simpa [Addr.add] using World.cell?_spot h0
        · right; omega
      have ha : (⟨b, off, spot⟩ : Addr).add (i * size) = ⟨b, off + i * size, none⟩ := by
        rcases hsp with rfl | h0
        · exact add_plain _ _ _
        · have : 0 < i * size := Nat.mul_pos h0 hsz
          simp [Addr.add]
          omega
      refine ⟨c, hsp, fun j u hj => ?_⟩
      have hjl : j < size := by rw [← hvc c]; exact (List.getElem?_eq_some_iff.1 hj).1
      have := hc j hjl
      rw [ha, add_plain] at this
      rw [this]
      exact hj
    haveI : Inhabited α := ⟨d⟩
    obtain ⟨F, hF⟩ := choose_lt each
    have hlen : ((List.range len).map F).length = len := by simp
    have hfl : ∀ (n : Nat), (((List.range n).map F).flatMap vc).length = n * size := fun n => by
      induction n with
      | zero => simp
      | succ n ih => rw [List.range_succ, List.map_append, List.flatMap_append, List.length_append, ih]; simp [hvc, Nat.succ_mul]
    have hget : ∀ (n j : Nat) (u : Value), (((List.range n).map F).flatMap vc)[j]? = some u → ∃ i, i < n ∧ (vc (F i))[j - i * size]? = some u ∧ i * size ≤ j := fun n => by
      induction n with
      | zero => intro j u h; simp at h
      | succ n ih =>
        intro j u h
        rw [List.range_succ, List.map_append, List.flatMap_append] at h
        by_cases hj : j < n * size
        · rw [List.getElem?_append_left (by rw [hfl]; exact hj)] at h
          obtain ⟨i, hi, r⟩ := ih j u h
          exact ⟨i, by omega, r⟩
        · rw [List.getElem?_append_right (by rw [hfl]; omega), hfl] at h
          exact ⟨n, by omega, by simpa using h, by omega⟩
    refine ⟨(List.range len).map F, hlen.symm, some ⟨b, off, spot⟩, m, by rw [hlen], by rw [hlen]; exact hfl len, by rw [hlen]; exact hl, by unfold maxLen at hm; omega, fun h0 => ⟨b, off, ?_, ?_, ?_⟩⟩
    · rcases (hF 0 h0).1 with rfl | h1
      · rfl
      · omega
    · intro _
      have h1 : (vc (F 0))[0]? = some ((vc (F 0))[0]'(by rw [hvc]; exact hsz)) := List.getElem?_eq_getElem _
      exact World.block_lt_of_cell? _ _ ((hF 0 h0).2 0 _ h1)
    · intro j u hj
      obtain ⟨i, hi, hu, hle⟩ := hget len j u hj
      have := (hF i (by omega)).2 _ u hu
      rw [show off + i * size + (j - i * size) = off + j from by omega] at this
      exact this
theorem acs_open {fuel : Nat} {ao : Option Addr} {len cap : Nat} {x : DataW H × List MemPlace} (h : DataW.trod enc Try.prog w base (fun _ => true) held fuel 22 [.slice ao len cap] = some x) : ∃ L : List Ac, len = L.length ∧ AcsAt w.heap.size (.slice ao len cap) L w := by
  obtain ⟨L, e, hr⟩ := row_open dac acv 10 (by omega) (fun _ => rfl) Try.underlying22 cAct act_open h
  refine ⟨L, e, ?_⟩
  have : L.flatMap acv = acc L := by
    clear hr e
    induction L with
    | nil => rfl
    | cons a L ih => simp [acc, ih]
  rw [this] at hr
  exact hr
end
end Opn
end Go.Proofs.Ytcfhkggijdjagaa
