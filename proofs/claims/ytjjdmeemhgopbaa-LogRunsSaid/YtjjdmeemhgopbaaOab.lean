/-
  Slices of slices and of acts among the arguments, opened.
-/
import Derived.Test.YtjjdmeemhgopbaaRows
import Derived.Test.YtjjdmeemhgopbaaRens
import Derived.ProofKit
import Derived.OpenShut
import Derived.Lib.SmallJoins
import Derived.SizedLaws
import Derived.ShutString
import Derived.Deep.Strs
import Derived.Test.YtjjdmeemhgopbaaActs
namespace Go.Proofs.Ytjjdmeemhgopbaa
open Go.ChangeShapes Go.WideShapes Go.ChangeAt Go.RowKit Go.Joins Go.Deep
open Go.ChangeMaps (open_string shut_string)

theorem c3 : Try.prog.cellsOf 3 = 1 := by kernel_rfl
theorem c9 : Try.prog.cellsOf 9 = 1 := by kernel_rfl
theorem c33 : Try.prog.cellsOf 33 = 1 := by kernel_rfl

section
variable {H : Type} {enc : TypeId × Value → H} {w : World} {base : Nat} {spare : Nat → Bool} {held : Bool}

theorem strs_open {fuel : Nat} {v : Value} {x : DataW H × List MemPlace} (h : DataW.trod enc Try.prog w base spare held fuel 33 [v] = some x) : ∃ R : List (List UInt8), ArgStrs v R w := by
  rcases open_strs Try.underlying33 Try.underlying9 c9 h with ⟨hcs, _⟩ | ⟨a, len, cap, m, Sx, hcs, _, hl, hm, hmm, _, hcell⟩
  · simp at hcs
    subst hcs
    exact ⟨[], none, 0, rfl, fun h => absurd h (by simp)⟩
  · simp at hcs
    subst hcs
    have hlm : len ≤ m := by rw [hmm]; split <;> omega
    obtain ⟨b, off, spot⟩ := a
    refine ⟨(List.range len).map fun i => (Sx i).data.toList, some ⟨b, off, spot⟩, cap, by simp, fun h0 => ?_⟩
    have h0' : 0 < len := by simpa using h0
    have hsp : spot = none := by simpa [Addr.add] using World.cell?_spot (hcell 0 (by omega)).1
    subst hsp
    refine ⟨b, off, rfl, fun i hi => ?_⟩
    have hi' : i < len := by simpa using hi
    have hc := (hcell i (by omega)).1
    rw [Addr.add_lit] at hc
    rw [hc]
    congr 2
    simp [List.getD, hi', bs_of]

theorem lists_open {fuel : Nat} {ao : Option Addr} {len cap : Nat} {x : DataW H × List MemPlace} (h : DataW.trod enc Try.prog w base spare held fuel 61 [.slice ao len cap] = some x) :
    ∃ Ls : List (List (List UInt8)), ArgLists (.slice ao len cap) Ls w := by
  rcases open_slice Try.underlying61 h with ⟨hcs, hd⟩ | ⟨a, len', cap', m, n, D, Pl, hcs, _, hl, hm, hmm, hd, hx⟩
  · simp at hcs
    obtain ⟨rfl, rfl, rfl⟩ := hcs
    exact ⟨[], none, 0, rfl, fun h => absurd h (by simp)⟩
  · simp at hcs
    obtain ⟨rfl, rfl, rfl⟩ := hcs
    rw [c33] at hx
    obtain ⟨b, off, spot⟩ := a
    have hlm : len ≤ m := by rw [hmm]; split <;> omega
    have each : ∀ i, i < len → ∃ R : List (List UInt8), (spot = none ∨ 0 < i) ∧ ∃ vi, w.cell? ⟨b, off + i, none⟩ = some vi ∧ ArgStrs vi R w := by
      intro i hi
      obtain ⟨cs', h1, h2⟩ := hx i (by omega)
      obtain ⟨_, hl1, hc⟩ := World.cells?_some h1
      match cs', hl1 with
      | [vi], _ =>
        obtain ⟨R, hR⟩ := strs_open h2
        have h0 := hc 0 (by omega)
        have hsp : spot = none ∨ 0 < i := by
          by_cases hi0 : i = 0
          · left
            subst hi0
            simpa [Addr.add] using World.cell?_spot h0
          · right; omega
        have ha : (⟨b, off, spot⟩ : Addr).add (i * 1) = ⟨b, off + i, none⟩ := by
          rcases hsp with rfl | h0
          · rw [add_plain]; simp
          · simp [Addr.add]; omega
        rw [ha] at h0
        exact ⟨R, hsp, vi, by simpa [Addr.add_lit] using h0, hR⟩
    haveI : Inhabited (List (List UInt8)) := ⟨[]⟩
    obtain ⟨F, hF⟩ := choose_lt each
    have e : ∀ i, i < len → ((List.range len).map F).getD i [] = F i := fun i hi => by simp [List.getD, hi]
    refine ⟨(List.range len).map F, some ⟨b, off, spot⟩, cap, by simp, fun h0 => ?_⟩
    have hsp : spot = none := by
      rcases (hF 0 (by simpa using h0)).1 with h | h
      · exact h
      · omega
    subst hsp
    refine ⟨b, off, rfl, fun i hi => ?_⟩
    have hi' : i < len := by simpa using hi
    obtain ⟨vi, h1, h2⟩ := (hF i hi').2
    rw [e i hi']
    exact ⟨vi, h1, h2⟩

end
end Go.Proofs.Ytjjdmeemhgopbaa

namespace Go.Proofs.Ytjjdmeemhgopbaa
open Go.ChangeShapes Go.WideShapes Go.ChangeAt Go.RowKit Go.Joins Go.Deep
open Go.ChangeMaps (open_string shut_string)

theorem c41 : Try.prog.cellsOf 41 = 1 := by kernel_rfl
theorem b43 : Try.prog.bytesOf 43 = 80 := by kernel_rfl
theorem c43 : Try.prog.cellsOf 43 = 5 := by kernel_rfl

theorem bounds_i64 {k : Int} (h : (Lit.int .i64 k).wf = true) : -9223372036854775808 ≤ k ∧ k ≤ 9223372036854775807 := by
  simpa [Lit.wf, IntKind.min, IntKind.max, IntKind.signed, IntKind.bits] using h

theorem cells_at {w : World} {base : Nat} {b off : Nat} {v0 v1 v2 v3 v4 : Value} (h : w.cells? base ⟨b, off, none⟩ 5 = some [v0, v1, v2, v3, v4]) :
    w.cell? ⟨b, off, none⟩ = some v0 ∧ w.cell? ⟨b, off + 1, none⟩ = some v1 ∧ w.cell? ⟨b, off + 2, none⟩ = some v2 ∧ w.cell? ⟨b, off + 3, none⟩ = some v3 ∧ w.cell? ⟨b, off + 4, none⟩ = some v4 := by
  obtain ⟨_, _, hc⟩ := World.cells?_some h
  have h0 := hc 0 (by omega)
  have h1 := hc 1 (by omega)
  have h2 := hc 2 (by omega)
  have h3 := hc 3 (by omega)
  have h4 := hc 4 (by omega)
  rw [add_plain] at h0 h1 h2 h3 h4
  exact ⟨h0, h1, h2, h3, h4⟩

section
variable {H : Type} {enc : TypeId × Value → H} {w : World} {base : Nat} {spare : Nat → Bool} {held : Bool}

theorem keep_open {fuel : Nat} {v : Value} {x : DataW H × List MemPlace} (h : DataW.trod enc Try.prog w base spare held fuel 41 [v] = some x) :
    ∃ keep : List Int, ArgKeep w v keep ∧ (∀ i, -9223372036854775808 ≤ keep.getD i 0 ∧ keep.getD i 0 ≤ 9223372036854775807) ∧ keep.length ≤ 9223372036854775807 := by
  rcases open_ints Try.underlying41 Try.underlying3 c3 h with ⟨hcs, _⟩ | ⟨a, len, cap, zs, hcs, _, hl, hm, hz, _, hcell, hwf⟩
  · simp at hcs
    subst hcs
    exact ⟨[], ⟨none, 0, rfl, fun h => absurd h (by simp)⟩, by simp, by simp⟩
  · simp at hcs
    subst hcs
    have hzl : len ≤ zs.length := by rw [hz]; split <;> omega
    obtain ⟨b, off, spot⟩ := a
    have hlen : (zs.take len).length = len := by simp; omega
    have hget : ∀ i, i < len → (zs.take len).getD i 0 = zs.getD i 0 := fun i hi => by simp [List.getD, hi]
    refine ⟨zs.take len, ⟨some ⟨b, off, spot⟩, cap, by rw [hlen], fun h0 => ?_⟩, ?_, ?_⟩
    · rw [hlen] at h0 ⊢
      have hsp : spot = none := by simpa [Addr.add] using World.cell?_spot (hcell 0 (by omega))
      subst hsp
      refine ⟨b, off, rfl, fun i hi => ?_⟩
      have := hcell i (by omega)
      rw [add_plain] at this
      rw [this, hget i hi]
    · intro i
      by_cases hi : i < len
      · rw [hget i hi]
        have hmem : zs.getD i 0 ∈ zs := by
          have hiz : i < zs.length := by omega
          rw [show zs.getD i 0 = zs[i] from by simp [List.getD, hiz]]
          exact List.getElem_mem _
        exact bounds_i64 (hwf _ hmem)
      · rw [List.getD_eq_getElem?_getD, List.getElem?_eq_none (by omega)]
        simp
    · rw [hlen]
      unfold maxLen at hm
      omega

theorem struct5 {t : TypeId} {f0 f1 f2 f3 f4 : Field} {fuel : Nat} {cs : List Value} {x : DataW H × List MemPlace} (ht : Try.prog.underlying t = some (.struct #[f0, f1, f2, f3, f4])) (h : DataW.trod enc Try.prog w base spare held fuel t cs = some x) :
    ∃ y0 y1 y2 y3 y4 n, x.1 = .agg [y0.1, y1.1, y2.1, y3.1, y4.1] ∧ cs.length = Try.prog.cellsOf t ∧ DataW.trod enc Try.prog w base spare held n f0.type ((cs.drop f0.offset).take (Try.prog.cellsOf f0.type)) = some y0 ∧
      DataW.trod enc Try.prog w base spare held n f1.type ((cs.drop f1.offset).take (Try.prog.cellsOf f1.type)) = some y1 ∧ DataW.trod enc Try.prog w base spare held n f2.type ((cs.drop f2.offset).take (Try.prog.cellsOf f2.type)) = some y2 ∧
      DataW.trod enc Try.prog w base spare held n f3.type ((cs.drop f3.offset).take (Try.prog.cellsOf f3.type)) = some y3 ∧ DataW.trod enc Try.prog w base spare held n f4.type ((cs.drop f4.offset).take (Try.prog.cellsOf f4.type)) = some y4 := by
  obtain ⟨xs, n, _, rfl, hl, hlen, hf⟩ := DataW.trod_struct ht h
  match xs, hlen with
  | [y0, y1, y2, y3, y4], _ => exact ⟨y0, y1, y2, y3, y4, n, by simp, hl, by simpa using hf 0 f0 rfl, by simpa using hf 1 f1 rfl, by simpa using hf 2 f2 rfl, by simpa using hf 3 f3 rfl, by simpa using hf 4 f4 rfl⟩

set_option maxRecDepth 100000 in
theorem act_open {fuel : Nat} {cs : List Value} {x : DataW H × List MemPlace} (h : DataW.trod enc Try.prog w base spare held fuel 43 cs = some x) :
    ∃ (c : Ac), cs = [.int .i64 c.what, .int .i64 c.n, .string (bs c.text), c.lv, c.kv] ∧ ArgStrs c.lv c.list w ∧ ArgKeep w c.kv c.keep ∧ c.ok := by
  obtain ⟨y0, y1, y2, y3, y4, n, hx, hl, h0, h1, h2, h3, h4⟩ := struct5 Try.underlying43 h
  rw [c43] at hl
  match cs, hl with
  | [k0, k1, k2, k3, k4], _ =>
    simp only [c3, c9, c33, c41, List.drop_zero, List.take_succ_cons, List.take_zero, List.drop_succ_cons] at h0 h1 h2 h3 h4
    obtain ⟨q0, e0, _, w0⟩ := DataW.trod_int Try.underlying3 h0
    obtain ⟨q1, e1, _, w1⟩ := DataW.trod_int Try.underlying3 h1
    obtain ⟨s, e2, hy2, w2⟩ := DataW.trod_string Try.underlying9 h2
    obtain ⟨R, hR⟩ := strs_open h3
    obtain ⟨keep, hk, hk0, hk1⟩ := keep_open h4
    simp only [List.cons.injEq, and_true] at e0 e1 e2
    subst e0 e1 e2
    have b1 := bounds_i64 w1
    exact ⟨⟨q0, q1, s.data.toList, R, k3, keep, k4⟩, by simp only [bs_of], hR, hk, ⟨b1.1, b1.2, hk0, hk1⟩⟩

set_option maxRecDepth 100000 in
theorem acts_open {fuel : Nat} {ao : Option Addr} {len cap : Nat} {x : DataW H × List MemPlace} (h : DataW.trod enc Try.prog w base spare held fuel 22 [.slice ao len cap] = some x) :
    ∃ (acts : List Ac) (b off : Nat), len = acts.length ∧ (x.1 = .nil ∧ len = 0 ∨ ∃ es sp, x.1 = .slice es sp ∧ es.length = len) ∧ (0 < acts.length → ao = some ⟨b, off, none⟩) ∧ (∀ i, i < acts.length → AcAt w b off i (acts.getD i dflt) ∧ (acts.getD i dflt).ok) := by
  rcases open_slice Try.underlying22 h with ⟨hcs, hd⟩ | ⟨a, len', cap', m, n, D, Pl, hcs, _, hl, hm, hmm, hd, hx⟩
  · simp at hcs
    obtain ⟨rfl, rfl, rfl⟩ := hcs
    exact ⟨[], 0, 0, rfl, .inl ⟨by rw [hd], rfl⟩, fun h => absurd h (by simp), fun i hi => absurd hi (by simp)⟩
  · simp at hcs
    obtain ⟨rfl, rfl, rfl⟩ := hcs
    rw [c43] at hx
    obtain ⟨b, off, spot⟩ := a
    have hlm : len ≤ m := by rw [hmm]; split <;> omega
    have each : ∀ i, i < len → ∃ f : Ac, (spot = none ∨ 0 < i) ∧ AcAt w b off i f ∧ f.ok := by
      intro i hi
      obtain ⟨cs', h1, h2⟩ := hx i (by omega)
      obtain ⟨c, rfl, hs, hk, hok⟩ := act_open h2
      have hsp : spot = none ∨ 0 < i := by
        by_cases hi0 : i = 0
        · left
          subst hi0
          obtain ⟨_, _, hc⟩ := World.cells?_some h1
          have h0 := hc 0 (by omega)
          simpa [Addr.add] using World.cell?_spot h0
        · right; omega
      have ha : (⟨b, off, spot⟩ : Addr).add (i * 5) = ⟨b, off + i * 5, none⟩ := by
        rcases hsp with rfl | h0
        · exact add_plain _ _ _
        · simp [Addr.add]; omega
      rw [ha] at h1
      have hc := cells_at h1
      exact ⟨c, hsp, ⟨hc.1, hc.2.1, hc.2.2.1, hc.2.2.2.1, hc.2.2.2.2, hs, hk⟩, hok⟩
    haveI : Inhabited Ac := ⟨dflt⟩
    obtain ⟨F, hF⟩ := choose_lt each
    have e : ∀ i, i < len → ((List.range len).map F).getD i dflt = F i := fun i hi => by simp [List.getD, hi]
    refine ⟨(List.range len).map F, b, off, by simp, .inr ⟨_, _, by rw [hd], by simp⟩, ?_, ?_⟩
    · intro h0
      have := (hF 0 (by simpa using h0)).1
      rcases this with rfl | h1
      · rfl
      · omega
    · intro i hi
      have hi' : i < len := by simpa using hi
      rw [e i hi']
      exact ⟨(hF i hi').2.1, (hF i hi').2.2⟩
end

end Go.Proofs.Ytjjdmeemhgopbaa
