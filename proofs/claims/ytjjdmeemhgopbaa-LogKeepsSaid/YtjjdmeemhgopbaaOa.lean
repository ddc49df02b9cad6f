/-
  Lists of texts, and lists of those, among the arguments, opened.
-/
import Derived.Test.YtjjdmeemhgopbaaRows
import Derived.Test.YtjjdmeemhgopbaaRens
import Derived.ProofKit
import Derived.OpenShut
import Derived.Lib.SmallJoins
import Derived.SizedLaws
import Derived.ShutString
import Derived.Deep.Strs
namespace Go.Proofs.Ytjjdmeemhgopbaa
open Go.ChangeShapes Go.WideShapes Go.ChangeAt Go.RowKit Go.Joins Go.Deep
open Go.ChangeMaps (open_string shut_string)

theorem c3 : Try.prog.cellsOf 3 = 1 := by kernel_rfl
theorem c9 : Try.prog.cellsOf 9 = 1 := by kernel_rfl
theorem c33 : Try.prog.cellsOf 33 = 1 := by kernel_rfl

section
variable {H : Type} {enc : TypeId × Value → H} {w : World} {base : Nat} {spare : Nat → Bool} {held : Bool}

theorem strs_open {fuel : Nat} {v : Value} {x : DataW H × List MemPlace} (h : DataW.trod enc Try.prog w base spare held fuel 33 [v] = some x) : ∃ R : List (List UInt8), ArgStrs v R w := by
  rcases open_strs Try.underlying33 Try.underlying9 c9 h with ⟨hcs, _⟩ | ⟨a, len, cap, m, Sx, hcs, _, hl, hm, hmm, _, hcell⟩
  · simp at hcs
    subst hcs
    exact ⟨[], none, 0, rfl, fun h => absurd h (by simp)⟩
  · simp at hcs
    subst hcs
    have hlm : len ≤ m := by rw [hmm]; split <;> omega
    obtain ⟨b, off, spot⟩ := a
    refine ⟨(List.range len).map fun i => (Sx i).data.toList, some ⟨b, off, spot⟩, cap, by simp, fun h0 => ?_⟩
    have h0' : 0 < len := by simpa using h0
    have hsp : spot = none := by simpa [Addr.add] using World.cell?_spot (hcell 0 (by omega)).1
    subst hsp
    refine ⟨b, off, rfl, fun i hi => ?_⟩
    have hi' : i < len := by simpa using hi
    have hc := (hcell i (by omega)).1
    rw [Addr.add_lit] at hc
    rw [hc]
    congr 2
    simp [List.getD, hi', bs_of]

theorem lists_open {fuel : Nat} {ao : Option Addr} {len cap : Nat} {x : DataW H × List MemPlace} (h : DataW.trod enc Try.prog w base spare held fuel 61 [.slice ao len cap] = some x) :
    ∃ Ls : List (List (List UInt8)), ArgLists (.slice ao len cap) Ls w := by
  rcases open_slice Try.underlying61 h with ⟨hcs, hd⟩ | ⟨a, len', cap', m, n, D, Pl, hcs, _, hl, hm, hmm, hd, hx⟩
  · simp at hcs
    obtain ⟨rfl, rfl, rfl⟩ := hcs
    exact ⟨[], none, 0, rfl, fun h => absurd h (by simp)⟩
  · simp at hcs
    obtain ⟨rfl, rfl, rfl⟩ := hcs
    rw [c33] at hx
    obtain ⟨b, off, spot⟩ := a
    have hlm : len ≤ m := by rw [hmm]; split <;> omega
    have each : ∀ i, i < len → ∃ R : List (List UInt8), (spot = none ∨ 0 < i) ∧ ∃ vi, w.cell? ⟨b, off + i, none⟩ = some vi ∧ ArgStrs vi R w := by
      intro i hi
      obtain ⟨cs', h1, h2⟩ := hx i (by omega)
      obtain ⟨_, hl1, hc⟩ := World.cells?_some h1
      match cs', hl1 with
      | [vi], _ =>
        obtain ⟨R, hR⟩ := strs_open h2
        have h0 := hc 0 (by omega)
        have hsp : spot = none ∨ 0 < i := by
          by_cases hi0 : i = 0
          · left
            subst hi0
            simpa [Addr.add] using World.cell?_spot h0
          · right; omega
        have ha : (⟨b, off, spot⟩ : Addr).add (i * 1) = ⟨b, off + i, none⟩ := by
          rcases hsp with rfl | h0
          · rw [add_plain]; simp
          · simp [Addr.add]; omega
        rw [ha] at h0
        exact ⟨R, hsp, vi, by simpa [Addr.add_lit] using h0, hR⟩
    haveI : Inhabited (List (List UInt8)) := ⟨[]⟩
    obtain ⟨F, hF⟩ := choose_lt each
    have e : ∀ i, i < len → ((List.range len).map F).getD i [] = F i := fun i hi => by simp [List.getD, hi]
    refine ⟨(List.range len).map F, some ⟨b, off, spot⟩, cap, by simp, fun h0 => ?_⟩
    have hsp : spot = none := by
      rcases (hF 0 (by simpa using h0)).1 with h | h
      · exact h
      · omega
    subst hsp
    refine ⟨b, off, rfl, fun i hi => ?_⟩
    have hi' : i < len := by simpa using hi
    obtain ⟨vi, h1, h2⟩ := (hF i hi').2
    rw [e i hi']
    exact ⟨vi, h1, h2⟩

end
end Go.Proofs.Ytjjdmeemhgopbaa
