/-
  A slice of Forms among the arguments: its elements' cells, one by one.
-/
import Derived.Test.YtgkbefeiknfjcaaStructs
import Derived.Test.YtgkbefeiknfjcaaReads
import Derived.Deep.Strs
namespace Go.Proofs.Ytgkbefeiknfjcaa
open Go.ChangeShapes Go.WideShapes Go.ChangeAt Go.RowKit Go.Joins Go.Deep

theorem cells_at {w : World} {base : Nat} {b off : Nat} {v0 v1 v2 v3 v4 : Value} (h : w.cells? base ⟨b, off, none⟩ 5 = some [v0, v1, v2, v3, v4]) :
    w.cell? ⟨b, off, none⟩ = some v0 ∧ w.cell? ⟨b, off + 1, none⟩ = some v1 ∧ w.cell? ⟨b, off + 2, none⟩ = some v2 ∧ w.cell? ⟨b, off + 3, none⟩ = some v3 ∧ w.cell? ⟨b, off + 4, none⟩ = some v4 := by
  obtain ⟨_, _, hc⟩ := World.cells?_some h
  have h0 := hc 0 (by omega)
  have h1 := hc 1 (by omega)
  have h2 := hc 2 (by omega)
  have h3 := hc 3 (by omega)
  have h4 := hc 4 (by omega)
  rw [add_plain] at h0 h1 h2 h3 h4
  exact ⟨h0, h1, h2, h3, h4⟩

section
variable {H : Type} {enc : TypeId × Value → H} {w : World} {base : Nat} {spare : Nat → Bool} {held : Bool}

theorem forms_open {fuel : Nat} {ao : Option Addr} {len cap : Nat} {x : DataW H × List MemPlace} (h : DataW.trod enc Try.prog w base spare held fuel 22 [.slice ao len cap] = some x) :
    ∃ (fs : List Fm) (b off : Nat), len = fs.length ∧ (x.1 = .nil ∧ len = 0 ∨ ∃ es sp, x.1 = .slice es sp ∧ es.length = len) ∧ (0 < fs.length → ao = some ⟨b, off, none⟩) ∧ ∀ i, i < fs.length → FmAt w b off i (fs.getD i dflt) ∧ (fs.getD i dflt).ok := by
  rcases open_slice Try.underlying22 h with ⟨hcs, hd⟩ | ⟨a, len', cap', m, n, D, Pl, hcs, _, hl, hm, hmm, hd, hx⟩
  · simp at hcs
    obtain ⟨rfl, rfl, rfl⟩ := hcs
    exact ⟨[], 0, 0, rfl, .inl ⟨by rw [hd], rfl⟩, fun h => absurd h (by simp), fun i hi => absurd hi (by simp)⟩
  · simp at hcs
    obtain ⟨rfl, rfl, rfl⟩ := hcs
    rw [c33] at hx
    obtain ⟨b, off, spot⟩ := a
    have hlm : len ≤ m := by rw [hmm]; split <;> omega
    have each : ∀ i, i < len → ∃ f : Fm, (spot = none ∨ 0 < i) ∧ FmAt w b off i f ∧ f.ok := by
      intro i hi
      obtain ⟨cs', h1, h2⟩ := hx i (by omega)
      obtain ⟨k, nn, s, p, q, rfl, _, w0, w1, w2, w3, w4⟩ := form_open h2
      have hsp : spot = none ∨ 0 < i := by
        by_cases hi0 : i = 0
        · left
          subst hi0
          obtain ⟨_, _, hc⟩ := World.cells?_some h1
          have h0 := hc 0 (by omega)
          simpa [Addr.add] using World.cell?_spot h0
        · right; omega
      have ha : (⟨b, off, spot⟩ : Addr).add (i * 5) = ⟨b, off + i * 5, none⟩ := by
        rcases hsp with rfl | h0
        · exact add_plain _ _ _
        · simp [Addr.add]; omega
      rw [ha] at h1
      have hc := cells_at h1
      have bn := bounds_u64 w1
      have bp := bounds_u64 w3
      have bq := bounds_u32 w4
      have bk : -9223372036854775808 ≤ k ∧ k ≤ 9223372036854775807 := by simpa [Lit.wf, IntKind.min, IntKind.max, IntKind.signed, IntKind.bits] using w0
      obtain ⟨nn, rfl⟩ := Int.eq_ofNat_of_zero_le bn.1
      obtain ⟨p, rfl⟩ := Int.eq_ofNat_of_zero_le bp.1
      obtain ⟨q, rfl⟩ := Int.eq_ofNat_of_zero_le bq.1
      have hsl : s.data.toList.length = s.size := by simp
      refine ⟨⟨k, nn, s.data.toList, p, q⟩, hsp, ⟨hc.1, hc.2.1, by rw [bs_of]; exact hc.2.2.1, hc.2.2.2.1, hc.2.2.2.2⟩, ⟨bk.1, bk.2, ?_, ?_, ?_, ?_⟩⟩
      · have := bn.2; dsimp only; omega
      · dsimp only; rw [hsl]; simpa [maxLen] using w2
      · have := bp.2; dsimp only; omega
      · have := bq.2; dsimp only; omega
    haveI : Inhabited Fm := ⟨dflt⟩
    obtain ⟨F, hF⟩ := choose_lt each
    refine ⟨(List.range len).map F, b, off, by simp, .inr ⟨_, _, by rw [hd], by simp⟩, ?_, ?_⟩
    · intro h0
      have := (hF 0 (by simpa using h0)).1
      rcases this with rfl | h1
      · rfl
      · omega
    · intro i hi
      have hi' : i < len := by simpa using hi
      have e : ((List.range len).map F).getD i dflt = F i := by simp [List.getD, hi']
      rw [e]
      exact (hF i hi').2
end
end Go.Proofs.Ytgkbefeiknfjcaa
