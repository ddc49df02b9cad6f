/-
  What is read is bounded, whether or not it is an entry.
-/
import Derived.Test.YtmgjlpgjjeknpaaIf
import Derived.Test.YtmgjlpgjjeknpaaRp
namespace Go.Proofs.Ytmgjlpgjjeknpaa

theorem rdStamp_bd (st : St) : (rdStamp st).1.1 ≤ 281474976710656 ∧ (rdStamp st).1.2 ≤ 4095 := by
  have h1 := rdNum_le 281474976710656 st
  have h2 := rdNum_le 4095 (rdNum 281474976710656 st).2
  unfold rdStamp
  split
  · exact ⟨Nat.zero_le _, Nat.zero_le _⟩
  · exact ⟨h1.1, h2.1⟩
theorem rdText_bd (a : Int) (b : Nat) (st : St) : (rdText a b st).1.length ≤ b := by
  unfold rdText
  split
  · exact Nat.zero_le _
  · split
    · exact Nat.zero_le _
    · rename_i h
      split
      · exact Nat.zero_le _
      · simp only [List.length_take]
        omega
theorem rWs_bd : ∀ (n : Nat) (st : St), ∀ w ∈ (rWs n st).1, w.key.length ≤ 32 ∧ w.val.length ≤ 256
  | 0, st => by simp [rWs]
  | n + 1, st => by
    intro w hw
    unfold rWs at hw
    simp only [List.mem_append, List.mem_singleton] at hw
    rcases hw with h | rfl
    · exact rWs_bd n st w h
    · unfold rWr
      exact ⟨rdText_bd 1 32 _, rdText_bd 0 256 _⟩
theorem st_bd (b : Bool) (st : St) : (if b then rdStamp st else ((0, 0), st)).1.1 ≤ 281474976710656 ∧ (if b then rdStamp st else ((0, 0), st)).1.2 ≤ 4095 := by
  cases b with
  | true => exact rdStamp_bd st
  | false => exact ⟨Nat.zero_le _, Nat.zero_le _⟩
theorem rSt_bd (k : Int) (st : St) : (rSt k st).1.1 ≤ 281474976710656 ∧ (rSt k st).1.2 ≤ 4095 := st_bd (hasSt k) st
theorem rAt_bd (k : Int) (st : St) : (rAt k st).1.1 ≤ 281474976710656 ∧ (rAt k st).1.2 ≤ 4095 := st_bd (hasAt k) st
theorem rMin_bd (k : Int) (st : St) : (rMin k st).1.1 ≤ 281474976710656 ∧ (rMin k st).1.2 ≤ 4095 := by
  unfold rMin
  split
  · exact rdStamp_bd st
  · exact ⟨Nat.zero_le _, Nat.zero_le _⟩
theorem rPrim_bd (k : Int) (st : St) : (rPrim k st).1.length ≤ 32 := by
  unfold rPrim
  split
  · exact rdText_bd 1 32 st
  · exact Nat.zero_le _
theorem rCnt_bd (k : Int) (st : St) : (rCnt k st).1 ≤ 16 := by
  unfold rCnt
  split
  · exact (rdNum_le 16 st).1
  · dsimp only
    split <;> omega
/-- What bytes tell keeps to its types. -/
theorem raw_enok (s : List UInt8) : EnOk (rawE s).1 ∧ (rawE s).1.ws.length ≤ 16 := by
  have hrg := raw_rg s
  have hk := (rdNum_le 9 ⟨s, 0⟩).1
  unfold rawE at hrg ⊢
  simp only at hrg ⊢
  have hl : ∀ st n, n ≤ 16 → (rWs n st).1.length ≤ 16 := fun st n h => by rw [rWs_len]; exact h
  have b64 : ∀ {a c : Nat}, a ≤ 281474976710656 ∧ c ≤ 4095 → a < 18446744073709551616 ∧ c < 4294967296 := fun h => ⟨by omega, by omega⟩
  refine ⟨⟨hrg, ⟨by show (_ : Int) ≤ ((rdNum 9 ⟨s, 0⟩).1 : Int); omega, by show ((rdNum 9 ⟨s, 0⟩).1 : Int) ≤ _; omega⟩, b64 (rSt_bd _ _), b64 (rAt_bd _ _), b64 (rMin_bd _ _), Nat.le_trans (rPrim_bd _ _) (by decide), Nat.le_trans (hl _ _ (rCnt_bd _ _)) (by decide), fun w hw => ?_⟩, hl _ _ (rCnt_bd _ _)⟩
  have := rWs_bd _ _ w hw
  exact ⟨Nat.le_trans this.1 (by decide), Nat.le_trans this.2 (by decide)⟩
end Go.Proofs.Ytmgjlpgjjeknpaa
