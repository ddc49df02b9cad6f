/-
  The document's store: what is a key, a key's chain.
-/
import Derived.Test.YtcfhkggijdjagaaIt
namespace Go.Proofs.Ytcfhkggijdjagaa
open Go.RowKit

theorem key31 (k : List UInt8) (w : World) : Calls Try.prog 32 #[.string (bs k)] w fun e w' => e = .returned (.bool (keyB k)) ∧ w' = w := by
  have hs := bs_size k
  by_cases h1 : 1 ≤ k.length
  · by_cases h2 : k.length ≤ 32
    · have hk : keyB k = true := by simp [keyB, h1, h2]
      rw [hk]
      have h1' : (1 : Int) ≤ k.length := by omega
      have h2' : (k.length : Int) ≤ 32 := by omega
      clear hk
      go_enter Try.func32, Try.ntmps32
      go_wp2_with fail
      go_ret
      exact ⟨rfl, rfl⟩
    · have hk : keyB k = false := by simp [keyB, h2]
      rw [hk]
      have h1' : (1 : Int) ≤ k.length := by omega
      have h2' : ¬ (k.length : Int) ≤ 32 := by omega
      clear hk
      go_enter Try.func32, Try.ntmps32
      go_wp2_with fail
      go_ret
      exact ⟨rfl, rfl⟩
  · have hk : keyB k = false := by simp [keyB, h1]
    rw [hk]
    have h1' : ¬ (1 : Int) ≤ k.length := by omega
    clear hk
    go_enter Try.func32, Try.ntmps32
    go_wp2_with fail
    go_ret
    exact ⟨rfl, rfl⟩

theorem drop_get {k : List UInt8} {L : Kv Sv} {m : Nat} (h : m < L.length) : getF k (L.drop m) = if (L.getD m dk).1 == k then some (L.getD m dk).2 else getF k (L.drop (m + 1)) := by
  rw [List.drop_eq_getElem_cons h]
  have e : L.getD m dk = L[m] := by simp [List.getD, h]
  rw [e]
  cases hx : L[m] with
  | mk a v => rfl

set_option maxHeartbeats 800000 in
theorem chain33 (B rb : Nat) (sl : Value) (L : Kv Sv) (k : List UInt8) (w : World) (h : RefAt B rb sl L w) :
    Calls Try.prog 34 #[.pointer (some ⟨rb, 0, none⟩), .string (bs k)] w fun e w' => e = .returned (svV ((getF k L).getD (none, 0, 0))) ∧ w' = w := by
  obtain ⟨ao, cap, rfl, hlc, hcm⟩ := h.shape
  have c0 := h.cell
  have HE : Hid (∀ i, i < L.length → ∃ g, ao = some ⟨g, 0, none⟩ ∧ w.cell? ⟨g, i * 2, none⟩ = some (.string (bs (L.getD i dk).1)) ∧ w.cell? ⟨g, i * 2 + 1, none⟩ = some (.slice (L.getD i dk).2.1 (L.getD i dk).2.2.1 (L.getD i dk).2.2.2)) := fun i hi => h.el hi
  have HD : Hid (∀ m, m < L.length → getF k (L.drop m) = if (L.getD m dk).1 == k then some (L.getD m dk).2 else getF k (L.drop (m + 1))) := fun m hm => drop_get hm
  have HZ : Hid (∀ m, L.length ≤ m → getF k (L.drop m) = none) := fun m hm => by rw [List.drop_eq_nil_of_le hm]; rfl
  have H0 : Hid (getF k (L.drop 0) = getF k L) := by rw [List.drop_zero]; rfl
  obtain ⟨y, hy⟩ : ∃ y, getF k L = y := ⟨_, rfl⟩
  rw [hy] at H0 ⊢
  have hL9 : L.length < 9223372036854775808 := by omega
  clear h hlc hcm hy
  go_enter Try.func34, Try.ntmps34
  go_wp2_with fail
  go_loopw [5] (fun i wr => wr = w ∧ ∃ m : Nat, m ≤ L.length ∧ i = .int .i64 m ∧ getF k (L.drop m) = y) (fun i _ => L.length - (intOf i).toNat)
  case atStart => exact ⟨rfl, 0, Nat.zero_le _, rfl, H0.out⟩
  case round =>
    obtain ⟨rfl, m, hm, rfl, hg⟩ := hrel
    by_cases hml : m < L.length
    · obtain ⟨g, rfl, e0, e1⟩ := HE.out m hml
      have hd := HD.out m hml
      rw [hg] at hd
      have hml' : (m : Int) < L.length := by omega
      generalize L.getD m dk = x at *
      obtain ⟨a, s⟩ := x
      dsimp only at e0 e1 hd
      have q0 := bs_beq a k
      by_cases hak : (a == k) = true
      · rw [hak] at q0
        rw [if_pos hak] at hd
        subst hd
        clear hg hak HE HD HZ H0
        go_wp2_with fail
        go_ret
        exact ⟨rfl, rfl⟩
      · have hak' : (a == k) = false := by simpa using hak
        rw [hak'] at q0
        rw [if_neg hak] at hd
        have HY : Hid (getF k (L.drop (m + 1)) = y) := hd.symm
        clear hg hak hak' hd
        go_wp2_with fail
        go_roundw
        case rel => exact ⟨trivial, m + 1, by omega, by go_num, HY.out⟩
        case measure => simp [intOf]; omega
    · have hml' : ¬ (m : Int) < L.length := by omega
      have hz := HZ.out m (by omega)
      rw [hg] at hz
      subst hz
      clear hg
      go_wp2_with fail
      go_ret
      exact ⟨rfl, rfl⟩
end Go.Proofs.Ytcfhkggijdjagaa
