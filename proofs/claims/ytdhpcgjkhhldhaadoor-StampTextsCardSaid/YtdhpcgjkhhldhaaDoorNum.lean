/-
  Contracts of the document's own reading: of a number's text, and of a stamp's text.
-/
import Derived.Test.YtdhpcgjkhhldhaaDoorDec
import Derived.Test.YtdhpcgjkhhldhaaDoorNext
import Derived.Lib.Strings
namespace Go.Proofs.YtdhpcgjkhhldhaaDoor
open Go.RowKit Go.Lib

theorem valF_lt (l : List UInt8) : (∀ c ∈ l, isDig c) → valF 0 l < 10 ^ l.length := by
  generalize hn : l.length = n
  induction n generalizing l with
  | zero =>
    intro _
    have := List.length_eq_zero_iff.1 hn
    subst this
    simp [valF]
  | succ n ih =>
    intro hd
    have hne : l ≠ [] := by intro e; subst e; simp at hn
    obtain ⟨x, c, rfl⟩ : ∃ x c, l = x ++ [c] := ⟨l.dropLast, l.getLast hne, (List.dropLast_concat_getLast hne).symm⟩
    have := ih x (by simpa using hn) (fun a ha => hd a (by simp [ha]))
    have hc := hd c (by simp)
    unfold isDig at hc
    rw [valF_snoc, Nat.pow_succ]
    omega
theorem take_snoc (s : ByteArray) (k : Nat) (h : k < s.size) : s.data.toList.take (k + 1) = s.data.toList.take k ++ [s[k]] := by
  rw [List.take_succ_eq_append_getElem (by simpa using h)]; rfl
theorem len_data (s : ByteArray) : s.data.toList.length = s.size := by rw [Array.length_toList]; rfl
theorem pow_le16 (k : Nat) (h : k ≤ 16) : (10 : Nat) ^ k ≤ 10000000000000000 := by
  have h2 : (10 : Nat) ^ 16 = 10000000000000000 := by simp
  rw [← h2]
  exact Nat.pow_le_pow_right (by omega) h

theorem int_eq {k : IntKind} {a b : Int} (h : a = b) : Value.int k a = .int k b := by rw [h]
theorem valF_take (s : ByteArray) (k : Nat) (h : k < s.size) : valF 0 (s.data.toList.take (k + 1)) = valF 0 (s.data.toList.take k) * 10 + (s[k].toNat - 48) := by
  rw [take_snoc s k h, valF_snoc]

set_option maxHeartbeats 400000 in
theorem num24_long (t : ByteArray) (w : World) (h : (16 : Int) < (t.size : Int)) (he : t.toList.isEmpty = false) :
    Calls Tryd.prog 24 #[.string t] w fun e w' => e = .returned (.tuple #[.int .u64 0, .bool false]) ∧ w' = w := by
  go_enter Tryd.func24, Tryd.ntmps24
  go_wp2
  go_ret2
  exact ⟨rfl, rfl⟩
set_option maxHeartbeats 400000 in
theorem num24_empty (t : ByteArray) (w : World) (he : t.toList.isEmpty = true) :
    Calls Tryd.prog 24 #[.string t] w fun e w' => e = .returned (.tuple #[.int .u64 0, .bool false]) ∧ w' = w := by
  go_enter Tryd.func24, Tryd.ntmps24
  go_wp2
  go_ret2
  exact ⟨rfl, rfl⟩
set_option maxHeartbeats 400000 in
theorem num24_zero (t : ByteArray) (w : World) (he : t.toList.isEmpty = false) (h16 : decide ((16 : Int) < (t.size : Int)) = false) (h1 : (1 : Int) < (t.size : Int)) (h0 : 0 < t.size) (hz : ((t[0].toNat : Int) == 48) = true) :
    Calls Tryd.prog 24 #[.string t] w fun e w' => e = .returned (.tuple #[.int .u64 0, .bool false]) ∧ w' = w := by
  go_enter Tryd.func24, Tryd.ntmps24
  go_wp2
  go_ret2
  exact ⟨rfl, rfl⟩

/-- Digits, up to the first that is none. -/
def allDig (l : List UInt8) : Bool := l.all (fun c => decide (48 ≤ c.toNat) && decide (c.toNat ≤ 57))
theorem allDig_iff {l : List UInt8} : allDig l = true ↔ ∀ c ∈ l, isDig c := by
  unfold allDig isDig
  simp only [List.all_eq_true, Bool.and_eq_true, decide_eq_true_eq]

set_option maxHeartbeats 1000000 in
theorem num24_loop (t : ByteArray) (w : World) (he : t.toList.isEmpty = false) (h16 : decide ((16 : Int) < (t.size : Int)) = false) (h0 : 0 < t.size) (hz : decide ((1 : Int) < (t.size : Int)) = false ∨ ((1 : Int) < (t.size : Int) ∧ ((t[0].toNat : Int) == 48) = false))
    (n : Int) (b : Bool) (hn : Hid ((if allDig t.data.toList then (valF 0 t.data.toList : Int) else 0) = n)) (hb : Hid (allDig t.data.toList = b)) :
    Calls Tryd.prog 24 #[.string t] w fun e w' => e = .returned (.tuple #[.int .u64 n, .bool b]) ∧ w' = w := by
  have hsz : t.size ≤ 16 := by simp at h16; omega
  rcases hz with hz | ⟨hz, hz2⟩
  all_goals
    go_enter Tryd.func24, Tryd.ntmps24
    go_wp2
    go_loop [4, 5] (fun n i => ∃ k : Nat, k ≤ t.size ∧ i = .int .i64 k ∧ n = .int .u64 (valF 0 (t.data.toList.take k)) ∧ ∀ c ∈ t.data.toList.take k, isDig c) (fun _ i => t.size - (intOf i).toNat)
    case atStart => exact ⟨0, Nat.zero_le _, rfl, by simp [valF], by simp⟩
    case round =>
      obtain ⟨k, hk, rfl, rfl, hd⟩ := hrel
      have hv := valF_lt _ hd
      have hp := pow_le16 (t.data.toList.take k).length (Nat.le_trans (List.length_take_le _ _) (by omega))
      have hv2 : valF 0 (t.data.toList.take k) < 10000000000000000 := by omega
      clear hv hp
      have HD : Hid (∀ c ∈ t.data.toList.take k, isDig c) := hd
      clear hd
      by_cases hlt : k < t.size
      · have HX := valF_take t k hlt
        have HV : Hid (valF 0 (t.data.toList.take (k + 1)) = valF 0 (t.data.toList.take k) * 10 + (t[k].toNat - 48)) := HX
        clear HX
        have hmem : t[k] ∈ t.data.toList := by
          have : t[k] = t.data.toList[k]'(by rw [len_data]; exact hlt) := rfl
          rw [this]; exact List.getElem_mem _
        have HM : Hid (t[k] ∈ t.data.toList) := hmem
        clear hmem
        by_cases hlo : ((t[k].toNat : Int) < 48)
        · go_wp2_with fail
          go_ret2
          have hno : allDig t.data.toList = false := by
            rw [← Bool.not_eq_true, allDig_iff]
            intro hall
            have := hall _ HM.out
            unfold isDig at this
            omega
          have e1 : b = false := hb.out.symm.trans hno
          have e2 : n = 0 := by rw [← hn.out, hno]; rfl
          exact ⟨by rw [e1, e2]; rfl, rfl⟩
        · by_cases hhi : ((57 : Int) < (t[k].toNat : Int))
          · go_wp2_with fail
            go_ret2
            have hno : allDig t.data.toList = false := by
              rw [← Bool.not_eq_true, allDig_iff]
              intro hall
              have := hall _ HM.out
              unfold isDig at this
              omega
            have e1 : b = false := hb.out.symm.trans hno
            have e2 : n = 0 := by rw [← hn.out, hno]; rfl
            exact ⟨by rw [e1, e2]; rfl, rfl⟩
          · go_wp2_with fail
            go_round
            case rel =>
              refine ⟨k + 1, by omega, by go_num, ?_, ?_⟩
              · rw [HV.out]
                exact int_eq (by omega)
              · rw [take_snoc t k hlt]
                intro c hc
                simp only [List.mem_append, List.mem_singleton] at hc
                rcases hc with hc | rfl
                · exact HD.out c hc
                · unfold isDig; omega
            case measure => simp [intOf]; omega
      · have hkk : t.data.toList.take k = t.data.toList := List.take_of_length_le (by rw [len_data]; omega)
        rw [hkk] at HD
        go_wp2
        go_ret2
        have hyes : allDig t.data.toList = true := allDig_iff.2 HD.out
        have e1 : b = true := hb.out.symm.trans hyes
        have e2 : n = (valF 0 t.data.toList : Int) := by rw [← hn.out, hyes]; rfl
        exact ⟨by rw [e1, e2, ← hkk]; rfl, rfl⟩

theorem toList_data (t : ByteArray) : t.toList = t.data.toList := ByteArray.toList_eq t

/-- The document's reading of a number. -/
theorem num24 (t : ByteArray) (w : World) :
    Calls Tryd.prog 24 #[.string t] w fun e w' => e = .returned (.tuple #[.int .u64 (if numB t.data.toList then (valF 0 t.data.toList : Int) else 0), .bool (numB t.data.toList)]) ∧ w' = w := by
  have hlen := len_data t
  by_cases h0 : t.size = 0
  · have hnil : t.data.toList = [] := List.length_eq_zero_iff.1 (by rw [hlen]; exact h0)
    have hb : numB t.data.toList = false := by rw [hnil]; rfl
    rw [hb]
    exact num24_empty t w (by rw [toList_data, hnil]; rfl)
  · have hne : t.data.toList ≠ [] := fun e => h0 (by rw [← hlen, e]; rfl)
    have he : t.toList.isEmpty = false := by rw [toList_data]; cases hx : t.data.toList with
      | nil => exact absurd hx hne
      | cons a r => rfl
    by_cases h16 : 16 < t.size
    · have hb : numB t.data.toList = false := by
        rw [← Bool.not_eq_true, numB_iff, hlen]
        omega
      rw [hb]
      exact num24_long t w (by omega) he
    · have d16 : decide ((16 : Int) < (t.size : Int)) = false := by simp; omega
      have hhead : t.data.toList.head? = some t[0] := by
        cases hx : t.data.toList with
        | nil => exact absurd hx hne
        | cons a r =>
          have : t[0] = t.data.toList[0]'(by rw [hlen]; omega) := rfl
          rw [this]
          simp [hx]
      by_cases h1 : 1 < t.size ∧ t[0] = 48
      · have hb : numB t.data.toList = false := by
          rw [← Bool.not_eq_true, numB_iff, hlen, hhead, h1.2]
          intro h
          exact h.2.2.1 h1.1 rfl
        rw [hb]
        exact num24_zero t w he d16 (by omega) (by omega) (by rw [h1.2]; rfl)
      · have hb : numB t.data.toList = allDig t.data.toList := by
          rw [Bool.eq_iff_iff, numB_iff, allDig_iff, hlen, hhead]
          refine ⟨fun h => h.2.2.2, fun h => ⟨hne, by omega, fun h2 e => h1 ⟨h2, Option.some.inj e⟩, h⟩⟩
        rw [hb]
        refine num24_loop t w he d16 (by omega) ?_ _ _ rfl rfl
        by_cases h2 : 1 < t.size
        · refine .inr ⟨by omega, ?_⟩
          have h3 : t[0] ≠ 48 := fun e => h1 ⟨h2, e⟩
          rw [beq_eq_false_iff_ne]
          intro e
          apply h3
          apply UInt8.toNat_inj.1
          have h48 : (48 : UInt8).toNat = 48 := rfl
          omega
        · exact .inl (by simp; omega)

theorem num24_t (t : ByteArray) (w : World) (n : Nat) (hb : numB t.data.toList = true) (hn : valF 0 t.data.toList = n) :
    Calls Tryd.prog 24 #[.string t] w fun e w' => e = .returned (.tuple #[.int .u64 n, .bool true]) ∧ w' = w := by
  have h := num24 t w
  rw [hb, hn] at h
  exact h
theorem num24_f (t : ByteArray) (w : World) (hb : numB t.data.toList = false) :
    Calls Tryd.prog 24 #[.string t] w fun e w' => e = .returned (.tuple #[.int .u64 0, .bool false]) ∧ w' = w := by
  have h := num24 t w
  rw [hb] at h
  exact h
end Go.Proofs.YtdhpcgjkhhldhaaDoor
