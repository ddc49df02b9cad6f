/-
  Plain facts on reading: what was written is read as it was; what is read was written so; a beginning is not read whole.
-/
import Derived.Test.YtmldgfepnmencaaMethods
namespace Go.Proofs.Ytmldgfepnmencaa

theorem nb_one {n : Nat} (h : 247 < n) : 1 ≤ nb n := by rw [nb_pos (by omega)]; omega

/-- Of a form that is cut off behind c bytes, or not. -/
theorem first_take (n c : Nat) (R : List UInt8) (hn : n < 18446744073709551616) : rdFirst ((numForm n ++ R).take c) = if c < sz n then (0, 0, 4) else (n, sz n, 0) := by
  have hk := nb_le8 hn
  cases c with
  | zero =>
    rw [if_pos (by have := sz_pos n; omega)]; rfl
  | succ c =>
    by_cases h : n ≤ 247
    · have hs : sz n = 1 := by simp [sz, h]
      have hf : numForm n = [UInt8.ofNat n] := by simp [numForm, h]
      rw [hs, hf, if_neg (by omega)]
      have h2 : (UInt8.ofNat n).toNat = n := u8_of n (by omega)
      show rdFirst (UInt8.ofNat n :: _) = _
      rw [rdFirst, if_pos (by rw [h2]; exact h), h2]
    · have hs : sz n = 1 + nb n := by simp [sz, h]
      have hf : numForm n = UInt8.ofNat (247 + nb n) :: dg n := by simp [numForm, h]
      have h1 := nb_one (n := n) (by omega)
      have hb : (UInt8.ofNat (247 + nb n)).toNat = 247 + nb n := u8_of _ (by omega)
      have hd := dg_length n
      rw [hs, hf, List.cons_append, List.take_succ_cons, rdFirst, hb, if_neg (by omega), show 247 + nb n - 247 = nb n by omega]
      by_cases hc : c < nb n
      · rw [if_pos (by rw [List.length_take]; omega), if_pos (by omega)]
      · have ht : ((dg n ++ R).take c).take (nb n) = dg n := by
          rw [List.take_take, Nat.min_eq_left (by omega), List.take_append_of_le_length (by omega), ← hd, List.take_length]
        rw [if_neg (by rw [List.length_take, List.length_append]; omega), ht, vl_dg, hs, if_pos rfl, if_neg (by omega)]

theorem num_take (n c most : Nat) (R : List UInt8) (hn : n < 18446744073709551616) (hm : n ≤ most) :
    rdNum most ⟨(numForm n ++ R).take c, 0⟩ = if c < sz n then (0, ⟨[], 4⟩) else (n, ⟨R.take (c - sz n), 0⟩) := by
  have hf := first_take n c R hn
  have hl := numForm_length n
  unfold rdNum
  dsimp only
  rw [if_neg (by simp), hf]
  by_cases hc : c < sz n
  · rw [if_pos hc, if_pos hc, if_pos (by decide)]
  · rw [if_neg hc, if_neg hc, if_neg (by simp), if_neg (by dsimp only; omega)]
    dsimp only
    congr 2
    rw [List.drop_take, List.drop_append_of_le_length (by omega), ← hl, List.drop_length, List.nil_append]

theorem num_form (n most : Nat) (R : List UInt8) (hn : n < 18446744073709551616) (hm : n ≤ most) : rdNum most ⟨numForm n ++ R, 0⟩ = (n, ⟨R, 0⟩) := by
  have h := num_take n (sz n + R.length) most R hn hm
  have hl := numForm_length n
  rw [if_neg (by omega), List.take_of_length_le (by rw [List.length_append]; omega), List.take_of_length_le (by omega)] at h
  exact h

theorem num_bad (most : Nat) {st : St} (h : st.e ≠ 0) : rdNum most st = (0, st) := by unfold rdNum; rw [if_pos h]

/-- A text's form. -/
def textForm (s : List UInt8) : List UInt8 := numForm s.length ++ s

theorem text_take (s R : List UInt8) (c : Nat) (least most : Int) (hs : s.length < 9223372036854775808) (h1 : least ≤ s.length) (h2 : (s.length : Int) ≤ most) :
    rdText least most ⟨(textForm s ++ R).take c, 0⟩ = if c < sz s.length + s.length then ([], ⟨[], 4⟩) else (s, ⟨R.take (c - (sz s.length + s.length)), 0⟩) := by
  have h := num_take s.length c 18446744073709551615 (s ++ R) (by omega) (by omega)
  rw [← List.append_assoc] at h
  change rdNum _ ⟨(textForm s ++ R).take c, 0⟩ = _ at h
  unfold rdText
  rw [h]
  by_cases hc : c < sz s.length
  · rw [if_pos hc]
    dsimp only
    rw [if_pos (by decide), if_pos (by omega)]
  · rw [if_neg hc]
    dsimp only
    rw [if_neg (by simp), if_neg (by omega)]
    by_cases hc2 : c < sz s.length + s.length
    · rw [if_pos hc2, if_pos (by rw [List.length_take]; omega)]
    · have e1 : ((s ++ R).take (c - sz s.length)).take s.length = s := by
        rw [List.take_take, Nat.min_eq_left (by omega), List.take_append_of_le_length (Nat.le_refl _), List.take_length]
      have e2 : ((s ++ R).take (c - sz s.length)).drop s.length = R.take (c - (sz s.length + s.length)) := by
        rw [List.drop_take, List.drop_append_of_le_length (Nat.le_refl _), List.drop_length, List.nil_append, Nat.sub_sub]
      rw [if_neg hc2, if_neg (by rw [List.length_take, List.length_append]; omega), e1, e2]

theorem text_form (s R : List UInt8) (least most : Int) (hs : s.length < 9223372036854775808) (h1 : least ≤ s.length) (h2 : (s.length : Int) ≤ most) : rdText least most ⟨textForm s ++ R, 0⟩ = (s, ⟨R, 0⟩) := by
  have h := text_take s R (sz s.length + s.length + R.length) least most hs h1 h2
  have hl := numForm_length s.length
  rw [if_neg (by omega), List.take_of_length_le (by rw [textForm, List.length_append, List.length_append]; omega), List.take_of_length_le (by omega)] at h
  exact h

theorem text_bad (least most : Int) {st : St} (h : st.e ≠ 0) : rdText least most st = ([], st) := by
  unfold rdText; rw [num_bad _ h, if_pos h]

theorem flag_form (b : Bool) (R : List UInt8) : rdFlag ⟨flagForm b ++ R, 0⟩ = (b, ⟨R, 0⟩) := by
  cases b <;> simp [rdFlag, flagForm]
theorem flag_bad {st : St} (h : st.e ≠ 0) : rdFlag st = (false, st) := by unfold rdFlag; rw [if_pos h]

theorem stamp_form (p q : Nat) (R : List UInt8) (hp : p ≤ 281474976710656) (hq : q ≤ 4095) : rdStamp ⟨stampForm p q ++ R, 0⟩ = ((p, q), ⟨R, 0⟩) := by
  unfold rdStamp
  rw [stampForm, List.append_assoc, num_form p _ _ (by omega) hp]
  dsimp only
  rw [num_form q _ _ (by omega) hq]
  simp
theorem stamp_bad {st : St} (h : st.e ≠ 0) : rdStamp st = ((0, 0), st) := by
  unfold rdStamp; rw [num_bad _ h, num_bad _ h, if_pos h]

theorem stamp_take (p q c : Nat) (hp : p ≤ 281474976710656) (hq : q ≤ 4095) (hc : c < sz p + sz q) : (rdStamp ⟨(stampForm p q).take c, 0⟩).2 = ⟨[], 4⟩ := by
  have h := num_take p c 281474976710656 (numForm q) (by omega) hp
  unfold rdStamp
  rw [stampForm, h]
  by_cases h1 : c < sz p
  · rw [if_pos h1]
    dsimp only
    rw [num_bad 4095 (st := ⟨[], 4⟩) (by decide)]
    rfl
  · rw [if_neg h1]
    dsimp only
    have h2 := num_take q (c - sz p) 4095 [] (by omega) hq
    rw [List.append_nil, if_pos (by omega)] at h2
    rw [h2]
    rfl

/-- What is read of bytes was written so. -/
theorem first_ok {l : List UInt8} {n t : Nat} (h : rdFirst l = (n, t, 0)) : t = sz n ∧ l = numForm n ++ l.drop t := by
  cases l with
  | nil => simp [rdFirst] at h
  | cons b r =>
    have hb := u8_lt b
    rw [rdFirst] at h
    by_cases h1 : b.toNat ≤ 247
    · rw [if_pos h1] at h
      simp only [Prod.mk.injEq] at h
      obtain ⟨rfl, rfl, _⟩ := h
      refine ⟨by simp [sz, h1], ?_⟩
      simp [numForm, h1]
    · rw [if_neg h1] at h
      by_cases h2 : r.length < b.toNat - 247
      · rw [if_pos h2] at h; simp at h
      · rw [if_neg h2] at h
        by_cases h3 : 1 + (b.toNat - 247) = sz (vl (r.take (b.toNat - 247)))
        · rw [if_pos h3] at h
          simp only [Prod.mk.injEq] at h
          obtain ⟨hn, ht, _⟩ := h
          rw [hn] at h3
          refine ⟨by omega, ?_⟩
          have h4 : ¬ n ≤ 247 := by intro h4; simp [sz, h4] at h3; omega
          have h5 : nb n = b.toNat - 247 := by simp [sz, h4] at h3; omega
          have h6 := dg_vl (r.take (b.toNat - 247)) (by rw [hn, h5, List.length_take]; omega)
          rw [hn] at h6
          have h7 : UInt8.ofNat (247 + nb n) = b := by rw [h5, show 247 + (b.toNat - 247) = b.toNat by omega]; simp
          have hf : numForm n = b :: r.take (b.toNat - 247) := by simp only [numForm, if_neg h4, h6, h7]
          rw [hf, ← ht, Nat.add_comm 1, List.drop_succ_cons, List.cons_append, List.take_append_drop]
        · rw [if_neg h3] at h; simp at h

theorem num_ok {most : Nat} {st : St} (h : (rdNum most st).2.e = 0) : st.e = 0 ∧ st.l = numForm (rdNum most st).1 ++ (rdNum most st).2.l := by
  unfold rdNum at h ⊢
  by_cases h0 : st.e ≠ 0
  · rw [if_pos h0] at h; exact absurd h h0
  · rw [if_neg h0] at h ⊢
    by_cases h1 : (rdFirst st.l).2.2 ≠ 0
    · rw [if_pos h1] at h; exact absurd h h1
    · rw [if_neg h1] at h ⊢
      by_cases h2 : most < (rdFirst st.l).1
      · rw [if_pos h2] at h; simp at h
      · rw [if_neg h2]
        obtain ⟨⟨n, t, x⟩, hf⟩ : ∃ f, f = rdFirst st.l := ⟨_, rfl⟩
        rw [← hf] at h1 ⊢
        simp at h1
        subst h1
        exact ⟨by simpa using h0, (first_ok hf.symm).2⟩

/-- At an error nothing is left. -/
def Good (st : St) : Prop := st.e ≠ 0 → st.l = []
theorem good_new (l : List UInt8) : Good ⟨l, 0⟩ := fun h => absurd rfl h
theorem num_good (most : Nat) {st : St} (h : Good st) : Good (rdNum most st).2 := by
  unfold rdNum
  split
  · exact h
  · split
    · exact fun _ => rfl
    · split
      · exact fun _ => rfl
      · exact fun h => absurd rfl h
theorem text_good (least most : Int) {st : St} (h : Good st) : Good (rdText least most st).2 := by
  unfold rdText
  split
  · exact num_good _ h
  · split
    · exact fun _ => rfl
    · split
      · exact fun _ => rfl
      · exact fun h => absurd rfl h
theorem stamp_good {st : St} (h : Good st) : Good (rdStamp st).2 := by
  unfold rdStamp
  split
  · exact num_good _ (num_good _ h)
  · exact num_good _ (num_good _ h)
theorem flag_good {st : St} (h : Good st) : Good (rdFlag st).2 := by
  unfold rdFlag
  split
  · exact h
  · split
    · exact fun _ => rfl
    · split
      · exact fun _ => rfl
      · exact fun h => absurd rfl h

theorem text_ok {least most : Int} {st : St} (h : (rdText least most st).2.e = 0) : st.e = 0 ∧ st.l = textForm (rdText least most st).1 ++ (rdText least most st).2.l := by
  unfold rdText at h ⊢
  by_cases h0 : (rdNum 18446744073709551615 st).2.e ≠ 0
  · rw [if_pos h0] at h; exact absurd h h0
  · rw [if_neg h0] at h ⊢
    split at h
    · simp at h
    · split at h
      · simp at h
      · rename_i h1 h2
        rw [if_neg h1, if_neg h2]
        obtain ⟨h3, h4⟩ := num_ok (by simpa using h0)
        refine ⟨h3, ?_⟩
        dsimp only
        rw [textForm, List.length_take, Nat.min_eq_left (by omega), List.append_assoc, List.take_append_drop]
        exact h4

theorem flag_ok {st : St} (h : (rdFlag st).2.e = 0) : st.e = 0 ∧ st.l = flagForm (rdFlag st).1 ++ (rdFlag st).2.l := by
  obtain ⟨l, e⟩ := st
  unfold rdFlag at h ⊢
  by_cases h0 : e ≠ 0
  · rw [if_pos h0] at h; exact absurd h h0
  · rw [if_neg h0] at h ⊢
    cases l with
    | nil => simp at h
    | cons b r =>
      dsimp only at h ⊢
      by_cases h1 : 1 < b.toNat
      · rw [if_pos h1] at h; simp at h
      · rw [if_neg h1]
        refine ⟨by simpa using h0, ?_⟩
        dsimp only
        have hb : b = if b.toNat == 1 then 1 else 0 := by
          apply UInt8.toNat.inj
          by_cases h2 : b.toNat = 1
          · simp [h2]
          · simp [h2]; omega
        simp only [flagForm, List.cons_append, List.nil_append, ← hb]

theorem stamp_ok {st : St} (h : (rdStamp st).2.e = 0) : st.e = 0 ∧ st.l = stampForm (rdStamp st).1.1 (rdStamp st).1.2 ++ (rdStamp st).2.l := by
  unfold rdStamp at h ⊢
  by_cases h0 : (rdNum 4095 (rdNum 281474976710656 st).2).2.e ≠ 0
  · rw [if_pos h0] at h; exact absurd h h0
  · rw [if_neg h0]
    obtain ⟨h1, h2⟩ := num_ok (show (rdNum 4095 (rdNum 281474976710656 st).2).2.e = 0 by simpa using h0)
    obtain ⟨h3, h4⟩ := num_ok h1
    refine ⟨h3, ?_⟩
    dsimp only
    rw [stampForm, List.append_assoc, ← h2]
    exact h4

theorem text_len (least most : Int) (st : St) : (rdText least most st).2.l.length ≤ st.l.length ∧ (rdText least most st).1.length ≤ st.l.length := by
  have := (rdNum_le 18446744073709551615 st).2.1
  unfold rdText
  split
  · exact ⟨this, Nat.zero_le _⟩
  · split
    · exact ⟨Nat.zero_le _, Nat.zero_le _⟩
    · split
      · exact ⟨Nat.zero_le _, Nat.zero_le _⟩
      · constructor
        · dsimp only; rw [List.length_drop]; omega
        · dsimp only; rw [List.length_take]; omega
theorem stamp_len (st : St) : (rdStamp st).2.l.length ≤ st.l.length := by
  have h1 := (rdNum_le 281474976710656 st).2.1
  have h2 := (rdNum_le 4095 (rdNum 281474976710656 st).2).2.1
  unfold rdStamp
  split <;> (dsimp only; omega)
theorem stamp_le (st : St) : (rdStamp st).1.1 ≤ 281474976710656 ∧ (rdStamp st).1.2 ≤ 4095 := by
  have h1 := (rdNum_le 281474976710656 st).1
  have h2 := (rdNum_le 4095 (rdNum 281474976710656 st).2).1
  unfold rdStamp
  split
  · exact ⟨Nat.zero_le _, Nat.zero_le _⟩
  · exact ⟨h1, h2⟩
theorem flag_len (st : St) : (rdFlag st).2.l.length ≤ st.l.length := by
  obtain ⟨l, e⟩ := st
  unfold rdFlag
  split
  · exact Nat.le_refl _
  · cases l with
    | nil => exact Nat.le_refl _
    | cons b r =>
      dsimp only
      split
      · exact Nat.zero_le _
      · show r.length ≤ r.length + 1; omega

end Go.Proofs.Ytmldgfepnmencaa
