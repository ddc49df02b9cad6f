/-
  Plain facts on frames: what is wrapped is read as it was; what is read was wrapped so; a beginning is not read whole; one byte that is another is told.
-/
import Derived.Test.YtjjdmeemhgopbaaBack
import Derived.Test.YtjjdmeemhgopbaaSeal
namespace Go.Proofs.Ytjjdmeemhgopbaa

/-- A payload's frame. -/
def frameOf (p : List UInt8) : List UInt8 := 215 :: (textForm p ++ four (crc (textForm p)))

theorem four_len (x : Nat) : (four x).length = 4 := rfl
theorem textForm_len (p : List UInt8) : (textForm p).length = sz p.length + p.length := by rw [textForm, List.length_append, numForm_length]
theorem frameOf_len (p : List UInt8) : (frameOf p).length = sz p.length + p.length + 5 := by
  rw [frameOf, List.length_cons, List.length_append, textForm_len, four_len]

/-- The frame with which bytes begin: payload, bytes that it takes, error. -/
def rdNext (l : List UInt8) : List UInt8 × Nat × Nat :=
  if l = [] then ([], 0, 4) else
  if l.headD 0 ≠ 215 then ([], 0, 2) else
  if (rdText 0 16384 ⟨l.drop 1, 0⟩).2.e ≠ 0 then ([], 0, (rdText 0 16384 ⟨l.drop 1, 0⟩).2.e) else
  if (rdText 0 16384 ⟨l.drop 1, 0⟩).2.l.length < 4 then ([], 0, 4) else
  if (rdText 0 16384 ⟨l.drop 1, 0⟩).2.l.take 4 ≠ four (crc (textForm (rdText 0 16384 ⟨l.drop 1, 0⟩).1)) then ([], 0, 5) else
  ((rdText 0 16384 ⟨l.drop 1, 0⟩).1, (frameOf (rdText 0 16384 ⟨l.drop 1, 0⟩).1).length, 0)

theorem sz_small {n : Nat} (h : n ≤ 16384) : sz n ≤ 3 := by
  unfold sz
  have := nb_le 2 n (by omega)
  split <;> omega

theorem sz_mono {a b : Nat} (h : a ≤ b) : sz a ≤ sz b := by
  unfold sz
  have := nb_mono h
  split <;> split <;> omega

/-- What a text that is read has: no more than it may. -/
theorem text_most {least most : Int} {st : St} (h : (rdText least most st).2.e = 0) : ((rdText least most st).1.length : Int) ≤ most := by
  unfold rdText at h ⊢
  split at h
  · rename_i h0; exact absurd h h0
  · rename_i h0
    rw [if_neg h0]
    split at h
    · simp at h
    · rename_i h1
      rw [if_neg h1]
      split at h
      · simp at h
      · rename_i h2
        rw [if_neg h2]
        dsimp only
        rw [List.length_take, Nat.min_eq_left (by omega)]
        omega

/-- What is read was wrapped so. -/
theorem next_ok {l p : List UInt8} {t : Nat} (h : rdNext l = (p, t, 0)) : p.length ≤ 16384 ∧ t = (frameOf p).length ∧ l = frameOf p ++ l.drop t := by
  unfold rdNext at h
  split at h
  · simp at h
  rename_i h0
  split at h
  · simp at h
  rename_i h1
  split at h
  · rename_i h2; simp only [Prod.mk.injEq] at h; exact absurd h.2.2 h2
  rename_i h2
  split at h
  · simp at h
  rename_i h3
  split at h
  · simp at h
  rename_i h4
  have h2' : (rdText 0 16384 ⟨l.drop 1, 0⟩).2.e = 0 := by simpa using h2
  have hok := (text_ok h2').2
  have hmost := text_most h2'
  simp only [Prod.mk.injEq, and_true] at h
  obtain ⟨hp, ht⟩ := h
  rw [hp] at hok hmost h4 ht
  refine ⟨by omega, ht.symm, ?_⟩
  have h4' : (rdText 0 16384 ⟨l.drop 1, 0⟩).2.l.take 4 = four (crc (textForm p)) := by simpa using h4
  generalize (rdText 0 16384 ⟨l.drop 1, 0⟩).2.l = R at hok h3 h4'
  cases l with
  | nil => exact absurd rfl h0
  | cons b r =>
    simp only [List.drop_succ_cons, List.drop_zero] at hok
    have hb : b = 215 := by simpa using h1
    have hfr : b :: r = frameOf p ++ R.drop 4 := by
      rw [frameOf, hb, hok, ← h4', List.cons_append, List.append_assoc, List.take_append_drop]
    rw [hfr, ← ht, List.drop_left]

/-- What is wrapped is read as it was, unless it is cut off. -/
theorem next_take (p R : List UInt8) (c : Nat) (hp : p.length ≤ 16384) :
    rdNext ((frameOf p ++ R).take c) = if c < (frameOf p).length then ([], 0, 4) else (p, (frameOf p).length, 0) := by
  have hfl := frameOf_len p
  cases c with
  | zero => rw [if_pos (by omega)]; rfl
  | succ c =>
    have htx := text_take p (four (crc (textForm p)) ++ R) c 0 16384 (by omega) (by omega) (by omega)
    have e : (frameOf p ++ R).take (c + 1) = 215 :: (textForm p ++ (four (crc (textForm p)) ++ R)).take c := by
      rw [frameOf, List.cons_append, List.take_succ_cons, List.append_assoc]
    rw [e]
    unfold rdNext
    rw [if_neg (by simp), if_neg (by simp)]
    simp only [List.drop_succ_cons, List.drop_zero]
    rw [htx]
    by_cases hc : c < sz p.length + p.length
    · rw [if_pos hc]
      dsimp only
      rw [if_pos (by decide), if_pos (by omega)]
    · rw [if_neg hc]
      dsimp only
      rw [if_neg (by simp)]
      by_cases hc2 : c + 1 < (frameOf p).length
      · rw [if_pos (by rw [List.length_take, List.length_append, four_len]; omega), if_pos hc2]
      · rw [if_neg (by rw [List.length_take, List.length_append, four_len]; omega), if_neg hc2]
        rw [if_neg]
        have h4 : ((four (crc (textForm p)) ++ R).take (c - (sz p.length + p.length))).take 4 = four (crc (textForm p)) := by
          rw [List.take_take, Nat.min_eq_left (by omega)]
          exact List.take_left' (four_len _)
        rw [h4]
        simp

theorem next_form (p R : List UInt8) (hp : p.length ≤ 16384) : rdNext (frameOf p ++ R) = (p, (frameOf p).length, 0) := by
  have h := next_take p R ((frameOf p).length + R.length) hp
  rw [if_neg (by omega), List.take_of_length_le (by rw [List.length_append]; omega)] at h
  exact h

/-- .. said as the document's own answer goes: by the number alone, and the frame of what follows. -/
theorem next_ref (r : List UInt8) : rdNext (215 :: r) =
    if (rdNum 16384 ⟨r, 0⟩).2.e ≠ 0 then ([], 0, (rdNum 16384 ⟨r, 0⟩).2.e) else
    if (rdNum 16384 ⟨r, 0⟩).2.l.length < (rdNum 16384 ⟨r, 0⟩).1 + 4 then ([], 0, 4) else
    if (215 :: r).take (frameOf ((rdNum 16384 ⟨r, 0⟩).2.l.take (rdNum 16384 ⟨r, 0⟩).1)).length ≠ frameOf ((rdNum 16384 ⟨r, 0⟩).2.l.take (rdNum 16384 ⟨r, 0⟩).1) then ([], 0, 5) else
    ((rdNum 16384 ⟨r, 0⟩).2.l.take (rdNum 16384 ⟨r, 0⟩).1, (frameOf ((rdNum 16384 ⟨r, 0⟩).2.l.take (rdNum 16384 ⟨r, 0⟩).1)).length, 0) := by
  have hlt := (rdFirst_lt r).1
  unfold rdNext
  rw [if_neg (by simp), if_neg (by simp)]
  simp only [List.drop_succ_cons, List.drop_zero]
  by_cases hx : (rdFirst r).2.2 = 0
  · by_cases hm : 16384 < (rdFirst r).1
    · have h1 : rdNum 16384 ⟨r, 0⟩ = (0, ⟨[], 3⟩) := by simp [rdNum, hx, hm]
      have h2 : rdNum 18446744073709551615 ⟨r, 0⟩ = ((rdFirst r).1, ⟨r.drop (rdFirst r).2.1, 0⟩) := by
        simp only [rdNum, hx]
        rw [if_neg (by simp), if_neg (by simp), if_neg (by omega)]
      have h3 : rdText 0 16384 ⟨r, 0⟩ = ([], ⟨[], 3⟩) := by
        unfold rdText
        rw [h2]
        dsimp only
        rw [if_neg (by simp), if_pos (by omega)]
      rw [h1, h3]
      rfl
    · have h1 : rdNum 16384 ⟨r, 0⟩ = ((rdFirst r).1, ⟨r.drop (rdFirst r).2.1, 0⟩) := by
        simp only [rdNum, hx]
        rw [if_neg (by simp), if_neg (by simp), if_neg (by omega)]
      have h2 : rdNum 18446744073709551615 ⟨r, 0⟩ = ((rdFirst r).1, ⟨r.drop (rdFirst r).2.1, 0⟩) := by
        simp only [rdNum, hx]
        rw [if_neg (by simp), if_neg (by simp), if_neg (by omega)]
      have hok := (num_ok (show (rdNum 16384 ⟨r, 0⟩).2.e = 0 by rw [h1])).2
      rw [h1] at hok ⊢
      dsimp only at hok ⊢
      generalize (rdFirst r).1 = n at *
      generalize r.drop (rdFirst r).2.1 = R at *
      rw [if_neg (show ¬ (0 : Nat) ≠ 0 by simp)]
      have h3 : rdText 0 16384 ⟨r, 0⟩ = if R.length < n then ([], ⟨[], 4⟩) else (R.take n, ⟨R.drop n, 0⟩) := by
        unfold rdText
        rw [h2]
        dsimp only
        rw [if_neg (by simp), if_neg (by omega)]
      rw [h3]
      by_cases hc : R.length < n
      · rw [if_pos hc]
        dsimp only
        rw [if_pos (by decide), if_pos (by omega)]
      · rw [if_neg hc]
        dsimp only
        rw [if_neg (by simp), List.length_drop]
        by_cases hc4 : R.length < n + 4
        · rw [if_pos (by omega), if_pos hc4]
        · rw [if_neg (by omega), if_neg hc4]
          have hpl : (R.take n).length = n := by rw [List.length_take]; omega
          have htf : numForm n ++ R = textForm (R.take n) ++ R.drop n := by rw [textForm, hpl, List.append_assoc, List.take_append_drop]
          have key : (215 :: r).take (frameOf (R.take n)).length = 215 :: (textForm (R.take n) ++ (R.drop n).take 4) := by
            rw [frameOf_len, ← textForm_len, List.take_succ_cons, hok, htf, List.take_length_add_append]
          rw [key, frameOf]
          by_cases hs : (R.drop n).take 4 = four (crc (textForm (R.take n)))
          · rw [if_neg (by simp [hs]), if_neg (by simp [hs])]
          · rw [if_pos hs, if_pos (by simp [hs])]
  · have h1 : rdNum 16384 ⟨r, 0⟩ = (0, ⟨[], (rdFirst r).2.2⟩) := by simp [rdNum, hx]
    have h2 : rdNum 18446744073709551615 ⟨r, 0⟩ = (0, ⟨[], (rdFirst r).2.2⟩) := by simp [rdNum, hx]
    have h3 : rdText 0 16384 ⟨r, 0⟩ = ([], ⟨[], (rdFirst r).2.2⟩) := by
      unfold rdText
      rw [h2]
      dsimp only
      rw [if_pos hx]
    rw [h1, h3]
    dsimp only
    rw [if_pos hx, if_pos hx]

/-- The frames of two payloads, neither of which begins the other. -/
theorem frame_apart {p q : List UInt8} (hp : p.length ≤ 16384) (hq : q.length ≤ 16384) (h : (frameOf p).take (min (frameOf p).length (frameOf q).length) = (frameOf q).take (min (frameOf p).length (frameOf q).length)) : p = q := by
  by_cases hl : (frameOf p).length ≤ (frameOf q).length
  · rw [Nat.min_eq_left hl, List.take_length] at h
    have h1 : frameOf q = frameOf p ++ (frameOf q).drop (frameOf p).length := by
      conv => lhs; rw [← List.take_append_drop (frameOf p).length (frameOf q)]
      rw [← h]
    have h2 := next_form p ((frameOf q).drop (frameOf p).length) hp
    rw [← h1] at h2
    have h3 := next_form q [] hq
    rw [List.append_nil, h2] at h3
    simp only [Prod.mk.injEq] at h3
    exact h3.1
  · rw [Nat.min_eq_right (by omega), List.take_length] at h
    have h1 : frameOf p = frameOf q ++ (frameOf p).drop (frameOf q).length := by
      conv => lhs; rw [← List.take_append_drop (frameOf q).length (frameOf p)]
      rw [h]
    have h2 := next_form q ((frameOf p).drop (frameOf q).length) hq
    rw [← h1] at h2
    have h3 := next_form p [] hp
    rw [List.append_nil, h2] at h3
    simp only [Prod.mk.injEq] at h3
    exact h3.1.symm

theorem len_inj {a b : Nat} (h : sz a + a = sz b + b) : a = b := by
  rcases Nat.lt_trichotomy a b with h1 | h1 | h1
  · have := sz_mono (Nat.le_of_lt h1); omega
  · exact h1
  · have := sz_mono (Nat.le_of_lt h1); omega

/-- A frame one byte of which is another one is no frame of that many bytes. -/
theorem next_turned (p : List UInt8) (i : Nat) (d : UInt8) (hi : i < (frameOf p).length) (hd : d ≠ (frameOf p)[i]) :
    (rdNext ((frameOf p).set i d)).2.2 = 0 → (rdNext ((frameOf p).set i d)).2.1 ≠ (frameOf p).length := by
  intro he ht
  obtain ⟨⟨q, t, x⟩, hf⟩ : ∃ f, f = rdNext ((frameOf p).set i d) := ⟨_, rfl⟩
  rw [← hf] at he ht
  dsimp only at he ht
  subst he
  obtain ⟨_, h2, h3⟩ := next_ok hf.symm
  have hq : (frameOf p).set i d = frameOf q := by
    rw [h3, List.drop_eq_nil_of_le (by rw [List.length_set]; omega), List.append_nil]
  have hlen : q.length = p.length := by
    have := frameOf_len p
    have := frameOf_len q
    exact len_inj (by omega)
  have hfp := frameOf_len p
  have htp := textForm_len p
  have htq := textForm_len q
  rw [hlen] at htq
  cases i with
  | zero =>
    apply hd
    have := congrArg (fun l => l.headD 0) hq
    simp [frameOf] at this
    simp [frameOf, this]
  | succ i =>
    have hq' : (textForm p ++ four (crc (textForm p))).set i d = textForm q ++ four (crc (textForm q)) := by
      rw [frameOf, frameOf, List.set_cons_succ] at hq
      exact (List.cons.inj hq).2
    have hd' : d ≠ (textForm p ++ four (crc (textForm p)))[i]'(by simp [frameOf] at hi ⊢; omega) := hd
    by_cases hib : i < (textForm p).length
    · rw [List.set_append_left _ _ hib] at hq'
      obtain ⟨hA, hB⟩ := List.append_inj hq' (by rw [List.length_set]; omega)
      have hcr := four_inj (crc_lt _) (crc_lt _) hB
      rw [← hA] at hcr
      have := crc_set (textForm p) i d hib hcr.symm
      rw [List.getElem_append_left hib] at hd'
      exact hd' this
    · rw [List.set_append_right _ _ (by omega)] at hq'
      obtain ⟨hA, hB⟩ := List.append_inj hq' (by omega)
      rw [← hA] at hB
      rw [List.getElem_append_right (by omega)] at hd'
      have hi4 : i - (textForm p).length < (four (crc (textForm p))).length := by rw [four_len]; omega
      have := congrArg (fun l => l[i - (textForm p).length]?) hB
      rw [List.getElem?_set_self (by simpa using hi4), List.getElem?_eq_getElem hi4] at this
      exact hd' (Option.some.inj this)

/-- All frames from the beginning on, with fuel. -/
def scanF : Nat → List UInt8 → List (List UInt8) × Nat
  | 0, _ => ([], 0)
  | f + 1, l => if (rdNext l).2.2 ≠ 0 then ([], 0) else ((rdNext l).1 :: (scanF f (l.drop (rdNext l).2.1)).1, (rdNext l).2.1 + (scanF f (l.drop (rdNext l).2.1)).2)

theorem next_pos {l : List UInt8} (h : (rdNext l).2.2 = 0) : 6 ≤ (rdNext l).2.1 ∧ (rdNext l).2.1 ≤ l.length := by
  obtain ⟨⟨p, t, x⟩, hf⟩ : ∃ f, f = rdNext l := ⟨_, rfl⟩
  rw [← hf] at h ⊢
  dsimp only at h ⊢
  subst h
  obtain ⟨_, h2, h3⟩ := next_ok hf.symm
  have := congrArg List.length h3
  rw [List.length_append] at this
  have := frameOf_len p
  have := sz_pos p.length
  omega

theorem next_nil : (rdNext []).2.2 = 4 := rfl

theorem scanF_fuel : ∀ f g l, l.length ≤ f → l.length ≤ g → scanF f l = scanF g l := by
  intro f
  induction f with
  | zero =>
    intro g l hf hg
    have : l = [] := List.length_eq_zero_iff.1 (by omega)
    subst this
    cases g with
    | zero => rfl
    | succ g => rw [scanF, scanF, if_pos (by rw [next_nil]; decide)]
  | succ f ih =>
    intro g l hf hg
    by_cases h : (rdNext l).2.2 ≠ 0
    · cases g with
      | zero => rw [scanF, scanF, if_pos h]
      | succ g => rw [scanF, scanF, if_pos h, if_pos h]
    · have h' : (rdNext l).2.2 = 0 := by simpa using h
      have hp := next_pos h'
      cases g with
      | zero => omega
      | succ g =>
        rw [scanF, scanF, if_neg h, if_neg h, ih g _ (by rw [List.length_drop]; omega) (by rw [List.length_drop]; omega)]

/-- All frames from the beginning on, and how many bytes they take. -/
def rdScan (l : List UInt8) : List (List UInt8) × Nat := scanF l.length l

theorem scan_end {l : List UInt8} (h : (rdNext l).2.2 ≠ 0) : rdScan l = ([], 0) := by
  unfold rdScan
  cases l with
  | nil => rfl
  | cons b r => rw [List.length_cons, scanF, if_pos h]
theorem scan_more {l : List UInt8} (h : (rdNext l).2.2 = 0) : rdScan l = ((rdNext l).1 :: (rdScan (l.drop (rdNext l).2.1)).1, (rdNext l).2.1 + (rdScan (l.drop (rdNext l).2.1)).2) := by
  have hp := next_pos h
  unfold rdScan
  obtain ⟨n, hn⟩ : ∃ n, l.length = n + 1 := ⟨l.length - 1, by omega⟩
  rw [hn, scanF, if_neg (by simp [h]), scanF_fuel n _ (l.drop (rdNext l).2.1) (by rw [List.length_drop]; omega) (Nat.le_refl _)]

theorem scan_len (l : List UInt8) : (rdScan l).1.length ≤ l.length := by
  obtain ⟨n, hn⟩ : ∃ n, n = l.length := ⟨_, rfl⟩
  induction n using Nat.strongRecOn generalizing l with
  | ind n ih =>
    by_cases h : (rdNext l).2.2 ≠ 0
    · rw [scan_end h]; exact Nat.zero_le _
    · have h' : (rdNext l).2.2 = 0 := by simpa using h
      have hp := next_pos h'
      have := ih _ (by rw [List.length_drop]; omega) (l.drop (rdNext l).2.1) rfl
      rw [scan_more h', List.length_cons]
      rw [List.length_drop] at this
      omega

end Go.Proofs.Ytjjdmeemhgopbaa
