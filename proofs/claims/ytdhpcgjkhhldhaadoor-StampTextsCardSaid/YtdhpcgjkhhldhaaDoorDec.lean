/-
  Plain facts on decimal numerals and on texts of two of them with a point between: such a text tells its two numbers, and reading it gives them back.
-/
import Derived.Lib.ItoaNum
import Derived.Lib.ParseIntB
import Derived.Lib.CutLaws
namespace Go.Proofs.YtdhpcgjkhhldhaaDoor
open Go.Lib

def isDig (c : UInt8) : Prop := 48 ≤ c.toNat ∧ c.toNat ≤ 57
theorem dig_ofNat (k : Nat) (h : k < 10) : (UInt8.ofNat (48 + k)).toNat = 48 + k := by
  rw [UInt8.toNat_ofNat']; omega

theorem head_app (x y : List UInt8) (h : x ≠ []) : (x ++ y).head? = x.head? := by cases x <;> simp_all
theorem dec_big {u : Nat} (h : ¬ u < 10) : decDigits u = decDigits (u / 10) ++ [UInt8.ofNat (48 + u % 10)] := by rw [decDigits, dif_neg h]

theorem dec_ne (u : Nat) : decDigits u ≠ [] := by
  by_cases h : u < 10
  · rw [decDigits_one h]; simp
  · rw [dec_big h]; simp

theorem dec_dig (u : Nat) : ∀ c ∈ decDigits u, isDig c := by
  induction u using Nat.strongRecOn with
  | ind u ih =>
    by_cases h : u < 10
    · rw [decDigits_one h]
      intro c hc
      simp only [List.mem_singleton] at hc
      subst hc
      unfold isDig
      rw [dig_ofNat u h]; omega
    · rw [dec_big h]
      intro c hc
      simp only [List.mem_append, List.mem_singleton] at hc
      rcases hc with hc | rfl
      · exact ih (u / 10) (by omega) c hc
      · unfold isDig
        rw [dig_ofNat _ (by omega)]; omega

def valF (acc : Nat) (l : List UInt8) : Nat := l.foldl (fun a c => a * 10 + (c.toNat - 48)) acc
theorem valF_snoc (acc : Nat) (l : List UInt8) (c : UInt8) : valF acc (l ++ [c]) = valF acc l * 10 + (c.toNat - 48) := by simp [valF]
theorem valF_cons (acc : Nat) (l : List UInt8) (c : UInt8) : valF acc (c :: l) = valF (acc * 10 + (c.toNat - 48)) l := by simp only [valF, List.foldl_cons]
theorem valF_one (c : UInt8) : valF 0 [c] = c.toNat - 48 := by simp [valF]
theorem valF_ge (l : List UInt8) : ∀ acc, acc ≤ valF acc l := by
  induction l with
  | nil => intro acc; exact Nat.le_refl _
  | cons c r ih => intro acc; rw [valF_cons]; have := ih (acc * 10 + (c.toNat - 48)); omega

theorem val_dec (u : Nat) : valF 0 (decDigits u) = u := by
  induction u using Nat.strongRecOn with
  | ind u ih =>
    by_cases h : u < 10
    · rw [decDigits_one h]
      rw [valF_one, dig_ofNat u h]; omega
    · rw [dec_big h, valF_snoc, ih (u / 10) (by omega), dig_ofNat _ (by omega)]; omega

theorem parseM_ok (M : Nat) (hM : M ≤ 18446744073709551615) (l : List UInt8) : ∀ acc, (∀ c ∈ l, isDig c) → valF acc l ≤ M → parseUintM M acc l = .ok (valF acc l) := by
  induction l with
  | nil => intro acc _ _; rfl
  | cons c r ih =>
    intro acc hd hv
    have hc : isDig c := hd c (by simp)
    rw [valF_cons] at hv ⊢
    have hge := valF_ge r (acc * 10 + (c.toNat - 48))
    unfold parseUintM
    rw [if_pos (show 48 ≤ c.toNat ∧ c.toNat ≤ 57 from hc), if_neg (by omega), if_neg (by omega)]
    exact ih _ (fun x hx => hd x (by simp [hx])) hv

theorem parse_dec (B u : Nat) (hB : 2 ^ B - 1 ≤ 18446744073709551615) (h : u ≤ 2 ^ B - 1) : parseUintB B (decDigits u) = .ok u := by
  unfold parseUintB
  rw [if_neg (dec_ne u), parseM_ok _ hB _ _ (dec_dig u) (by rw [val_dec]; exact h), val_dec]

/-- A numeral without leading zeros is its number's. -/
theorem dec_val (l : List UInt8) : l ≠ [] → (∀ c ∈ l, isDig c) → (1 < l.length → l.head? ≠ some 48) → decDigits (valF 0 l) = l := by
  generalize hn : l.length = n
  induction n generalizing l with
  | zero => intro h; exact absurd (List.length_eq_zero_iff.1 hn) h
  | succ n ih =>
    intro hne hd hz
    obtain ⟨x, c, rfl⟩ : ∃ x c, l = x ++ [c] := ⟨l.dropLast, l.getLast hne, (List.dropLast_concat_getLast hne).symm⟩
    have hc : isDig c := hd c (by simp)
    obtain ⟨hc1, hc2⟩ := hc
    rw [valF_snoc]
    have ec : UInt8.ofNat (48 + (c.toNat - 48)) = c := by
      apply UInt8.toNat_inj.1
      rw [dig_ofNat _ (by omega)]; omega
    by_cases hx : x = []
    · subst hx
      have e0 : valF 0 [] = 0 := rfl
      rw [e0, Nat.zero_mul, Nat.zero_add, decDigits_one (by omega), ec]
      rfl
    · have hlen : x.length = n := by simpa using hn
      have hpos : 0 < x.length := List.length_pos_iff.2 hx
      have hh : x.head? ≠ some 48 := by
        have := hz (by omega)
        rwa [head_app x [c] hx] at this
      have hx' := ih x hlen hx (fun a ha => hd a (by simp [ha])) (fun _ => hh)
      have h1 : 1 ≤ valF 0 x := by
        rcases Nat.eq_zero_or_pos (valF 0 x) with h0 | h0
        · exfalso
          rw [h0, decDigits_one (by omega)] at hx'
          apply hh
          rw [← hx']
          rfl
        · exact h0
      rw [dec_big (by omega), show (valF 0 x * 10 + (c.toNat - 48)) / 10 = valF 0 x by omega, show (valF 0 x * 10 + (c.toNat - 48)) % 10 = c.toNat - 48 by omega, hx', ec]

theorem nDigits_le (u k : Nat) (h : u < 10 ^ (k + 1)) : nDigits u ≤ k + 1 := by
  induction k generalizing u with
  | zero => rw [nDigits_small (by simpa using h)]; omega
  | succ k ih =>
    by_cases h1 : u < 10
    · rw [nDigits_small h1]; omega
    · rw [nDigits_big h1]
      have := ih (u / 10) (by rw [Nat.pow_succ] at h; omega)
      omega

/-- The text of a stamp. -/
def textL (p l : Nat) : List UInt8 := decDigits p ++ 46 :: decDigits l
theorem no_point (u : Nat) : ∀ c ∈ decDigits u, c ≠ 46 := by
  intro c hc e
  have := dec_dig u c hc
  subst e
  exact absurd this.1 (by decide)

theorem index_point (x y : List UInt8) (h : ∀ c ∈ x, c ≠ 46) : index (x ++ 46 :: y) [46] = x.length := by
  induction x with
  | nil => simp [index]
  | cons c r ih =>
    have hc : c ≠ 46 := h c (by simp)
    have hr := ih (fun a ha => h a (by simp [ha]))
    rw [List.cons_append]
    unfold index
    have h0 : List.isPrefixOf [(46 : UInt8)] (c :: (r ++ 46 :: y)) = false := by
      simp [List.isPrefixOf]
      exact fun e => hc e.symm
    rw [h0, hr]
    have : ((r.length : Int) == -1) = false := by rw [beq_eq_false_iff_ne]; omega
    simp [this]

theorem cut_point (x y : List UInt8) (h : ∀ c ∈ x, c ≠ 46) : cut (x ++ 46 :: y) [46] = (x, y, true) := by
  unfold cut
  rw [index_point x y h, if_pos (by omega)]
  have e : ((x.length : Int)).toNat = x.length := by omega
  rw [e]
  simp

theorem text_inj {p l q m : Nat} (h : textL p l = textL q m) : p = q ∧ l = m := by
  have h1 := cut_point (decDigits p) (decDigits l) (no_point p)
  have h2 := cut_point (decDigits q) (decDigits m) (no_point q)
  unfold textL at h
  rw [h, h2] at h1
  simp only [Prod.mk.injEq] at h1
  have e1 := congrArg (valF 0) h1.1
  have e2 := congrArg (valF 0) h1.2.1
  rw [val_dec, val_dec] at e1 e2
  exact ⟨e1.symm, e2.symm⟩

/-- The right stamp of which s is the text, or none. -/
def IsText (s : List UInt8) (p l : Nat) : Prop := p ≤ 281474976710656 ∧ l ≤ 4095 ∧ s = textL p l

/-- A text that the document's own reading takes for a number. -/
def numB (l : List UInt8) : Bool := decide (l ≠ []) && decide (l.length ≤ 16) && !(decide (1 < l.length) && decide (l.head? = some 48)) && l.all (fun c => decide (48 ≤ c.toNat) && decide (c.toNat ≤ 57))
theorem numB_iff {l : List UInt8} : numB l = true ↔ l ≠ [] ∧ l.length ≤ 16 ∧ (1 < l.length → l.head? ≠ some 48) ∧ ∀ c ∈ l, isDig c := by
  unfold numB isDig
  simp only [Bool.and_eq_true, decide_eq_true_eq, Bool.not_eq_true', Bool.and_eq_false_imp, decide_eq_false_iff_not, List.all_eq_true, and_assoc]

theorem dec_head (u : Nat) (h : 1 < (decDigits u).length) : (decDigits u).head? ≠ some 48 := by
  induction u using Nat.strongRecOn with
  | ind u ih =>
    by_cases h1 : u < 10
    · rw [decDigits_one h1] at h; simp at h
    · rw [dec_big h1, head_app _ _ (dec_ne _)]
      by_cases h2 : u / 10 < 10
      · rw [decDigits_one h2]
        intro e
        simp only [List.head?_cons, Option.some.injEq] at e
        have := congrArg UInt8.toNat e
        rw [dig_ofNat _ h2] at this
        have h48 : (48 : UInt8).toNat = 48 := rfl
        omega
      · refine ih (u / 10) (by omega) ?_
        rw [dec_big h2]
        have := List.length_pos_iff.2 (dec_ne (u / 10 / 10))
        simp; omega

theorem numB_dec (u : Nat) (h : u < 10000000000000000) : numB (decDigits u) = true :=
  numB_iff.2 ⟨dec_ne u, by rw [decDigits_length]; exact nDigits_le u 15 (by omega), dec_head u, dec_dig u⟩
theorem dec_of_num {l : List UInt8} (h : numB l = true) : decDigits (valF 0 l) = l := by
  obtain ⟨h1, _, h3, h4⟩ := numB_iff.1 h
  exact dec_val l h1 h4 h3

/-- The right stamp of which s is the text, or why there is none. -/
def rdS (s : List UInt8) : Int × Int × Int :=
  if (cut s [46]).2.2 = true ∧ numB (cut s [46]).1 = true ∧ numB (cut s [46]).2.1 = true ∧ valF 0 (cut s [46]).1 ≤ 281474976710656 ∧ valF 0 (cut s [46]).2.1 ≤ 4095 then ((valF 0 (cut s [46]).1 : Int), (valF 0 (cut s [46]).2.1 : Int), 0) else (0, 0, 2)
theorem index_at (s : List UInt8) : ∀ i : Nat, index s [46] = (i : Int) → s = s.take i ++ 46 :: s.drop (i + 1) := by
  induction s with
  | nil => intro i h; simp [index] at h
  | cons b l ih =>
    intro i h
    unfold index at h
    by_cases hb : List.isPrefixOf [(46 : UInt8)] (b :: l) = true
    · rw [if_pos hb] at h
      obtain rfl : i = 0 := by omega
      simp [List.isPrefixOf] at hb
      rw [← hb]
      simp
    · rw [if_neg hb] at h
      by_cases h1 : (index l [46] == -1) = true
      · rw [if_pos h1] at h; omega
      · rw [if_neg h1] at h
        have hge := index_ge l [46]
        have h2 : index l [46] ≠ -1 := by simpa using h1
        obtain ⟨j, hj⟩ := Int.eq_ofNat_of_zero_le (show 0 ≤ index l [46] by omega)
        obtain rfl : i = j + 1 := by omega
        have := ih j hj
        rw [List.take_succ_cons, List.drop_succ_cons, List.cons_append, ← this]
theorem cut_back {s : List UInt8} (h : (cut s [46]).2.2 = true) : s = (cut s [46]).1 ++ 46 :: (cut s [46]).2.1 := by
  unfold cut at h ⊢
  by_cases h0 : 0 ≤ index s [46]
  · rw [if_pos h0]
    obtain ⟨i, hi⟩ := Int.eq_ofNat_of_zero_le h0
    have := index_at s i hi
    rw [hi]
    exact this
  · rw [if_neg h0] at h; simp at h
theorem rdS_yes {s : List UInt8} {p l : Nat} (h : IsText s p l) : rdS s = ((p : Int), (l : Int), 0) := by
  obtain ⟨hp, hl, rfl⟩ := h
  have hc : cut (textL p l) [46] = (decDigits p, decDigits l, true) := cut_point (decDigits p) (decDigits l) (no_point p)
  unfold rdS
  rw [hc]
  dsimp only
  rw [val_dec, val_dec, if_pos ⟨rfl, numB_dec p (by omega), numB_dec l (by omega), hp, hl⟩]
theorem rdS_no {s : List UInt8} (h : ¬ ∃ x : Nat × Nat, IsText s x.1 x.2) : rdS s = (0, 0, 2) := by
  unfold rdS
  rw [if_neg]
  rintro ⟨h1, h2, h3, h4, h5⟩
  refine h ⟨(valF 0 (cut s [46]).1, valF 0 (cut s [46]).2.1), h4, h5, ?_⟩
  show s = textL _ _
  unfold textL
  rw [dec_of_num h2, dec_of_num h3]
  exact cut_back h1
theorem rdS_cases (s : List UInt8) : (∃ p l : Nat, IsText s p l ∧ rdS s = ((p : Int), (l : Int), 0)) ∨ ((∀ p l, ¬ IsText s p l) ∧ rdS s = (0, 0, 2)) := by
  by_cases h : ∃ x : Nat × Nat, IsText s x.1 x.2
  · obtain ⟨x, hx⟩ := h
    exact .inl ⟨x.1, x.2, hx, rdS_yes hx⟩
  · exact .inr ⟨fun p l hpl => h ⟨(p, l), hpl⟩, rdS_no h⟩

/-- What the document's reading gives where the point stands between x and y. -/
theorem rdS_split (x y : List UInt8) (hx : ∀ c ∈ x, c ≠ 46) :
    rdS (x ++ 46 :: y) = if numB x = true ∧ numB y = true ∧ valF 0 x ≤ 281474976710656 ∧ valF 0 y ≤ 4095 then ((valF 0 x : Int), (valF 0 y : Int), 0) else (0, 0, 2) := by
  by_cases h : numB x = true ∧ numB y = true ∧ valF 0 x ≤ 281474976710656 ∧ valF 0 y ≤ 4095
  · rw [if_pos h]
    obtain ⟨h1, h2, h3, h4⟩ := h
    exact rdS_yes ⟨h3, h4, by unfold textL; rw [dec_of_num h1, dec_of_num h2]⟩
  · rw [if_neg h]
    refine rdS_no fun ⟨⟨p, l⟩, hp, hl, e⟩ => h ?_
    have c1 := cut_point x y hx
    have c2 := cut_point (decDigits p) (decDigits l) (no_point p)
    rw [e] at c1
    unfold textL at c1
    rw [c2] at c1
    simp only [Prod.mk.injEq, and_true] at c1
    obtain ⟨rfl, rfl⟩ := c1
    rw [val_dec, val_dec]
    exact ⟨numB_dec p (by simp only at hp; omega), numB_dec l (by simp only at hl; omega), hp, hl⟩
theorem rdS_none (s : List UInt8) (h : ∀ c ∈ s, c ≠ 46) : rdS s = (0, 0, 2) :=
  rdS_no fun ⟨⟨p, l⟩, _, _, e⟩ => h 46 (by rw [e]; simp [textL]) rfl

end Go.Proofs.YtdhpcgjkhhldhaaDoor
