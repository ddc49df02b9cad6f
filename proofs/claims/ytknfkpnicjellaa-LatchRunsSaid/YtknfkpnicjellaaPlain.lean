/-
  A map of keys in order as a plain list: what Set, Get, Cut, Keys answer, and what they keep to. (Of no seat: to be carried.)
-/
import Derived.WalkKit
namespace Go.Proofs.Ytknfkpnicjellaa

/-- Is a ahead of b, in the order of bytes? -/
def ltK (a b : List UInt8) : Bool := Op.bytesLess a b
theorem ltK_irrefl : ∀ a : List UInt8, ltK a a = false
  | [] => rfl
  | a :: r => by
    have := ltK_irrefl r
    unfold ltK at this ⊢
    simp [Op.bytesLess, this]
theorem ltK_trans : ∀ {a b c : List UInt8}, ltK a b = true → ltK b c = true → ltK a c = true
  | _, [], _, h, _ => by simp [ltK, Op.bytesLess] at h
  | _, _ :: _, [], _, h => by simp [ltK, Op.bytesLess] at h
  | [], _ :: _, _ :: _, _, _ => by simp [ltK, Op.bytesLess]
  | a :: r, b :: s, c :: t, h1, h2 => by
    have ih := @ltK_trans r s t
    unfold ltK at *
    simp only [Op.bytesLess, Bool.or_eq_true, Bool.and_eq_true, decide_eq_true_eq, beq_iff_eq] at *
    rcases h1 with h1 | ⟨rfl, h1⟩
    · rcases h2 with h2 | ⟨rfl, _⟩
      · exact .inl (UInt8.lt_trans h1 h2)
      · exact .inl h1
    · rcases h2 with h2 | ⟨rfl, h2⟩
      · exact .inl h2
      · exact .inr ⟨rfl, ih h1 h2⟩
theorem ltK_tri : ∀ {a b : List UInt8}, ltK a b = false → ltK b a = false → a = b
  | [], [], _, _ => rfl
  | [], _ :: _, h, _ => by simp [ltK, Op.bytesLess] at h
  | _ :: _, [], _, h => by simp [ltK, Op.bytesLess] at h
  | a :: r, b :: s, h1, h2 => by
    have ih := @ltK_tri r s
    unfold ltK at *
    simp only [Op.bytesLess, Bool.or_eq_false_iff, Bool.and_eq_false_iff, decide_eq_false_iff_not, beq_eq_false_iff_ne] at h1 h2
    have hab : a = b := by
      have h3 := h1.1
      have h4 := h2.1
      rw [UInt8.not_lt] at h3 h4
      exact UInt8.le_antisymm h4 h3
    subst hab
    have e1 := h1.2.resolve_left (by simp)
    have e2 := h2.2.resolve_left (by simp)
    rw [ih e1 e2]
theorem ltK_asymm {a b : List UInt8} (h : ltK a b = true) : ltK b a = false := by
  cases h2 : ltK b a
  · rfl
  · have := ltK_trans h h2
    rw [ltK_irrefl] at this
    cases this
theorem ltK_ne {a b : List UInt8} (h : ltK a b = true) : a ≠ b := fun e => by
  subst e
  rw [ltK_irrefl] at h
  cases h
/-- Not ahead of b, and b ahead of c: ahead of c or the other way round. -/
theorem ltK_le {a b c : List UInt8} (h1 : ltK b a = false) (h2 : ltK b c = true) : ltK a c = true := by
  cases h : ltK a b
  · have := ltK_tri h h1
    subst this
    exact h2
  · exact ltK_trans h h2
theorem ltK_le2 {a b c : List UInt8} (h1 : ltK a b = true) (h2 : ltK c b = false) : ltK a c = true := by
  cases h : ltK b c
  · have := ltK_tri h h2
    subst this
    exact h1
  · exact ltK_trans h1 h

/-- Keys and what they have. -/
abbrev Kv (α : Type) := List (List UInt8 × α)
variable {α : Type}
def Srt (L : Kv α) : Prop := L.Pairwise (fun a b => ltK a.1 b.1 = true)

def getF (k : List UInt8) : Kv α → Option α
  | [] => none
  | (a, v) :: r => if a == k then some v else getF k r
def setF (k : List UInt8) (v : α) : Kv α → Kv α
  | [] => [(k, v)]
  | (a, u) :: r => if ltK a k then (a, u) :: setF k v r else if a == k then (k, v) :: r else (k, v) :: (a, u) :: r
def cutF (k : List UInt8) : Kv α → Kv α
  | [] => []
  | (a, u) :: r => if a == k then r else (a, u) :: cutF k r
def inR (lo hi : List UInt8) (k : List UInt8) : Bool := !ltK k lo && (hi.isEmpty || ltK k hi)
def rangeF (lo hi : List UInt8) (L : Kv α) : List (List UInt8) := (L.map (·.1)).filter (inR lo hi)
def keysF (lo hi : List UInt8) (limit : Int) (L : Kv α) : List (List UInt8) := (rangeF lo hi L).take limit.toNat

theorem setF_keys {k : List UInt8} {v : α} : ∀ {L : Kv α} {x : List UInt8 × α}, x ∈ setF k v L → x = (k, v) ∨ x ∈ L
  | [], x, h => by
    simp only [setF, List.mem_singleton] at h
    exact .inl h
  | (a, u) :: r, x, h => by
    unfold setF at h
    by_cases h1 : ltK a k = true
    · rw [if_pos h1] at h
      rcases List.mem_cons.1 h with h | h
      · exact .inr (by simp [h])
      · rcases setF_keys h with h | h
        · exact .inl h
        · exact .inr (by simp [h])
    · rw [if_neg h1] at h
      by_cases h2 : (a == k) = true
      · rw [if_pos h2] at h
        rcases List.mem_cons.1 h with h | h
        · exact .inl h
        · exact .inr (by simp [h])
      · rw [if_neg h2] at h
        rcases List.mem_cons.1 h with h | h
        · exact .inl h
        · exact .inr h
theorem setF_srt {k : List UInt8} {v : α} : ∀ {L : Kv α}, Srt L → Srt (setF k v L)
  | [], _ => by simp [setF, Srt]
  | (a, u) :: r, h => by
    obtain ⟨h1, h2⟩ := List.pairwise_cons.1 h
    unfold setF
    by_cases h3 : ltK a k = true
    · rw [if_pos h3]
      refine List.pairwise_cons.2 ⟨fun x hx => ?_, setF_srt h2⟩
      rcases setF_keys hx with rfl | hx
      · exact h3
      · exact h1 x hx
    · rw [if_neg h3]
      by_cases h4 : (a == k) = true
      · rw [if_pos h4]
        have : a = k := by simpa using h4
        subst this
        exact List.pairwise_cons.2 ⟨h1, h2⟩
      · rw [if_neg h4]
        have hka : ltK k a = true := by
          cases h5 : ltK k a
          · exact absurd (ltK_tri (by simpa using h3) h5) (by simpa using h4)
          · rfl
        refine List.pairwise_cons.2 ⟨fun x hx => ?_, h⟩
        rcases List.mem_cons.1 hx with rfl | hx
        · exact hka
        · exact ltK_trans hka (h1 x hx)
theorem cutF_sub {k : List UInt8} : ∀ {L : Kv α} {x : List UInt8 × α}, x ∈ cutF k L → x ∈ L
  | [], x, h => by simp [cutF] at h
  | (a, u) :: r, x, h => by
    unfold cutF at h
    split at h
    · exact List.mem_cons_of_mem _ h
    · rcases List.mem_cons.1 h with h | h
      · simp [h]
      · exact List.mem_cons_of_mem _ (cutF_sub h)
theorem cutF_srt {k : List UInt8} : ∀ {L : Kv α}, Srt L → Srt (cutF k L)
  | [], _ => by simp [cutF, Srt]
  | (a, u) :: r, h => by
    obtain ⟨h1, h2⟩ := List.pairwise_cons.1 h
    unfold cutF
    split
    · exact h2
    · exact List.pairwise_cons.2 ⟨fun x hx => h1 x (cutF_sub hx), cutF_srt h2⟩

theorem getF_none {k : List UInt8} : ∀ {L : Kv α}, (∀ x ∈ L, x.1 ≠ k) → getF k L = none
  | [], _ => rfl
  | (a, u) :: r, h => by
    unfold getF
    rw [if_neg (by simpa using h (a, u) (by simp))]
    exact getF_none fun x hx => h x (by simp [hx])
theorem getF_mem {k : List UInt8} {v : α} : ∀ {L : Kv α}, Srt L → (getF k L = some v ↔ (k, v) ∈ L)
  | [], _ => by simp [getF]
  | (a, u) :: r, h => by
    obtain ⟨h1, h2⟩ := List.pairwise_cons.1 h
    unfold getF
    by_cases h3 : (a == k) = true
    · rw [if_pos h3]
      have e : a = k := by simpa using h3
      subst e
      constructor
      · intro e; injection e with e; subst e; simp
      · intro hm
        rcases List.mem_cons.1 hm with e | hm
        · injection e with _ e; rw [e]
        · have h5 := h1 _ hm
          dsimp only at h5
          rw [ltK_irrefl] at h5
          cases h5
    · rw [if_neg h3, getF_mem h2]
      have e : a ≠ k := by simpa using h3
      constructor
      · intro hm; simp [hm]
      · intro hm
        rcases List.mem_cons.1 hm with e2 | hm
        · injection e2 with e2 _; exact absurd e2.symm e
        · exact hm
/-- Two maps in order that have the same are the same. -/
theorem srt_ext : ∀ {A B : Kv α}, Srt A → Srt B → (∀ k, getF k A = getF k B) → A = B
  | [], [], _, _, _ => rfl
  | [], (b, v) :: s, _, _, h => by have := h b; simp [getF] at this
  | (a, u) :: r, [], _, _, h => by have := h a; simp [getF] at this
  | (a, u) :: r, (b, v) :: s, ha, hb, h => by
    obtain ⟨ha1, ha2⟩ := List.pairwise_cons.1 ha
    obtain ⟨hb1, hb2⟩ := List.pairwise_cons.1 hb
    have ma : (a, u) ∈ (b, v) :: s := (getF_mem hb).1 ((h a).symm.trans ((getF_mem ha).2 (by simp)))
    have mb : (b, v) ∈ (a, u) :: r := (getF_mem ha).1 ((h b).trans ((getF_mem hb).2 (by simp)))
    have e : (a, u) = (b, v) := by
      rcases List.mem_cons.1 ma with e | ma
      · exact e
      · rcases List.mem_cons.1 mb with e | mb
        · exact e.symm
        · have h1 := hb1 _ ma
          have h2 := ha1 _ mb
          rw [ltK_asymm h1] at h2
          cases h2
    injection e with e1 e2
    subst e1 e2
    congr 1
    refine srt_ext ha2 hb2 fun k => ?_
    by_cases hk : k = a
    · subst hk
      rw [getF_none fun x hx => (ltK_ne (ha1 x hx)).symm, getF_none fun x hx => (ltK_ne (hb1 x hx)).symm]
    · have := h k
      unfold getF at this
      rw [if_neg (by simpa using fun e => hk e.symm), if_neg (by simpa using fun e => hk e.symm)] at this
      exact this

theorem get_set {k q : List UInt8} {v : α} : ∀ {L : Kv α}, Srt L → getF q (setF k v L) = if k == q then some v else getF q L
  | [], _ => by simp [setF, getF]
  | (a, u) :: r, h => by
    obtain ⟨h1, h2⟩ := List.pairwise_cons.1 h
    unfold setF
    by_cases h3 : ltK a k = true
    · rw [if_pos h3]
      show (if a == q then some u else getF q (setF k v r)) = _
      rw [get_set h2]
      by_cases h4 : (a == q) = true
      · have e : a = q := by simpa using h4
        subst e
        have hk : (k == a) = false := by rw [beq_eq_false_iff_ne]; exact (ltK_ne h3).symm
        simp [hk, getF]
      · simp [getF, h4]
    · rw [if_neg h3]
      by_cases h4 : (a == k) = true
      · rw [if_pos h4]
        have e : a = k := by simpa using h4
        subst e
        by_cases h5 : (a == q) = true
        · simp [getF, h5]
        · simp [getF, h5]
      · rw [if_neg h4]
        show (if k == q then some v else getF q ((a, u) :: r)) = _
        rfl
theorem get_cut {k q : List UInt8} : ∀ {L : Kv α}, Srt L → getF q (cutF k L) = if k == q then none else getF q L
  | [], _ => by simp [cutF, getF]
  | (a, u) :: r, h => by
    obtain ⟨h1, h2⟩ := List.pairwise_cons.1 h
    unfold cutF
    by_cases h3 : (a == k) = true
    · rw [if_pos h3]
      have e : a = k := by simpa using h3
      subst e
      by_cases h4 : (a == q) = true
      · have e : a = q := by simpa using h4
        subst e
        simp [getF_none fun x hx => (ltK_ne (h1 x hx)).symm]
      · simp [getF, h4]
    · rw [if_neg h3]
      show (if a == q then some u else getF q (cutF k r)) = _
      rw [get_cut h2]
      by_cases h4 : (a == q) = true
      · have e : a = q := by simpa using h4
        subst e
        have hk : (k == a) = false := by rw [beq_eq_false_iff_ne]; exact fun e => h3 (by simp [e])
        simp [getF, hk]
      · simp [getF, h4]
theorem len_set {k : List UInt8} {v : α} : ∀ {L : Kv α}, Srt L → (setF k v L).length = if (getF k L).isSome then L.length else L.length + 1
  | [], _ => by simp [setF, getF]
  | (a, u) :: r, h => by
    obtain ⟨h1, h2⟩ := List.pairwise_cons.1 h
    unfold setF
    by_cases h3 : ltK a k = true
    · rw [if_pos h3]
      have hk : (a == k) = false := by rw [beq_eq_false_iff_ne]; exact ltK_ne h3
      simp only [List.length_cons, len_set h2, getF, hk, Bool.false_eq_true, if_false]
      split <;> rfl
    · rw [if_neg h3]
      by_cases h4 : (a == k) = true
      · rw [if_pos h4]
        simp [getF, h4]
      · rw [if_neg h4]
        have hka : ltK k a = true := by
          cases h5 : ltK k a
          · exact absurd (ltK_tri (by simpa using h3) h5) (by simpa using h4)
          · rfl
        have : getF k r = none := getF_none fun x hx => (ltK_ne (ltK_trans hka (h1 x hx))).symm
        simp [getF, h4, this]
theorem len_cut {k : List UInt8} : ∀ {L : Kv α}, Srt L → (cutF k L).length = if (getF k L).isSome then L.length - 1 else L.length
  | [], _ => by simp [cutF, getF]
  | (a, u) :: r, h => by
    obtain ⟨_, h2⟩ := List.pairwise_cons.1 h
    unfold cutF
    by_cases h3 : (a == k) = true
    · rw [if_pos h3]
      simp [getF, h3]
    · rw [if_neg h3]
      simp only [List.length_cons, len_cut h2, getF, h3]
      split
      · rename_i hs
        rw [if_pos (by simpa using hs)]
        cases hr : r with
        | nil => rw [hr] at hs; simp [getF] at hs
        | cons x s => simp
      · rename_i hs
        rw [if_neg (by simpa using hs)]

/-! Of two parts with a key between them: what a tree asks. -/
theorem srt_parts {A B : Kv α} {a : List UInt8} {u : α} (h : Srt (A ++ (a, u) :: B)) : Srt A ∧ Srt B ∧ (∀ x ∈ A, ltK x.1 a = true) ∧ (∀ x ∈ B, ltK a x.1 = true) := by
  obtain ⟨h1, h2, h3⟩ := List.pairwise_append.1 h
  obtain ⟨h4, h5⟩ := List.pairwise_cons.1 h2
  exact ⟨h1, h5, fun x hx => h3 x hx (a, u) (by simp), h4⟩
theorem srt_join {A B : Kv α} {a : List UInt8} {u : α} (h1 : Srt A) (h2 : Srt B) (h3 : ∀ x ∈ A, ltK x.1 a = true) (h4 : ∀ x ∈ B, ltK a x.1 = true) : Srt (A ++ (a, u) :: B) := by
  refine List.pairwise_append.2 ⟨h1, List.pairwise_cons.2 ⟨h4, h2⟩, fun x hx y hy => ?_⟩
  rcases List.mem_cons.1 hy with rfl | hy
  · exact h3 x hx
  · exact ltK_trans (h3 x hx) (h4 y hy)
theorem getF_append (k : List UInt8) : ∀ (A B : Kv α), getF k (A ++ B) = match getF k A with
    | some v => some v
    | none => getF k B
  | [], B => rfl
  | (a, u) :: r, B => by
    have ih := getF_append k r B
    show (if a == k then some u else getF k (r ++ B)) = match (if a == k then some u else getF k r) with
      | some v => some v
      | none => getF k B
    by_cases h : (a == k) = true
    · rw [if_pos h, if_pos h]
    · rw [if_neg h, if_neg h]; exact ih
theorem get_parts {A B : Kv α} {a k : List UInt8} {u : α} (h : Srt (A ++ (a, u) :: B)) : getF k (A ++ (a, u) :: B) = if ltK k a then getF k A else if ltK a k then getF k B else some u := by
  obtain ⟨_, _, h3, h4⟩ := srt_parts h
  rw [getF_append]
  cases h5 : ltK k a
  · have hA : getF k A = none := getF_none fun x hx e => by
      have := h3 x hx
      rw [e, h5] at this
      cases this
    rw [hA]
    simp only [Bool.false_eq_true, if_false]
    cases h6 : ltK a k
    · have := ltK_tri h5 h6
      subst this
      simp [getF]
    · have : (a == k) = false := by rw [beq_eq_false_iff_ne]; exact ltK_ne h6
      simp [getF, this]
  · have hB : getF k ((a, u) :: B) = none := getF_none fun x hx e => by
      rcases List.mem_cons.1 hx with rfl | hx
      · exact ltK_ne h5 e.symm
      · exact ltK_ne (ltK_trans h5 (h4 x hx)) e.symm
    rw [hB]
    simp only [if_true]
    cases getF k A <;> rfl
theorem set_parts {A B : Kv α} {a k : List UInt8} {u v : α} (h : Srt (A ++ (a, u) :: B)) : setF k v (A ++ (a, u) :: B) = if ltK k a then setF k v A ++ (a, u) :: B else if ltK a k then A ++ (a, u) :: setF k v B else A ++ (k, v) :: B := by
  obtain ⟨h1, h2, h3, h4⟩ := srt_parts h
  have hl : ∀ (k : List UInt8), ltK k a = true → Srt (setF k v A ++ (a, u) :: B) := fun k hk => srt_join (setF_srt h1) h2 (fun x hx => by
    rcases setF_keys hx with rfl | hx
    · exact hk
    · exact h3 x hx) h4
  refine srt_ext (setF_srt h) ?_ fun q => ?_
  · split
    · rename_i h5; exact hl k h5
    · split
      · rename_i h6
        exact srt_join h1 (setF_srt h2) h3 fun x hx => by
          rcases setF_keys hx with rfl | hx
          · exact h6
          · exact h4 x hx
      · rename_i h5 h6
        have := ltK_tri (by simpa using h5) (by simpa using h6)
        subst this
        exact srt_join h1 h2 h3 h4
  · rw [get_set h, get_parts h]
    by_cases h5 : ltK k a = true
    · rw [if_pos h5, get_parts (hl k h5), get_set h1]
      by_cases hq : (k == q) = true
      · have e : k = q := by simpa using hq
        subst e
        simp [h5]
      · simp [hq]
    · rw [if_neg h5]
      by_cases h6 : ltK a k = true
      · rw [if_pos h6, get_parts (srt_join h1 (setF_srt h2) h3 fun x hx => by
          rcases setF_keys hx with rfl | hx
          · exact h6
          · exact h4 x hx), get_set h2]
        by_cases hq : (k == q) = true
        · have e : k = q := by simpa using hq
          subst e
          simp [h6, ltK_asymm h6]
        · simp [hq]
      · rw [if_neg h6]
        have e := ltK_tri (by simpa using h5) (by simpa using h6)
        subst e
        rw [get_parts (srt_join h1 h2 h3 h4)]
        by_cases hq : (k == q) = true
        · have e : k = q := by simpa using hq
          subst e
          simp [ltK_irrefl]
        · have hne : k ≠ q := by simpa using hq
          cases h7 : ltK q k
          · cases h8 : ltK k q
            · exact absurd (ltK_tri h8 h7) hne
            · simp [hq]
          · simp [hq]
theorem cut_parts {A B : Kv α} {a k : List UInt8} {u : α} (h : Srt (A ++ (a, u) :: B)) : cutF k (A ++ (a, u) :: B) = if ltK k a then cutF k A ++ (a, u) :: B else if ltK a k then A ++ (a, u) :: cutF k B else A ++ B := by
  obtain ⟨h1, h2, h3, h4⟩ := srt_parts h
  have hAB : Srt (A ++ B) := List.pairwise_append.2 ⟨h1, h2, fun x hx y hy => ltK_trans (h3 x hx) (h4 y hy)⟩
  have hl : Srt (cutF k A ++ (a, u) :: B) := srt_join (cutF_srt h1) h2 (fun x hx => h3 x (cutF_sub hx)) h4
  have hr : Srt (A ++ (a, u) :: cutF k B) := srt_join h1 (cutF_srt h2) h3 (fun x hx => h4 x (cutF_sub hx))
  refine srt_ext (cutF_srt h) ?_ fun q => ?_
  · split
    · exact hl
    · split
      · exact hr
      · exact hAB
  · rw [get_cut h, get_parts h]
    by_cases h5 : ltK k a = true
    · rw [if_pos h5, get_parts hl, get_cut h1]
      by_cases hq : (k == q) = true
      · have e : k = q := by simpa using hq
        subst e
        simp [h5]
      · simp [hq]
    · rw [if_neg h5]
      by_cases h6 : ltK a k = true
      · rw [if_pos h6, get_parts hr, get_cut h2]
        by_cases hq : (k == q) = true
        · have e : k = q := by simpa using hq
          subst e
          simp [h6, ltK_asymm h6]
        · simp [hq]
      · rw [if_neg h6]
        have e := ltK_tri (by simpa using h5) (by simpa using h6)
        subst e
        rw [getF_append]
        by_cases hq : (k == q) = true
        · have e : k = q := by simpa using hq
          subst e
          rw [getF_none fun x hx => ltK_ne (h3 x hx), getF_none fun x hx => (ltK_ne (h4 x hx)).symm]
          simp
        · have hne : k ≠ q := by simpa using hq
          rw [if_neg hq]
          cases h7 : ltK q k
          · cases h8 : ltK k q
            · exact absurd (ltK_tri h8 h7) hne
            · rw [getF_none (k := q) (L := A) fun x hx e => by
                have := ltK_trans (h3 x hx) h8
                rw [e, ltK_irrefl] at this
                cases this]
              simp
          · rw [getF_none (k := q) (L := B) fun x hx e => by
              have := ltK_trans h7 (h4 x hx)
              rw [e, ltK_irrefl] at this
              cases this]
            simp
            cases getF q A <;> rfl
theorem range_append (lo hi : List UInt8) (A B : Kv α) : rangeF lo hi (A ++ B) = rangeF lo hi A ++ rangeF lo hi B := by simp [rangeF]
theorem range_cons (lo hi : List UInt8) (a : List UInt8) (u : α) (B : Kv α) : rangeF lo hi ((a, u) :: B) = if inR lo hi a then a :: rangeF lo hi B else rangeF lo hi B := by
  simp only [rangeF, List.map_cons, List.filter_cons]
theorem range_none {lo hi : List UInt8} {L : Kv α} (h : ∀ x ∈ L, inR lo hi x.1 = false) : rangeF lo hi L = [] := by
  unfold rangeF
  rw [List.filter_eq_nil_iff]
  intro k hk
  obtain ⟨x, hx, rfl⟩ := List.mem_map.1 hk
  simp [h x hx]
theorem range_all (L : Kv α) : rangeF [] [] L = L.map (·.1) := by
  unfold rangeF
  rw [List.filter_eq_self]
  intro k _
  have : ltK k [] = false := by cases k <;> rfl
  simp [inR, this]
/-- A range is its two parts, one behind the other. -/
theorem range_split {mid : List UInt8} (hm : mid.isEmpty = false) : ∀ {L : Kv α}, Srt L → rangeF [] mid L ++ rangeF mid [] L = L.map (·.1)
  | [], _ => rfl
  | (a, u) :: r, h => by
    obtain ⟨h1, h2⟩ := List.pairwise_cons.1 h
    have ih := range_split hm h2
    have h0 : ltK a [] = false := by cases a <;> rfl
    rw [range_cons, range_cons]
    cases h3 : ltK a mid
    · have e1 : inR [] mid a = false := by simp [inR, h0, hm, h3]
      have e2 : inR mid [] a = true := by simp [inR, h3]
      have e3 : rangeF [] mid r = [] := range_none fun x hx => by
        have : ltK x.1 mid = false := by
          cases h4 : ltK x.1 mid
          · rfl
          · have := ltK_trans (h1 x hx) h4
            rw [h3] at this
            cases this
        simp [inR, hm, this]
      rw [e1, e2, e3] 
      rw [e3] at ih
      simp only [Bool.false_eq_true, if_false, if_true, List.nil_append, List.map_cons] at ih ⊢
      rw [ih]
    · have e1 : inR [] mid a = true := by simp [inR, h0, hm, h3]
      have e2 : inR mid [] a = false := by simp [inR, h3]
      rw [e1, e2]
      simp only [Bool.false_eq_true, if_false, if_true, List.cons_append, List.map_cons]
      rw [ih]

/-! By places: what the document's answer does. -/
def placeN (k : List UInt8) : Kv α → Nat
  | [] => 0
  | (a, _) :: r => if ltK a k then placeN k r + 1 else 0
theorem placeN_le (k : List UInt8) : ∀ L : Kv α, placeN k L ≤ L.length
  | [] => Nat.le_refl _
  | (a, u) :: r => by
    have := placeN_le k r
    unfold placeN
    split <;> simp only [List.length_cons] <;> omega
theorem placeN_eq {k : List UInt8} : ∀ {L : Kv α} {i : Nat}, i ≤ L.length → (∀ (j : Nat) (x : List UInt8 × α), j < i → L[j]? = some x → ltK x.1 k = true) → (∀ x, L[i]? = some x → ltK x.1 k = false) → placeN k L = i
  | [], i, hi, _, _ => by
    have : i = 0 := by simpa using hi
    subst this; rfl
  | (a, u) :: r, 0, _, _, h => by
    have := h (a, u) rfl
    unfold placeN
    rw [show ltK a k = false from this]; rfl
  | (a, u) :: r, i + 1, hi, h1, h2 => by
    have h0 := h1 0 (a, u) (by omega) rfl
    have ih := placeN_eq (k := k) (L := r) (i := i) (by simpa using hi) (fun j x hj hx => h1 (j + 1) x (by omega) (by simpa using hx)) (fun x hx => h2 x (by simpa using hx))
    unfold placeN
    rw [show ltK a k = true from h0, if_pos rfl, ih]
/-- Has it something? -/
def thereB (k : List UInt8) (L : Kv α) : Bool := match L[placeN k L]? with
  | some x => x.1 == k
  | none => false
theorem get_place {k : List UInt8} : ∀ {L : Kv α}, Srt L → getF k L = match L[placeN k L]? with
    | some x => if x.1 == k then some x.2 else none
    | none => none
  | [], _ => rfl
  | (a, u) :: r, h => by
    obtain ⟨h1, h2⟩ := List.pairwise_cons.1 h
    unfold placeN
    by_cases h3 : ltK a k = true
    · rw [if_pos h3]
      have hk : (a == k) = false := by rw [beq_eq_false_iff_ne]; exact ltK_ne h3
      simp only [getF, hk, Bool.false_eq_true, if_false, List.getElem?_cons_succ]
      exact get_place h2
    · rw [if_neg h3]
      simp only [List.getElem?_cons_zero, getF]
      by_cases h4 : (a == k) = true
      · rw [if_pos h4, if_pos h4]
      · rw [if_neg h4, if_neg h4]
        have hka : ltK k a = true := by
          cases h5 : ltK k a
          · exact absurd (ltK_tri (by simpa using h3) h5) (by simpa using h4)
          · rfl
        exact getF_none fun x hx => (ltK_ne (ltK_trans hka (h1 x hx))).symm
theorem there_get {k : List UInt8} {L : Kv α} (h : Srt L) : thereB k L = (getF k L).isSome := by
  rw [get_place h]
  unfold thereB
  cases L[placeN k L]? with
  | none => rfl
  | some x => dsimp only; cases hx : (x.1 == k) <;> simp
theorem set_place {k : List UInt8} {v : α} : ∀ {L : Kv α}, setF k v L = if thereB k L then L.set (placeN k L) (k, v) else L.take (placeN k L) ++ (k, v) :: L.drop (placeN k L)
  | [] => rfl
  | (a, u) :: r => by
    have ih := set_place (k := k) (v := v) (L := r)
    unfold setF
    by_cases h3 : ltK a k = true
    · rw [if_pos h3, ih]
      have e : thereB k ((a, u) :: r) = thereB k r := by
        unfold thereB
        rw [show placeN k ((a, u) :: r) = placeN k r + 1 from by simp [placeN, h3]]
        simp
      rw [e, show placeN k ((a, u) :: r) = placeN k r + 1 from by simp [placeN, h3]]
      split <;> simp
    · rw [if_neg h3]
      have e0 : placeN k ((a, u) :: r) = 0 := by simp [placeN, h3]
      have e : thereB k ((a, u) :: r) = (a == k) := by unfold thereB; rw [e0]; simp
      rw [e, e0]
      by_cases h4 : (a == k) = true
      · rw [if_pos h4, if_pos h4]; simp
      · rw [if_neg h4, if_neg h4]; simp
theorem cut_place {k : List UInt8} : ∀ {L : Kv α}, Srt L → cutF k L = if thereB k L then L.take (placeN k L) ++ L.drop (placeN k L + 1) else L
  | [], _ => rfl
  | (a, u) :: r, h => by
    obtain ⟨h1, h2⟩ := List.pairwise_cons.1 h
    have ih := cut_place (k := k) h2
    unfold cutF
    by_cases h3 : ltK a k = true
    · have hk : (a == k) = false := by rw [beq_eq_false_iff_ne]; exact ltK_ne h3
      have e : thereB k ((a, u) :: r) = thereB k r := by
        unfold thereB
        rw [show placeN k ((a, u) :: r) = placeN k r + 1 from by simp [placeN, h3]]
        simp
      rw [hk, ih, e, show placeN k ((a, u) :: r) = placeN k r + 1 from by simp [placeN, h3]]
      cases thereB k r <;> simp
    · have e0 : placeN k ((a, u) :: r) = 0 := by simp [placeN, h3]
      have e : thereB k ((a, u) :: r) = (a == k) := by unfold thereB; rw [e0]; simp
      rw [e, e0]
      by_cases h4 : (a == k) = true
      · rw [if_pos h4, if_pos h4]; simp
      · rw [if_neg h4, if_neg h4]
        have hka : ltK k a = true := by
          cases h5 : ltK k a
          · exact absurd (ltK_tri (by simpa using h3) h5) (by simpa using h4)
          · rfl
        have hn : getF k r = none := getF_none fun x hx => (ltK_ne (ltK_trans hka (h1 x hx))).symm
        have ht : thereB k r = false := by rw [there_get h2, hn]; rfl
        rw [ih, ht]
        simp

/-- Two lists of keys, none twice, of the same keys: as many. -/
theorem same_count {A B : List (List UInt8)} (ha : A.Nodup) (hb : B.Nodup) (h : ∀ k, k ∈ A ↔ k ∈ B) : A.length = B.length :=
  (List.perm_ext_iff_of_nodup ha hb |>.2 h).length_eq
theorem srt_nodup {L : Kv α} (h : Srt L) : (L.map (·.1)).Nodup := by
  unfold List.Nodup
  rw [List.pairwise_map]
  exact h.imp fun hab => ltK_ne hab
theorem keys_get {L : Kv α} (h : Srt L) (k : List UInt8) : k ∈ L.map (·.1) ↔ (getF k L).isSome = true := by
  constructor
  · intro hk
    obtain ⟨x, hx, rfl⟩ := List.mem_map.1 hk
    rw [(getF_mem (v := x.2) h).2 hx]
    rfl
  · intro hk
    cases hg : getF k L with
    | none => rw [hg] at hk; cases hk
    | some v => exact List.mem_map.2 ⟨(k, v), (getF_mem h).1 hg, rfl⟩
end Go.Proofs.Ytknfkpnicjellaa
