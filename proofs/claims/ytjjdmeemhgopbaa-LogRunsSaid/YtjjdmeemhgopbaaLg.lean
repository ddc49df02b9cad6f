/-
  A log, plain: what an area's bytes hold.
-/
import Derived.Test.YtjjdmeemhgopbaaFrames
namespace Go.Proofs.Ytjjdmeemhgopbaa

/-- The frame with which bytes begin: its kind, what its payload has behind that, how many bytes it takes; the kind 0, if there is none. -/
def nx (l : List UInt8) : UInt8 × List UInt8 × Nat :=
  if (rdNext l).2.2 ≠ 0 ∨ (rdNext l).1 = [] then (0, [], 0) else ((rdNext l).1.headD 0, (rdNext l).1.tail, (rdNext l).2.1)

theorem nx_nil : nx [] = (0, [], 0) := rfl
theorem nx_le (l : List UInt8) : (nx l).2.2 ≤ l.length := by
  unfold nx
  split
  · exact Nat.zero_le _
  · next h =>
    have h0 : (rdNext l).2.2 = 0 := by
      by_cases h1 : (rdNext l).2.2 = 0
      · exact h1
      · exact absurd (.inl h1) h
    exact (next_pos h0).2
theorem nx_pos {l : List UInt8} (h : (nx l).1 ≠ 0) : 6 ≤ (nx l).2.2 := by
  unfold nx at h ⊢
  split at h
  · exact absurd rfl h
  · next h2 =>
    have h0 : (rdNext l).2.2 = 0 := by
      by_cases h1 : (rdNext l).2.2 = 0
      · exact h1
      · exact absurd (.inl h1) h2
    rw [if_neg h2]
    exact (next_pos h0).1

theorem nx_cut (k : UInt8) (p R : List UInt8) (c : Nat) (hp : p.length < 16384) :
    nx ((frameOf (k :: p) ++ R).take c) = if c < (frameOf (k :: p)).length then (0, [], 0) else (k, p, (frameOf (k :: p)).length) := by
  have h := next_take (k :: p) R c (by rw [List.length_cons]; omega)
  unfold nx
  rw [h]
  split
  · rfl
  · rfl
theorem nx_form (k : UInt8) (p R : List UInt8) (hp : p.length < 16384) : nx (frameOf (k :: p) ++ R) = (k, p, (frameOf (k :: p)).length) := by
  have h := next_form (k :: p) R (by rw [List.length_cons]; omega)
  unfold nx
  rw [h]
  rfl

/-- The records of C frames, up to the E. -/
def copF : Nat → List UInt8 → List (List UInt8) → Nat → Option (List (List UInt8) × Nat)
  | 0, _, _, _ => none
  | f + 1, l, R, a =>
    if (nx l).1 = 67 then copF f (l.drop (nx l).2.2) (R ++ [(nx l).2.1]) (a + (nx l).2.2)
    else if (nx l).1 = 69 ∧ (nx l).2.1 = [] then some (R, a + (nx l).2.2) else none
/-- The records of R frames. -/
def appF : Nat → List UInt8 → List (List UInt8) → Nat → List (List UInt8) × Nat
  | 0, _, R, a => (R, a)
  | f + 1, l, R, a => if (nx l).1 = 82 then appF f (l.drop (nx l).2.2) (R ++ [(nx l).2.1]) (a + (nx l).2.2) else (R, a)

theorem nx_some {l : List UInt8} {k : UInt8} (h : (nx l).1 = k) (hk : k ≠ 0) : 6 ≤ (nx l).2.2 ∧ (nx l).2.2 ≤ l.length := ⟨nx_pos (by rw [h]; exact hk), nx_le l⟩

theorem copF_fuel : ∀ f g l R a, l.length < f → l.length < g → copF f l R a = copF g l R a := by
  intro f
  induction f with
  | zero => intro g l R a h; omega
  | succ f ih =>
    intro g l R a hf hg
    cases g with
    | zero => omega
    | succ g =>
      rw [copF, copF]
      by_cases h : (nx l).1 = 67
      · have hp := nx_some h (by decide)
        rw [if_pos h, if_pos h, ih g _ _ _ (by rw [List.length_drop]; omega) (by rw [List.length_drop]; omega)]
      · rw [if_neg h, if_neg h]
theorem appF_fuel : ∀ f g l R a, l.length < f → l.length < g → appF f l R a = appF g l R a := by
  intro f
  induction f with
  | zero => intro g l R a h; omega
  | succ f ih =>
    intro g l R a hf hg
    cases g with
    | zero => omega
    | succ g =>
      rw [appF, appF]
      by_cases h : (nx l).1 = 82
      · have hp := nx_some h (by decide)
        rw [if_pos h, if_pos h, ih g _ _ _ (by rw [List.length_drop]; omega) (by rw [List.length_drop]; omega)]
      · rw [if_neg h, if_neg h]

def cop (l : List UInt8) (R : List (List UInt8)) (a : Nat) : Option (List (List UInt8) × Nat) := copF (l.length + 1) (l.drop a) R a
def app (l : List UInt8) (R : List (List UInt8)) (a : Nat) : List (List UInt8) × Nat := appF (l.length + 1) (l.drop a) R a

section
variable {l : List UInt8} {R : List (List UInt8)} {a : Nat}
theorem cop_more (h : (nx (l.drop a)).1 = 67) : cop l R a = cop l (R ++ [(nx (l.drop a)).2.1]) (a + (nx (l.drop a)).2.2) := by
  have hp := nx_some h (by decide)
  rw [List.length_drop] at hp
  unfold cop
  rw [copF, if_pos h, List.drop_drop, copF_fuel l.length (l.length + 1) _ _ _ (by rw [List.length_drop]; omega) (by rw [List.length_drop]; omega)]
theorem cop_end (h : (nx (l.drop a)).1 = 69) (h2 : (nx (l.drop a)).2.1 = []) : cop l R a = some (R, a + (nx (l.drop a)).2.2) := by
  unfold cop
  rw [copF, if_neg (by rw [h]; decide), if_pos ⟨h, h2⟩]
theorem cop_none (h : (nx (l.drop a)).1 ≠ 67) (h2 : ¬ ((nx (l.drop a)).1 = 69 ∧ (nx (l.drop a)).2.1 = [])) : cop l R a = none := by
  unfold cop
  rw [copF, if_neg h, if_neg h2]
theorem app_more (h : (nx (l.drop a)).1 = 82) : app l R a = app l (R ++ [(nx (l.drop a)).2.1]) (a + (nx (l.drop a)).2.2) := by
  have hp := nx_some h (by decide)
  rw [List.length_drop] at hp
  unfold app
  rw [appF, if_pos h, List.drop_drop, appF_fuel l.length (l.length + 1) _ _ _ (by rw [List.length_drop]; omega) (by rw [List.length_drop]; omega)]
theorem app_end (h : (nx (l.drop a)).1 ≠ 82) : app l R a = (R, a) := by
  unfold app
  rw [appF, if_neg h]
end

/-- The number that these bytes are, if they are just one. -/
def numOf (l : List UInt8) : Option Nat := if rdEnd (rdNum 18446744073709551615 ⟨l, 0⟩).2 = 0 then some (rdNum 18446744073709551615 ⟨l, 0⟩).1 else none

/-- The log with which bytes begin: its generation, its records, its end. -/
def lgOf (l : List UInt8) : Option (Nat × List (List UInt8) × Nat) :=
  if (nx l).1 = 71 then
    match numOf (nx l).2.1 with
    | none => none
    | some g => match cop l [] (nx l).2.2 with
      | none => none
      | some x => some (g, app l x.1 x.2)
  else none

theorem numOf_form (n : Nat) (hn : n < 18446744073709551616) : numOf (numForm n) = some n := by
  have h := num_form n 18446744073709551615 [] hn (by omega)
  rw [List.append_nil] at h
  unfold numOf
  rw [h]
  rfl

/-- Records that were laid anew; records that came later; the frames that a log begins with. -/
def copies (C : List (List UInt8)) : List UInt8 := C.flatMap fun r => frameOf (67 :: r)
def apps (A : List (List UInt8)) : List UInt8 := A.flatMap fun r => frameOf (82 :: r)
def headOf (g : Nat) (C : List (List UInt8)) : List UInt8 := frameOf (71 :: numForm g) ++ (copies C ++ frameOf [69])
/-- No record is too long. -/
def Fit (R : List (List UInt8)) : Prop := ∀ r ∈ R, r.length ≤ 16000

theorem copies_cons (r : List UInt8) (C : List (List UInt8)) : copies (r :: C) = frameOf (67 :: r) ++ copies C := by simp [copies]
theorem copies_snoc (C : List (List UInt8)) (r : List UInt8) : copies (C ++ [r]) = copies C ++ frameOf (67 :: r) := by simp [copies]
theorem apps_cons (r : List UInt8) (A : List (List UInt8)) : apps (r :: A) = frameOf (82 :: r) ++ apps A := by simp [apps]
theorem apps_snoc (A : List (List UInt8)) (r : List UInt8) : apps (A ++ [r]) = apps A ++ frameOf (82 :: r) := by simp [apps]

theorem copF_copies (T : List UInt8) : ∀ (C : List (List UInt8)) (f g : Nat) (R : List (List UInt8)) (a : Nat), Fit C → (copies C ++ T).length < f → T.length < g → copF f (copies C ++ T) R a = copF g T (R ++ C) (a + (copies C).length) := by
  intro C
  induction C with
  | nil =>
    intro f g R a _ hf hg
    rw [List.append_nil]
    exact copF_fuel f g T R a hf hg
  | cons r C ih =>
    intro f g R a hC hf hg
    have hr : r.length ≤ 16000 := hC r (by simp)
    rw [copies_cons, List.append_assoc] at hf ⊢
    cases f with
    | zero => omega
    | succ f =>
      have hx := nx_form 67 r (copies C ++ T) (by omega)
      have hl := frameOf_len (67 :: r)
      rw [copF, hx, if_pos rfl]
      dsimp only
      rw [List.drop_left, ih f g (R ++ [r]) _ (fun q hq => hC q (by simp [hq])) (by rw [List.length_append] at hf; omega) hg, List.append_assoc, List.length_append, Nat.add_assoc]
      rfl

theorem copF_cut : ∀ (C : List (List UInt8)) (f : Nat) (R : List (List UInt8)) (a c : Nat), Fit C → c < (copies C ++ frameOf [69]).length → copF f ((copies C ++ frameOf [69]).take c) R a = none := by
  intro C
  induction C with
  | nil =>
    intro f R a c _ hc
    cases f with
    | zero => rfl
    | succ f =>
      have hx := nx_cut 69 [] [] c (by decide)
      rw [List.append_nil, if_pos (by simpa [copies] using hc)] at hx
      show copF (f + 1) (([] ++ frameOf [69]).take c) R a = none
      rw [List.nil_append, copF, hx, if_neg (by decide), if_neg (by decide)]
  | cons r C ih =>
    intro f R a c hC hc
    have hr : r.length ≤ 16000 := hC r (by simp)
    rw [copies_cons, List.append_assoc] at hc ⊢
    cases f with
    | zero => rfl
    | succ f =>
      have hx := nx_cut 67 r (copies C ++ frameOf [69]) c (by omega)
      by_cases h : c < (frameOf (67 :: r)).length
      · rw [if_pos h] at hx
        rw [copF, hx, if_neg (by decide), if_neg (by decide)]
      · rw [if_neg h] at hx
        rw [copF, hx, if_pos rfl]
        dsimp only
        rw [List.drop_take, List.drop_left, ih _ _ _ _ (fun q hq => hC q (by simp [hq])) (by rw [List.length_append] at hc; omega)]

theorem appF_apps (T : List UInt8) (hT : (nx T).1 ≠ 82) : ∀ (A : List (List UInt8)) (f : Nat) (R : List (List UInt8)) (a : Nat), Fit A → (apps A ++ T).length < f → appF f (apps A ++ T) R a = (R ++ A, a + (apps A).length) := by
  intro A
  induction A with
  | nil =>
    intro f R a _ hf
    cases f with
    | zero => omega
    | succ f =>
      show appF (f + 1) ([] ++ T) R a = _
      rw [List.nil_append, appF, if_neg hT, List.append_nil]
      rfl
  | cons r A ih =>
    intro f R a hA hf
    have hr : r.length ≤ 16000 := hA r (by simp)
    rw [apps_cons, List.append_assoc] at hf ⊢
    cases f with
    | zero => omega
    | succ f =>
      have hx := nx_form 82 r (apps A ++ T) (by omega)
      have hl := frameOf_len (82 :: r)
      rw [appF, hx, if_pos rfl]
      dsimp only
      rw [List.drop_left, ih f (R ++ [r]) _ (fun q hq => hA q (by simp [hq])) (by rw [List.length_append] at hf; omega), List.append_assoc, List.length_append, Nat.add_assoc]
      rfl

theorem numForm_fits (g : Nat) (hg : g < 18446744073709551616) : (numForm g).length < 16384 := by
  rw [numForm_length]
  have := sz_le hg
  omega

theorem lg_form (g : Nat) (C A : List (List UInt8)) (J : List UInt8) (hg : g < 18446744073709551616) (hC : Fit C) (hA : Fit A) (hJ : (nx J).1 ≠ 82) :
    lgOf (headOf g C ++ apps A ++ J) = some (g, C ++ A, (headOf g C ++ apps A).length) := by
  have e : headOf g C ++ apps A ++ J = frameOf (71 :: numForm g) ++ (copies C ++ (frameOf [69] ++ (apps A ++ J))) := by simp [headOf]
  have hx := nx_form 71 (numForm g) (copies C ++ (frameOf [69] ++ (apps A ++ J))) (numForm_fits g hg)
  have hE := nx_form 69 [] (apps A ++ J) (by decide)
  rw [← e] at hx
  have h1 : cop (headOf g C ++ apps A ++ J) [] (frameOf (71 :: numForm g)).length = some (C, (headOf g C).length) := by
    unfold cop
    rw [e, List.drop_left, copF_copies (frameOf [69] ++ (apps A ++ J)) C _ ((frameOf [69] ++ (apps A ++ J)).length + 1) [] _ hC (by simp only [List.length_append]; omega) (by omega)]
    rw [copF, hE, if_neg (by decide), if_pos ⟨rfl, rfl⟩, List.nil_append]
    simp only [headOf, List.length_append, Nat.add_assoc]
  have h2 : app (headOf g C ++ apps A ++ J) C (headOf g C).length = (C ++ A, (headOf g C ++ apps A).length) := by
    unfold app
    rw [List.append_assoc, List.drop_left, appF_apps J hJ A _ C _ hA (by simp only [List.length_append]; omega), List.length_append]
  unfold lgOf
  rw [hx, if_pos rfl]
  dsimp only
  rw [numOf_form g hg]
  dsimp only
  rw [h1]
  dsimp only
  rw [h2]

theorem lg_cut (g : Nat) (C : List (List UInt8)) (c : Nat) (hg : g < 18446744073709551616) (hC : Fit C) (hc : c < (headOf g C).length) : lgOf ((headOf g C).take c) = none := by
  have hx := nx_cut 71 (numForm g) (copies C ++ frameOf [69]) c (numForm_fits g hg)
  unfold lgOf
  unfold headOf at hc ⊢
  by_cases h : c < (frameOf (71 :: numForm g)).length
  · rw [if_pos h] at hx
    rw [hx, if_neg (by decide)]
  · rw [if_neg h] at hx
    rw [hx, if_pos rfl]
    dsimp only
    rw [numOf_form g hg]
    dsimp only
    have h1 : cop ((frameOf (71 :: numForm g) ++ (copies C ++ frameOf [69])).take c) [] (frameOf (71 :: numForm g)).length = none := by
      unfold cop
      rw [List.drop_take, List.drop_left, copF_cut C _ _ _ _ hC (by rw [List.length_append] at hc; omega)]
    rw [h1]

/-- These bytes are a log of this generation with these records, and nothing behind it. -/
def IsLog (l : List UInt8) (g : Nat) (R : List (List UInt8)) : Prop := g < 18446744073709551616 ∧ Fit R ∧ ∃ C A, R = C ++ A ∧ l = headOf g C ++ apps A

theorem IsLog.fits {l : List UInt8} {g : Nat} {R : List (List UInt8)} (h : IsLog l g R) : Fit R := h.2.1
theorem IsLog.tail {l J : List UInt8} {g : Nat} {R : List (List UInt8)} (h : IsLog l g R) (hJ : (nx J).1 ≠ 82) : lgOf (l ++ J) = some (g, R, l.length) := by
  obtain ⟨hg, hR, C, A, rfl, rfl⟩ := h
  exact lg_form g C A J hg (fun r hr => hR r (by simp [hr])) (fun r hr => hR r (by simp [hr])) hJ
theorem IsLog.lg {l : List UInt8} {g : Nat} {R : List (List UInt8)} (h : IsLog l g R) : lgOf l = some (g, R, l.length) := by
  have := h.tail (J := []) (by decide)
  rwa [List.append_nil] at this
theorem IsLog.more {l : List UInt8} {g : Nat} {R : List (List UInt8)} (h : IsLog l g R) (r : List UInt8) (hr : r.length ≤ 16000) : IsLog (l ++ frameOf (82 :: r)) g (R ++ [r]) := by
  obtain ⟨hg, hR, C, A, rfl, rfl⟩ := h
  refine ⟨hg, ?_, C, A ++ [r], by simp, by rw [apps_snoc]; simp⟩
  intro q hq
  rcases List.mem_append.1 hq with h | h
  · exact hR q h
  · rw [List.mem_singleton.1 h]; exact hr
theorem IsLog.head (g : Nat) (C : List (List UInt8)) (hg : g < 18446744073709551616) (hC : Fit C) : IsLog (headOf g C) g C := ⟨hg, hC, C, [], by simp, by simp [apps]⟩
theorem torn (r : List UInt8) (c : Nat) (hr : r.length ≤ 16000) (hc : c < (frameOf (82 :: r)).length) : (nx ((frameOf (82 :: r)).take c)).1 ≠ 82 := by
  have h := nx_cut 82 r [] c (by omega)
  rw [List.append_nil, if_pos hc] at h
  rw [h]
  decide

theorem fit_nil : Fit [] := fun _ h => absurd h (by simp)

end Go.Proofs.Ytjjdmeemhgopbaa
