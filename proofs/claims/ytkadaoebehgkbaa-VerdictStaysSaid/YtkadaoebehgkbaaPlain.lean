/-
  A book of verdicts as a plain list in the order of transactions: what is set, done, retired, found. (Of no seat: to be carried.)
-/
import Derived.Sort.Walk0
namespace Go.Proofs.Ytkadaoebehgkbaa

/-- A verdict: of whom, its start, its stamp, its parts, whether all know. -/
structure Vd where
  c : Int
  n : Int
  sp : Int
  sl : Int
  ap : Int
  al : Int
  pt : Int
  dn : Bool
abbrev Bk := List Vd
def ltT (a b c d : Int) : Bool := decide (a < c) || decide (a = c) && decide (b < d)
def rightB (p l : Int) : Bool := decide (p ≤ 281474976710656 ∧ l ≤ 4095)
def lessB (p l q m : Int) : Bool := decide (p < q ∨ p = q ∧ l < m)
theorem ltT_irrefl (a b : Int) : ltT a b a b = false := by simp [ltT]
theorem ltT_iff {a b c d : Int} : ltT a b c d = true ↔ a < c ∨ a = c ∧ b < d := by simp [ltT]
theorem ltT_trans {a b c d e f : Int} (h1 : ltT a b c d = true) (h2 : ltT c d e f = true) : ltT a b e f = true := by
  rw [ltT_iff] at *
  omega
theorem ltT_tri {a b c d : Int} (h1 : ltT a b c d = false) (h2 : ltT c d a b = false) : a = c ∧ b = d := by
  rw [← Bool.not_eq_true, ltT_iff] at *
  omega
theorem ltT_asymm {a b c d : Int} (h : ltT a b c d = true) : ltT c d a b = false := by
  rw [← Bool.not_eq_true]
  rw [ltT_iff] at *
  omega
def ofN (c n : Int) (x : Vd) : Bool := x.c == c && x.n == n
theorem ofN_iff {c n : Int} {x : Vd} : ofN c n x = true ↔ x.c = c ∧ x.n = n := by simp [ofN]
def SrtV (B : Bk) : Prop := B.Pairwise fun x y => ltT x.c x.n y.c y.n = true
def getB (c n : Int) : Bk → Option Vd
  | [] => none
  | x :: B => if ofN c n x then some x else getB c n B
def insB (v : Vd) : Bk → Bk
  | [] => [v]
  | x :: B => if ltT x.c x.n v.c v.n then x :: insB v B else v :: x :: B
def cmB (x : Vd) : Bool := !(x.ap == 0 && x.al == 0)
def okV (v : Vd) : Bool := rightB v.sp v.sl && rightB v.ap v.al && (cmB v || (v.pt == 0 && !v.dn))
def eqV (x y : Vd) : Bool := x.c == y.c && x.n == y.n && x.sp == y.sp && x.sl == y.sl && x.ap == y.ap && x.al == y.al && x.pt == y.pt && x.dn == y.dn
theorem eqV_iff {x y : Vd} : eqV x y = true ↔ x = y := by
  obtain ⟨c, n, sp, sl, ap, al, pt, dn⟩ := x
  obtain ⟨c', n', sp', sl', ap', al', pt', dn'⟩ := y
  simp [eqV, and_assoc]
def setB (v : Vd) (B : Bk) : Bk × Int := if okV v then (match getB v.c v.n B with
  | some o => (B, if eqV { o with dn := v.dn } v then 0 else 40)
  | none => (insB v B, 0)) else (B, 1)
def mkDone (c n : Int) (B : Bk) : Bk := B.map fun x => if ofN c n x then { x with dn := true } else x
def doneB (c n : Int) (B : Bk) : Bk × Bool := match getB c n B with
  | some o => if cmB o then (mkDone c n B, true) else (B, false)
  | none => (B, false)
def stayB (sp sl : Int) (keep : List (Int × Int)) (x : Vd) : Bool := !lessB x.sp x.sl sp sl || (cmB x && !x.dn) || keep.contains (x.c, x.n)
def retB (sp sl : Int) (keep : List (Int × Int)) (B : Bk) : Bk := B.filter (stayB sp sl keep)

theorem srtV_nil : SrtV [] := List.Pairwise.nil
theorem ins_mem {v x : Vd} : ∀ {B : Bk}, x ∈ insB v B ↔ x = v ∨ x ∈ B
  | [] => by simp [insB]
  | y :: B => by
    unfold insB
    split
    · simp only [List.mem_cons, ins_mem (B := B)]
      constructor
      · rintro (h | h | h) <;> simp [h]
      · rintro (h | h | h) <;> simp [h]
    · simp
theorem ins_len (v : Vd) : ∀ B : Bk, (insB v B).length = B.length + 1
  | [] => rfl
  | y :: B => by
    unfold insB
    split
    · simp [ins_len v B]
    · simp
theorem get_mem {c n : Int} {o : Vd} : ∀ {B : Bk}, getB c n B = some o → o ∈ B ∧ o.c = c ∧ o.n = n
  | [], h => by cases h
  | x :: B, h => by
    unfold getB at h
    split at h
    · rename_i e
      injection h with h
      subst h
      exact ⟨List.mem_cons_self .., ofN_iff.1 e⟩
    · obtain ⟨h1, h2⟩ := get_mem h
      exact ⟨List.mem_cons_of_mem _ h1, h2⟩
theorem get_none {c n : Int} : ∀ {B : Bk}, getB c n B = none → ∀ x ∈ B, ofN c n x = false
  | [], _, x, hx => by cases hx
  | y :: B, h, x, hx => by
    unfold getB at h
    split at h
    · cases h
    · rename_i e
      rcases List.mem_cons.1 hx with rfl | hx
      · simpa using e
      · exact get_none h x hx
theorem mem_get {c n : Int} {o : Vd} : ∀ {B : Bk}, SrtV B → o ∈ B → o.c = c → o.n = n → getB c n B = some o
  | [], _, h, _, _ => by cases h
  | x :: B, hs, h, h1, h2 => by
    obtain ⟨hs1, hs2⟩ := List.pairwise_cons.1 hs
    unfold getB
    rcases List.mem_cons.1 h with rfl | h
    · rw [if_pos (ofN_iff.2 ⟨h1, h2⟩)]
    · rw [if_neg]
      · exact mem_get hs2 h h1 h2
      · intro e
        obtain ⟨e1, e2⟩ := ofN_iff.1 e
        have := hs1 o h
        rw [e1, e2, h1, h2, ltT_irrefl] at this
        cases this
theorem ins_srt {v : Vd} : ∀ {B : Bk}, SrtV B → getB v.c v.n B = none → SrtV (insB v B)
  | [], _, _ => List.pairwise_singleton _ _
  | x :: B, hs, hg => by
    obtain ⟨hs1, hs2⟩ := List.pairwise_cons.1 hs
    unfold getB at hg
    split at hg
    · cases hg
    · rename_i e
      unfold insB
      split
      · rename_i hlt
        refine List.pairwise_cons.2 ⟨fun y hy => ?_, ins_srt hs2 hg⟩
        rcases ins_mem.1 hy with rfl | hy
        · exact hlt
        · exact hs1 y hy
      · rename_i hlt
        have hvx : ltT v.c v.n x.c x.n = true := by
          cases h : ltT v.c v.n x.c x.n with
          | true => rfl
          | false =>
            obtain ⟨h1, h2⟩ := ltT_tri (by simpa using hlt) h
            exact absurd (ofN_iff.2 ⟨h1, h2⟩) e
        refine List.pairwise_cons.2 ⟨fun y hy => ?_, hs⟩
        rcases List.mem_cons.1 hy with rfl | hy
        · exact hvx
        · exact ltT_trans hvx (hs1 y hy)
theorem get_ins {v : Vd} {c n : Int} : ∀ {B : Bk}, getB v.c v.n B = none → getB c n (insB v B) = if ofN c n v then some v else getB c n B
  | [], _ => by simp [insB, getB]
  | x :: B, hg => by
    unfold getB at hg
    split at hg
    · cases hg
    · rename_i e
      unfold insB
      split
      · unfold getB
        rw [get_ins hg]
        by_cases h1 : ofN c n x = true
        · rw [if_pos h1, if_pos h1, if_neg]
          intro h2
          obtain ⟨a1, a2⟩ := ofN_iff.1 h1
          obtain ⟨b1, b2⟩ := ofN_iff.1 h2
          exact e (ofN_iff.2 ⟨a1.trans b1.symm, a2.trans b2.symm⟩)
        · rw [if_neg h1, if_neg h1]
      · conv => lhs; unfold getB
theorem srt_ext : ∀ {A B : Bk}, SrtV A → SrtV B → (∀ x, x ∈ A ↔ x ∈ B) → A = B
  | [], [], _, _, _ => rfl
  | [], y :: B, _, _, h => by have := (h y).2 (List.mem_cons_self ..); cases this
  | x :: A, [], _, _, h => by have := (h x).1 (List.mem_cons_self ..); cases this
  | x :: A, y :: B, ha, hb, h => by
    obtain ⟨ha1, ha2⟩ := List.pairwise_cons.1 ha
    obtain ⟨hb1, hb2⟩ := List.pairwise_cons.1 hb
    have hxy : x = y := by
      rcases List.mem_cons.1 ((h x).1 (List.mem_cons_self ..)) with e | e
      · exact e
      · rcases List.mem_cons.1 ((h y).2 (List.mem_cons_self ..)) with e2 | e2
        · exact e2.symm
        · have h1 := hb1 x e
          have h2 := ltT_asymm (ha1 y e2)
          rw [h1] at h2
          cases h2
    subst hxy
    congr 1
    refine srt_ext ha2 hb2 (fun z => ?_)
    have hz := h z
    simp only [List.mem_cons] at hz
    constructor
    · intro hza
      rcases hz.1 (.inr hza) with e | e
      · have := ha1 z hza
        rw [e, ltT_irrefl] at this
        cases this
      · exact e
    · intro hzb
      rcases hz.2 (.inr hzb) with e | e
      · have := hb1 z hzb
        rw [e, ltT_irrefl] at this
        cases this
      · exact e
theorem filt_srt {B : Bk} (h : SrtV B) (p : Vd → Bool) : SrtV (B.filter p) := List.Pairwise.sublist List.filter_sublist h
theorem ret_srt {B : Bk} (h : SrtV B) (sp sl : Int) (keep : List (Int × Int)) : SrtV (retB sp sl keep B) := filt_srt h _
theorem done_srt {B : Bk} (h : SrtV B) (c n : Int) : SrtV (mkDone c n B) := by
  unfold SrtV mkDone
  rw [List.pairwise_map]
  refine h.imp (fun {a b} hab => ?_)
  split <;> split <;> exact hab
theorem set_srt {B : Bk} (h : SrtV B) (v : Vd) : SrtV (setB v B).1 := by
  unfold setB
  split
  · split
    · exact h
    · rename_i hg
      exact ins_srt h hg
  · exact h
theorem doneB_srt {B : Bk} (h : SrtV B) (c n : Int) : SrtV (doneB c n B).1 := by
  unfold doneB
  split
  · split
    · exact done_srt h c n
    · exact h
  · exact h
theorem get_done {c n c' n' : Int} : ∀ {B : Bk}, getB c' n' (mkDone c n B) = (getB c' n' B).map fun x => if ofN c n x then { x with dn := true } else x
  | [] => rfl
  | x :: B => by
    have ih := get_done (c := c) (n := n) (c' := c') (n' := n') (B := B)
    unfold mkDone at ih ⊢
    simp only [List.map_cons]
    unfold getB
    have e : ofN c' n' (if ofN c n x then { x with dn := true } else x) = ofN c' n' x := by split <;> rfl
    rw [e]
    split
    · rfl
    · exact ih
theorem get_filter {B : Bk} (hs : SrtV B) (p : Vd → Bool) (c n : Int) : getB c n (B.filter p) = match getB c n B with
    | some o => if p o then some o else none
    | none => none := by
  cases hg : getB c n B with
  | none =>
    cases hf : getB c n (B.filter p) with
    | none => rfl
    | some o =>
      obtain ⟨h1, h2, h3⟩ := get_mem hf
      have := get_none hg o (List.mem_filter.1 h1).1
      rw [ofN_iff.2 ⟨h2, h3⟩] at this
      cases this
  | some o =>
    obtain ⟨h1, h2, h3⟩ := get_mem hg
    by_cases hp : p o = true
    · simp only [hp, if_true]
      exact mem_get (filt_srt hs p) (List.mem_filter.2 ⟨h1, hp⟩) h2 h3
    · simp only [hp]
      cases hf : getB c n (B.filter p) with
      | none => rfl
      | some u =>
        obtain ⟨g1, g2, g3⟩ := get_mem hf
        obtain ⟨g4, g5⟩ := List.mem_filter.1 g1
        have := mem_get hs g4 g2 g3
        rw [hg] at this
        injection this with this
        subst this
        exact absurd g5 hp
theorem set_len (v : Vd) (B : Bk) : (setB v B).1.length ≤ B.length + 1 := by
  unfold setB
  split
  · split
    · simp
    · simp [ins_len]
  · simp
theorem doneB_len (c n : Int) (B : Bk) : (doneB c n B).1.length = B.length := by
  unfold doneB
  split
  · split
    · simp [mkDone]
    · rfl
  · rfl
theorem ret_len (sp sl : Int) (keep : List (Int × Int)) (B : Bk) : (retB sp sl keep B).length ≤ B.length := List.length_filter_le _ _
end Go.Proofs.Ytkadaoebehgkbaa
