/-
  Verdicts in no order, and the same in order: what is found, laid, done and cut of both.
-/
import Derived.Test.YtkadaoebehgkbaaGv
namespace Go.Proofs.Ytkadaoebehgkbaa
open Go.RowKit

def kd (x : Vd) : Int × Int := (x.c, x.n)
def Kd (m : Bk) : Prop := m.Pairwise fun x y => kd x ≠ kd y
structure Rl (m K : Bk) : Prop where
  srt : SrtV K
  perm : K.Perm m
theorem srt_kd {K : Bk} (h : SrtV K) : Kd K := h.imp fun {a b} hab e => by
  have e1 : a.c = b.c := congrArg Prod.fst e
  have e2 : a.n = b.n := congrArg Prod.snd e
  rw [e1, e2, ltT_irrefl] at hab
  cases hab
theorem Rl.apart {m K : Bk} (h : Rl m K) : Kd m := (h.perm.pairwise_iff (fun {_ _} hne => Ne.symm hne)).1 (srt_kd h.srt)
theorem Rl.len {m K : Bk} (h : Rl m K) : m.length = K.length := h.perm.length_eq.symm
theorem Rl.nil : Rl [] [] := ⟨srtV_nil, List.Perm.refl _⟩
theorem kd_find {k : Int × Int} {o : Vd} : ∀ {m : Bk}, Kd m → (m.find? (Gv.isK kd k) = some o ↔ o ∈ m ∧ kd o = k)
  | [], _ => by simp
  | x :: m, h => by
    obtain ⟨h1, h2⟩ := List.pairwise_cons.1 h
    rw [List.find?_cons]
    split
    · rename_i e
      have e' : kd x = k := by simpa [Gv.isK] using e
      constructor
      · intro ho
        injection ho with ho
        subst ho
        exact ⟨List.mem_cons_self .., e'⟩
      · rintro ⟨ho, hk⟩
        rcases List.mem_cons.1 ho with rfl | ho
        · rfl
        · exact absurd (e'.trans hk.symm) (h1 o ho)
    · rename_i e
      rw [kd_find h2]
      constructor
      · rintro ⟨a, b⟩
        exact ⟨List.mem_cons_of_mem _ a, b⟩
      · rintro ⟨a, b⟩
        rcases List.mem_cons.1 a with rfl | a
        · simp [Gv.isK, b] at e
        · exact ⟨a, b⟩
theorem getB_find (c n : Int) : ∀ m : Bk, getB c n m = m.find? (Gv.isK kd (c, n))
  | [] => rfl
  | x :: m => by
    unfold getB
    rw [List.find?_cons, getB_find c n m]
    have : Gv.isK kd (c, n) x = ofN c n x := by
      simp only [Gv.isK, kd, ofN, Prod.mk.injEq]
      by_cases h1 : x.c = c <;> by_cases h2 : x.n = n <;> simp [h1, h2]
    rw [this]
    cases ofN c n x <;> rfl
theorem Rl.get {m K : Bk} (h : Rl m K) (c n : Int) : m.find? (Gv.isK kd (c, n)) = getB c n K := by
  rw [getB_find]
  cases hm : m.find? (Gv.isK kd (c, n)) with
  | some o =>
    obtain ⟨h1, h2⟩ := (kd_find h.apart).1 hm
    exact ((kd_find (srt_kd h.srt)).2 ⟨h.perm.mem_iff.2 h1, h2⟩).symm
  | none =>
    cases hK : K.find? (Gv.isK kd (c, n)) with
    | none => rfl
    | some o =>
      obtain ⟨h1, h2⟩ := (kd_find (srt_kd h.srt)).1 hK
      have := (kd_find h.apart).2 ⟨h.perm.mem_iff.1 h1, h2⟩
      rw [hm] at this
      cases this
theorem ins_perm (v : Vd) : ∀ B : Bk, (insB v B).Perm (v :: B)
  | [] => List.Perm.refl _
  | x :: B => by
    unfold insB
    split
    · exact ((ins_perm v B).cons x).trans (List.Perm.swap v x B)
    · exact List.Perm.refl _
theorem Rl.ins {m K : Bk} {v : Vd} (h : Rl m K) (hg : getB v.c v.n K = none) : Rl (m ++ [v]) (insB v K) := ⟨ins_srt h.srt hg, (ins_perm v K).trans ((h.perm.cons v).trans (List.perm_append_singleton v m).symm)⟩
theorem set_done {m : Bk} {j : Nat} {o : Vd} {c n : Int} (hk : Kd m) (hj : m[j]? = some o) (ho : kd o = (c, n)) : m.set j { o with dn := true } = mkDone c n m := by
  have hjl := (List.getElem?_eq_some_iff.1 hj).1
  have hjo := (List.getElem?_eq_some_iff.1 hj).2
  refine List.ext_getElem? (fun i => ?_)
  unfold mkDone
  rw [List.getElem?_set, List.getElem?_map]
  by_cases hij : j = i
  · subst hij
    rw [if_pos rfl, if_pos hjl, hj]
    have : ofN c n o = true := ofN_iff.2 ⟨congrArg Prod.fst ho, congrArg Prod.snd ho⟩
    simp [this]
  · rw [if_neg hij]
    cases hi : m[i]? with
    | none => rfl
    | some x =>
      have hil := (List.getElem?_eq_some_iff.1 hi).1
      have hix := (List.getElem?_eq_some_iff.1 hi).2
      have hne : kd x ≠ kd o := by
        rw [← hix, ← hjo]
        rcases Nat.lt_or_gt_of_ne hij with hl | hl
        · exact fun e => List.pairwise_iff_getElem.1 hk j i hjl hil hl e.symm
        · exact List.pairwise_iff_getElem.1 hk i j hil hjl hl
      have : ofN c n x = false := by
        rw [← Bool.not_eq_true]
        intro e
        obtain ⟨e1, e2⟩ := ofN_iff.1 e
        exact hne (by rw [ho]; exact Prod.ext e1 e2)
      simp [this]
theorem Rl.done {m K : Bk} {j : Nat} {o : Vd} {c n : Int} (h : Rl m K) (hj : m[j]? = some o) (ho : kd o = (c, n)) : Rl (m.set j { o with dn := true }) (mkDone c n K) := by
  rw [set_done h.apart hj ho]
  exact ⟨done_srt h.srt c n, h.perm.map _⟩
theorem Rl.filt {m m' K : Bk} (h : Rl m K) (p : Vd → Bool) (hm : m'.Perm (m.filter p)) : Rl m' (K.filter p) := ⟨filt_srt h.srt p, (h.perm.filter p).trans hm.symm⟩
/-- What is sorted of them is the book in order. -/
theorem Rl.sorted {m K L : Bk} (h : Rl m K) (hp : L.Perm m) (hs : L.Pairwise fun x y => ltT y.c y.n x.c x.n = false) : L = K := by
  have hL : Kd L := (hp.pairwise_iff (fun {_ _} hne => Ne.symm hne)).2 h.apart
  have hS : SrtV L := (List.pairwise_and_iff.2 ⟨hs, hL⟩).imp (fun {a b} ⟨h1, h2⟩ => by
    cases h3 : ltT a.c a.n b.c b.n with
    | true => rfl
    | false =>
      obtain ⟨e1, e2⟩ := ltT_tri h3 h1
      exact absurd (Prod.ext e1 e2) h2)
  exact srt_ext hS h.srt (fun x => by rw [hp.mem_iff, h.perm.mem_iff])
end Go.Proofs.Ytkadaoebehgkbaa
