/-
  The program's two maps and the table that they stand for, plain; intents cut and laid.
-/
import Derived.Test.YtknfkpnicjellaaGm
import Derived.Test.YtknfkpnicjellaaIfl
import Derived.Test.YtknfkpnicjellaaSor
namespace Go.Proofs.Ytknfkpnicjellaa
open Go.RowKit

def clI (m : Mm) (x : List UInt8 × Cv) : Ii := ⟨x.2.1.1, x.2.1.2, ((getM x.2.1 m).getD zt).sp, ((getM x.2.1 m).getD zt).sl, ((getM x.2.1 m).getD zt).mp, ((getM x.2.1 m).getD zt).ml, ((getM x.2.1 m).getD zt).prim, x.2.2.val, x.2.2.dead⟩
def tblF (m : Mm) (L : Kv Cv) : Tb := L.map fun x => (x.1, clI m x)

/-- L and m stand for T. -/
structure Rel (L : Kv Cv) (m : Mm) (T : Tb) : Prop where
  eq : T = tblF m L
  srt : Srt L
  key : ∀ x ∈ L, x.2.2.key = x.1
  has : ∀ x ∈ L, (getM x.2.1 m).isSome = true
  nd : (m.map (·.1)).Nodup
  ks : ∀ k t, getM k m = some t → t.kl = (byF k.1 k.2 T).map (·.1) ∧ t.kl ≠ [] ∧ 0 ≤ t.mp ∧ 0 ≤ t.ml
  ok : TOk T

theorem Rel.nil : Rel [] [] [] := ⟨rfl, List.Pairwise.nil, by simp, by simp, by simp, (fun _ _ h => by cases h), TOk.nil⟩
theorem Rel.len {L : Kv Cv} {m : Mm} {T : Tb} (h : Rel L m T) : L.length = T.length := by rw [h.eq]; simp [tblF]
theorem Rel.get {L : Kv Cv} {m : Mm} {T : Tb} (h : Rel L m T) (k : List UInt8) : getF k T = (getF k L).map fun v => clI m (k, v) := by
  rw [h.eq]
  exact get_map (fun x => clI m x) k L
theorem Rel.keys {L : Kv Cv} {m : Mm} {T : Tb} (h : Rel L m T) : T.map (·.1) = L.map (·.1) := by
  rw [h.eq, tblF, List.map_map]
  rfl
theorem Rel.mem {L : Kv Cv} {m : Mm} {T : Tb} (h : Rel L m T) {y : List UInt8 × Ii} (hy : y ∈ T) : ∃ x ∈ L, y = (x.1, clI m x) := by
  rw [h.eq] at hy
  obtain ⟨x, hx, rfl⟩ := List.mem_map.1 hy
  exact ⟨x, hx, rfl⟩
/-- A transaction's terms are there where it has intents. -/
theorem Rel.isSome {L : Kv Cv} {m : Mm} {T : Tb} (h : Rel L m T) (c n : Int) : (getM (c, n) m).isSome = decide (0 < (byF c n T).length) := by
  cases hg : getM (c, n) m with
  | some t =>
    obtain ⟨h1, h2, _⟩ := h.ks _ _ hg
    have : 0 < (byF c n T).length := by
      rcases Nat.eq_zero_or_pos (byF c n T).length with e | e
      · rw [List.length_eq_zero_iff] at e
        rw [e] at h1
        exact absurd h1 h2
      · exact e
    simp [this]
  | none =>
    have : byF c n T = [] := by
      unfold byF
      rw [List.filter_eq_nil_iff]
      intro y hy
      obtain ⟨x, hx, rfl⟩ := h.mem hy
      have h1 := h.has x hx
      intro h2
      have e1 : x.2.1 = (c, n) := by
        simp only [ofBy, clI, Bool.and_eq_true, beq_iff_eq] at h2
        exact Prod.ext h2.1 h2.2
      rw [e1, hg] at h1
      cases h1
    simp [this]
theorem Rel.kl {L : Kv Cv} {m : Mm} {T : Tb} (h : Rel L m T) (c n : Int) : ((getM (c, n) m).getD zt).kl = (byF c n T).map (·.1) := by
  have hs := h.isSome c n
  cases hg : getM (c, n) m with
  | some t => exact (h.ks _ _ hg).1
  | none =>
    rw [hg] at hs
    have : (byF c n T).length = 0 := by
      rcases Nat.eq_zero_or_pos (byF c n T).length with e | e
      · exact e
      · simp [e] at hs
    rw [List.length_eq_zero_iff] at this
    rw [this]
    rfl
/-- The intents of keys: what intents answers. -/
def intF (T : Tb) (K : List (List UInt8)) : Tb := K.map fun k => (k, (getF k T).getD zi)
theorem int_of {T : Tb} (hs : Srt T) : ∀ {X : Tb}, (∀ x ∈ X, x ∈ T) → intF T (X.map (·.1)) = X
  | [], _ => rfl
  | x :: X, h => by
    simp only [intF, List.map_cons]
    have hx : getF x.1 T = some x.2 := (getF_mem hs).2 (h x (List.mem_cons_self ..))
    have := int_of hs (X := X) (fun y hy => h y (List.mem_cons_of_mem _ hy))
    simp only [intF] at this
    rw [this, hx]
    rfl
theorem int_by {T : Tb} (hs : Srt T) (c n : Int) : intF T ((byF c n T).map (·.1)) = byF c n T := int_of hs (fun _ hx => (List.mem_filter.1 hx).1)
theorem int_all {T : Tb} (hs : Srt T) : intF T (T.map (·.1)) = T := int_of hs (fun _ hx => hx)
theorem int_len (T : Tb) (K : List (List UInt8)) : (intF T K).length = K.length := by simp [intF]

/-- Raised: the terms' stamp is the greater one. -/
theorem Rel.raise {L : Kv Cv} {m : Mm} {T : Tb} (h : Rel L m T) {c n mp ml : Int} {t : Tm} (hg : getM (c, n) m = some t) (h0 : 0 ≤ mp ∧ 0 ≤ ml) : Rel L (setM (c, n) (if ltT t.mp t.ml mp ml then { t with mp := mp, ml := ml } else t) m) (raiseF c n mp ml T) := by
  have hcl : ∀ x : List UInt8 × Cv, clI (setM (c, n) (if ltT t.mp t.ml mp ml then { t with mp := mp, ml := ml } else t) m) x = raise1 c n mp ml (clI m x) := by
    intro x
    unfold raise1 clI ofBy
    rw [get_setM]
    by_cases e : (c, n) = x.2.1
    · rw [if_pos e, ← e, hg]
      have e1 : (c == c && n == n) = true := by simp
      simp only [Option.getD_some, e1, Bool.true_and]
      split <;> rfl
    · rw [if_neg e]
      have e1 : (x.2.1.1 == c && x.2.1.2 == n) = false := by
        cases hb : (x.2.1.1 == c && x.2.1.2 == n) with
        | false => rfl
        | true =>
          simp only [Bool.and_eq_true, beq_iff_eq] at hb
          exact absurd (Prod.ext hb.1.symm hb.2.symm) e
      simp only [e1, Bool.false_and]
      rfl
  refine ⟨?_, h.srt, h.key, fun x hx => ?_, nd_setM h.nd, fun k t' hk => ?_, h.ok.raise c n mp ml⟩
  · rw [h.eq]
    unfold raiseF tblF
    rw [List.map_map]
    refine List.map_congr_left (fun x _ => ?_)
    simp only [Function.comp_apply, hcl]
  · rw [get_setM]
    split
    · rfl
    · exact h.has x hx
  · rw [get_setM] at hk
    have hb : (byF k.1 k.2 (raiseF c n mp ml T)).map (·.1) = (byF k.1 k.2 T).map (·.1) := by
      unfold byF raiseF
      rw [List.filter_map, List.map_map]
      have : ((fun x : List UInt8 × Ii => ofBy k.1 k.2 x.2) ∘ fun x : List UInt8 × Ii => (x.1, raise1 c n mp ml x.2)) = fun x : List UInt8 × Ii => ofBy k.1 k.2 x.2 := by
        funext x
        exact raise_of
      rw [this]
      rfl
    rw [hb]
    split at hk
    · rename_i e
      injection hk with hk
      subst hk
      obtain ⟨h1, h2, h3, h4⟩ := h.ks _ _ hg
      rw [← e]
      split
      · exact ⟨h1, h2, h0⟩
      · exact ⟨h1, h2, h3, h4⟩
    · exact h.ks _ _ hk

/-- Keys cut out of a map. -/
def cutsF {α : Type} : List (List UInt8) → Kv α → Kv α
  | [], L => L
  | k :: K, L => cutsF K (cutF k L)
end Go.Proofs.Ytknfkpnicjellaa

namespace Go.Proofs.Ytknfkpnicjellaa
open Go.RowKit

section
variable {α : Type}
theorem cuts_srt : ∀ {K : List (List UInt8)} {L : Kv α}, Srt L → Srt (cutsF K L)
  | [], _, h => h
  | k :: K, L, h => by
    unfold cutsF
    exact cuts_srt (cutF_srt h)
theorem cuts_get {q : List UInt8} : ∀ {K : List (List UInt8)} {L : Kv α}, Srt L → getF q (cutsF K L) = if q ∈ K then none else getF q L
  | [], _, _ => by simp [cutsF]
  | k :: K, L, h => by
    unfold cutsF
    rw [cuts_get (cutF_srt h), get_cut h]
    by_cases e : k = q
    · subst e; simp
    · have e1 : (k == q) = false := by simpa using e
      rw [e1]
      have e2 : (q ∈ k :: K) ↔ q ∈ K := by simp [Ne.symm e]
      by_cases e3 : q ∈ K
      · rw [if_pos e3, if_pos (e2.2 e3)]
      · rw [if_neg e3, if_neg (fun h => e3 (e2.1 h))]
        rfl
theorem cuts_snoc (k : List UInt8) : ∀ (K : List (List UInt8)) (L : Kv α), cutsF (K ++ [k]) L = cutF k (cutsF K L)
  | [], _ => rfl
  | _ :: K, L => cuts_snoc k K (cutF _ L)
theorem cut_le (k : List UInt8) : ∀ (L : Kv α), (cutF k L).length ≤ L.length
  | [] => Nat.le_refl _
  | (a, v) :: L => by
    unfold cutF
    split
    · simp
    · have := cut_le k L
      simp only [List.length_cons]
      omega
theorem cuts_le : ∀ (K : List (List UInt8)) (L : Kv α), (cutsF K L).length ≤ L.length
  | [], _ => Nat.le_refl _
  | k :: K, L => Nat.le_trans (cuts_le K (cutF k L)) (cut_le k L)
end
theorem rest_none {c n : Int} {T : Tb} (h : byF c n T = []) : restF c n T = T := by
  unfold restF
  rw [List.filter_eq_self]
  intro x hx
  unfold byF at h
  rw [List.filter_eq_nil_iff] at h
  simpa using h x hx

def restL (c n : Int) (L : Kv Cv) : Kv Cv := L.filter fun x => !(x.2.1.1 == c && x.2.1.2 == n)
theorem is_by {c n : Int} {k : Int × Int} : (k.1 == c && k.2 == n) = true ↔ k = (c, n) := by
  simp only [Bool.and_eq_true, beq_iff_eq]
  exact ⟨fun h => Prod.ext h.1 h.2, fun h => by subst h; exact ⟨rfl, rfl⟩⟩
theorem Rel.cuts {L : Kv Cv} {m : Mm} {T : Tb} (h : Rel L m T) (c n : Int) : cutsF ((byF c n T).map (·.1)) L = restL c n L := by
  refine srt_ext (cuts_srt h.srt) (filter_srt h.srt _) (fun q => ?_)
  rw [cuts_get h.srt]
  have hq : q ∈ (byF c n T).map (·.1) ↔ ∃ v, getF q L = some v ∧ v.1 = (c, n) := by
    rw [List.mem_map]
    constructor
    · rintro ⟨y, hy, rfl⟩
      obtain ⟨h1, h2⟩ := List.mem_filter.1 hy
      obtain ⟨x, hx, rfl⟩ := h.mem h1
      exact ⟨x.2, (getF_mem h.srt).2 hx, is_by.1 h2⟩
    · rintro ⟨v, hv, e⟩
      refine ⟨(q, clI m (q, v)), List.mem_filter.2 ⟨?_, is_by.2 e⟩, rfl⟩
      rw [h.eq]
      exact List.mem_map.2 ⟨(q, v), (getF_mem h.srt).1 hv, rfl⟩
  cases hg : getF q L with
  | none =>
    rw [if_neg (fun hh => by obtain ⟨v, hv, _⟩ := hq.1 hh; rw [hg] at hv; cases hv)]
    cases hf : getF q (restL c n L) with
    | none => rfl
    | some v =>
      have := ((get_filter h.srt _ q v).1 hf).1
      rw [hg] at this
      cases this
  | some v =>
    by_cases e : v.1 = (c, n)
    · rw [if_pos (hq.2 ⟨v, hg, e⟩)]
      cases hf : getF q (restL c n L) with
      | none => rfl
      | some u =>
        obtain ⟨h1, h2⟩ := (get_filter h.srt _ q u).1 hf
        rw [hg] at h1
        injection h1 with h1
        subst h1
        rw [is_by.2 e] at h2
        cases h2
    · rw [if_neg (fun hh => by obtain ⟨u, hu, e2⟩ := hq.1 hh; rw [hg] at hu; injection hu with hu; exact e (hu ▸ e2))]
      refine ((get_filter h.srt _ q v).2 ⟨hg, ?_⟩).symm
      cases hb : (v.1.1 == c && v.1.2 == n) with
      | false => rfl
      | true => exact absurd (is_by.1 hb) e
theorem by_rest_other {c n : Int} {k : Int × Int} (hk : (c, n) ≠ k) (T : Tb) : byF k.1 k.2 (restF c n T) = byF k.1 k.2 T := by
  unfold byF restF
  rw [List.filter_filter]
  refine List.filter_congr (fun x _ => ?_)
  cases h1 : ofBy k.1 k.2 x.2 with
  | false => rfl
  | true =>
    cases h2 : ofBy c n x.2 with
    | false => rfl
    | true =>
      unfold ofBy at h1 h2
      simp only [Bool.and_eq_true, beq_iff_eq] at h1 h2
      exact absurd (Prod.ext (h2.1.symm.trans h1.1) (h2.2.symm.trans h1.2)) hk
/-- Cut. -/
theorem Rel.cut {L : Kv Cv} {m : Mm} {T : Tb} (h : Rel L m T) (c n : Int) : Rel (cutsF ((byF c n T).map (·.1)) L) (delM (c, n) m) (restF c n T) := by
  rw [h.cuts]
  have hne : ∀ x ∈ restL c n L, (c, n) ≠ x.2.1 ∧ x ∈ L := fun x hx => by
    obtain ⟨h1, h2⟩ := List.mem_filter.1 hx
    refine ⟨fun e => ?_, h1⟩
    rw [is_by.2 e.symm] at h2
    cases h2
  refine ⟨?_, filter_srt h.srt _, fun x hx => h.key x (hne x hx).2, fun x hx => ?_, nd_delM h.nd, fun k t hk => ?_, h.ok.rest c n⟩
  · rw [h.eq]
    unfold restF tblF restL
    rw [List.filter_map]
    refine (List.map_congr_left (fun x hx => ?_)).symm
    obtain ⟨h1, _⟩ := hne x hx
    unfold clI
    rw [get_delM h.nd, if_neg h1]
  · rw [get_delM h.nd, if_neg (hne x hx).1]
    exact h.has x (hne x hx).2
  · rw [get_delM h.nd] at hk
    split at hk
    · cases hk
    · rename_i e
      rw [by_rest_other e]
      exact h.ks k t hk

def laidC (k : Int × Int) : List Wr → Kv Cv → Kv Cv
  | [], L => L
  | w :: l, L => laidC k l (setF w.key (k, w) L)
theorem laidC_snoc (k : Int × Int) (w : Wr) : ∀ (l : List Wr) (L : Kv Cv), laidC k (l ++ [w]) L = setF w.key (k, w) (laidC k l L)
  | [], _ => rfl
  | _ :: l, _ => laidC_snoc k w l _
theorem laidC_srt {k : Int × Int} : ∀ {l : List Wr} {L : Kv Cv}, Srt L → Srt (laidC k l L)
  | [], _, h => h
  | w :: l, L, h => by
    unfold laidC
    exact laidC_srt (setF_srt h)
theorem laidC_mem {k : Int × Int} {x : List UInt8 × Cv} : ∀ {l : List Wr} {L : Kv Cv}, x ∈ laidC k l L → (∃ w ∈ l, x = (w.key, (k, w))) ∨ x ∈ L
  | [], _, h => .inr h
  | w :: l, L, h => by
    rcases laidC_mem (l := l) h with ⟨u, hu, e⟩ | e
    · exact .inl ⟨u, List.mem_cons_of_mem _ hu, e⟩
    · rcases setF_keys e with e | e
      · exact .inl ⟨w, List.mem_cons_self .., e⟩
      · exact .inr e
theorem map_set {α β : Type} (f : List UInt8 × α → β) (k : List UInt8) (v : α) : ∀ (L : Kv α), (setF k v L).map (fun x => (x.1, f x)) = setF k (f (k, v)) (L.map fun x => (x.1, f x))
  | [] => rfl
  | (a, u) :: L => by
    simp only [List.map_cons]
    unfold setF
    split
    · simp only [List.map_cons]
      rw [map_set f k v L]
    · split
      · rfl
      · rfl
theorem tbl_laid (m : Mm) (k : Int × Int) : ∀ (l : List Wr) (L : Kv Cv), tblF m (laidC k l L) = laidF (fun w => clI m (w.key, (k, w))) l (tblF m L)
  | [], _ => rfl
  | w :: l, L => by
    unfold laidC laidF
    rw [tbl_laid m k l]
    unfold tblF
    rw [map_set]
theorem laidC_len {k : Int × Int} : ∀ {l : List Wr} {L : Kv Cv}, Srt L → (laidC k l L).length ≤ L.length + l.length
  | [], _, _ => Nat.le_refl _
  | w :: l, L, h => by
    have := laidC_len (k := k) (l := l) (L := setF w.key (k, w) L) (setF_srt h)
    have h2 := len_set (k := w.key) (v := (k, w)) h
    unfold laidC
    simp only [List.length_cons]
    split at h2 <;> omega

/-- Lay. -/
theorem Rel.lay {L : Kv Cv} {m : Mm} {T : Tb} (h : Rel L m T) {c n sp sl mp ml : Int} {prim : List UInt8} {l : List Wr} {sv : Option Addr × Nat × Nat} (hno : getM (c, n) m = none) (hr : rightW l = true) (hnew : NewK l T) (hst : 0 ≤ mp ∧ 0 ≤ ml) :
    Rel (laidC (c, n) l L) (setM (c, n) ⟨sp, sl, mp, ml, prim, sv, srtK (l.map (·.key))⟩ m) (laidF (mkI c n sp sl mp ml prim) l T) := by
  obtain ⟨hw, hnd, hl1, _⟩ := right_parts hr
  have hby : byF c n T = [] := by
    have := h.isSome c n
    rw [hno] at this
    rcases Nat.eq_zero_or_pos (byF c n T).length with e | e
    · exact List.length_eq_zero_iff.1 e
    · simp [e] at this
  have hold : ∀ x ∈ L, (c, n) ≠ x.2.1 := fun x hx e => by
    have := h.has x hx
    rw [← e, hno] at this
    cases this
  have hT : tblF (setM (c, n) ⟨sp, sl, mp, ml, prim, sv, srtK (l.map (·.key))⟩ m) L = T := by
    rw [h.eq]
    unfold tblF
    refine List.map_congr_left (fun x hx => ?_)
    unfold clI
    rw [get_setM, if_neg (hold x hx)]
  have hf : (fun w : Wr => clI (setM (c, n) ⟨sp, sl, mp, ml, prim, sv, srtK (l.map (·.key))⟩ m) (w.key, ((c, n), w))) = mkI c n sp sl mp ml prim := by
    funext w
    unfold clI
    rw [get_setM, if_pos rfl]
    rfl
  have hsT : Srt (laidF (mkI c n sp sl mp ml prim) l T) := laid_srt h.ok.srt
  refine ⟨?_, laidC_srt h.srt, fun x hx => ?_, fun x hx => ?_, nd_setM h.nd, fun k t hk => ?_, ⟨hsT, laid_keys (fun w hw' => wOk_key (hw w hw')) h.ok.keys⟩⟩
  · rw [tbl_laid, hT, hf]
  · rcases laidC_mem hx with ⟨w, _, rfl⟩ | e
    · rfl
    · exact h.key x e
  · rcases laidC_mem hx with ⟨w, _, rfl⟩ | e
    · rw [get_setM, if_pos rfl]; rfl
    · rw [get_setM, if_neg (hold x e)]
      exact h.has x e
  · rw [get_setM] at hk
    split at hk
    · rename_i e
      injection hk with hk
      subst hk
      rw [← e]
      refine ⟨srtK_eq hnd (filter_srt hsT _) (fun q => ?_), fun e2 => ?_, hst⟩
      · rw [List.mem_map, List.mem_map]
        constructor
        · rintro ⟨w, hw', rfl⟩
          exact ⟨(w.key, mkI c n sp sl mp ml prim w), List.mem_filter.2 ⟨(getF_mem hsT).1 (laid_get h.ok.srt hnd w hw'), by rw [ofBy_mk]; simp⟩, rfl⟩
        · rintro ⟨y, hy, rfl⟩
          obtain ⟨h1, h2⟩ := List.mem_filter.1 hy
          by_cases hk : ∃ w ∈ l, w.key = y.1
          · exact hk
          · have h3 := (getF_mem hsT).2 h1
            rw [laid_other h.ok.srt (fun w hw' e3 => hk ⟨w, hw', e3⟩)] at h3
            have h4 : y ∈ byF c n T := List.mem_filter.2 ⟨(getF_mem h.ok.srt).1 h3, h2⟩
            rw [hby] at h4
            cases h4
      · have := srtK_len (l.map (·.key))
        simp only at e2
        rw [e2] at this
        simp only [List.length_nil, List.length_map] at this
        omega
    · rename_i e
      have hb : byF k.1 k.2 (laidF (mkI c n sp sl mp ml prim) l T) = byF k.1 k.2 T := by
        refine srt_ext (filter_srt hsT _) (filter_srt h.ok.srt _) (fun q => ?_)
        by_cases hq : ∃ w ∈ l, w.key = q
        · obtain ⟨w, hw', rfl⟩ := hq
          have a1 : getF w.key (byF k.1 k.2 (laidF (mkI c n sp sl mp ml prim) l T)) = none := by
            cases hf2 : getF w.key (byF k.1 k.2 (laidF (mkI c n sp sl mp ml prim) l T)) with
            | none => rfl
            | some v =>
              obtain ⟨g1, g2⟩ := (get_filter hsT _ _ v).1 hf2
              rw [laid_get h.ok.srt hnd w hw'] at g1
              injection g1 with g1
              subst g1
              rw [ofBy_mk] at g2
              simp only [Bool.and_eq_true, beq_iff_eq] at g2
              exact absurd (Prod.ext g2.1 g2.2) e
          have a2 : getF w.key (byF k.1 k.2 T) = none := by
            cases hf2 : getF w.key (byF k.1 k.2 T) with
            | none => rfl
            | some v =>
              have := ((get_filter h.ok.srt _ _ v).1 hf2).1
              rw [hnew w hw'] at this
              cases this
          rw [a1, a2]
        · have e1 := laid_other (f := mkI c n sp sl mp ml prim) (k := q) h.ok.srt (fun w hw' e3 => hq ⟨w, hw', e3⟩)
          cases hf2 : getF q (byF k.1 k.2 T) with
          | some v =>
            obtain ⟨g1, g2⟩ := (get_filter h.ok.srt _ _ v).1 hf2
            exact (get_filter hsT _ _ v).2 ⟨e1.trans g1, g2⟩
          | none =>
            cases hf3 : getF q (byF k.1 k.2 (laidF (mkI c n sp sl mp ml prim) l T)) with
            | none => rfl
            | some v =>
              obtain ⟨g1, g2⟩ := (get_filter hsT _ _ v).1 hf3
              have := (get_filter h.ok.srt (fun x => ofBy k.1 k.2 x.2) q v).2 ⟨e1.symm.trans g1, g2⟩
              rw [show List.filter (fun x => ofBy k.1 k.2 x.2) T = byF k.1 k.2 T from rfl, hf2] at this
              cases this
      rw [hb]
      exact h.ks k t hk
end Go.Proofs.Ytknfkpnicjellaa
