import Derived.Test.YtkdkgdollmmcnaaGreatWbu
set_option maxHeartbeats 4000000
set_option maxRecDepth 100000
set_option linter.unusedVariables false
set_option linter.unusedSimpArgs false
namespace Go.Proofs.YtkdkgdollmmcnaaGreat
def Sst (L : List Wr) : Prop := L.Pairwise fun x y => x.key < y.key
abbrev fk (k : List UInt8) (L : List Wr) : List Wr := L.filter fun x => decide (x.key = k)
theorem ne_of_klt {a b : List UInt8} (h : a < b) : a ≠ b := fun e => by subst e; exact List.lt_irrefl _ h
theorem klt_of {a b : List UInt8} (h : ¬ a < b) (h' : a ≠ b) : b < a := by
 by_cases c : b < a
 ·exact c
 ·exact absurd (List.le_antisymm (show a ≤ b from c) (show b ≤ a from h)) h'
theorem fk_cons (k : List UInt8) (x : Wr) (L : List Wr) : fk k (x :: L) = if x.key = k then x :: fk k L else fk k L := by
 simp only [fk, List.filter_cons, decide_eq_true_eq]
theorem fk_none {k : List UInt8} {L : List Wr} (h : ∀ x ∈ L, x.key ≠ k) : fk k L = [] := by
 rw [List.filter_eq_nil_iff]
 intro x hx e
 exact h x hx (of_decide_eq_true e)
theorem Sst.eq {A B : List Wr} (ha : Sst A) (hb : Sst B) (h : Eqk A B) : A = B := by
 induction A generalizing B with
 | nil =>
  cases B with
  | nil => rfl
  | cons y B => exact absurd (h.mem.1 mc) (List.not_mem_nil)
 | cons x A ih =>
  cases B with
  | nil => exact absurd (h.mem.2 mc) (List.not_mem_nil)
  | cons y B =>
   obtain ⟨a1, a2⟩ := List.pairwise_cons.1 ha
   obtain ⟨b1, b2⟩ := List.pairwise_cons.1 hb
   have hxy : x = y := by
    rcases List.mem_cons.1 (h.mem.2 (List.mem_cons_self .. : x ∈ x :: A)) with e | e
    ·exact e
    ·rcases List.mem_cons.1 (h.mem.1 (List.mem_cons_self .. : y ∈ y :: B)) with e' | e'
     ·exact e'.symm
     ·exact absurd (List.lt_trans (b1 x e) (a1 y e')) (List.lt_irrefl _)
   subst hxy
   congr 1
   refine ih a2 b2 (fun k => ?_)
   have hk := h k
   have e1 := fk_cons k x A
   have e2 := fk_cons k x B
   unfold fk at e1 e2
   rw [e1, e2] at hk
   split at hk
   ·exact (List.cons.inj hk).2
   ·exact hk
theorem cptG_fk (k : List UInt8) : ∀ (l : List Wr) (p : Wr), Srt (p :: l) → fk k (cptG p l) = if k = p.key then [] else (fk k l).take 1
 | [], p, _ => by simp [cptG, fk]
 | x :: l, p, h => by
  obtain ⟨h1, h2⟩ := List.pairwise_cons.1 h
  have ih := cptG_fk k l x h2
  rw [cptG]
  split
  ·rename_i e
   rw [ih, e]
   split
   ·rfl
   ·rename_i e'
    rw [fk_cons, if_neg (fun c => e' (by rw [← c, e]))]
  ·rename_i e
   have hlt : p.key < x.key := klt_of (h1 x mc) e
   rw [fk_cons, fk_cons, ih]
   by_cases c1 : x.key = k
   ·rw [if_pos c1, if_pos c1, if_pos c1.symm, if_neg (by rw [← c1]; exact e)]
    rfl
   ·rw [if_neg c1, if_neg c1, if_neg (fun c => c1 c.symm)]
    split
    ·rename_i e'
     subst e'
     rw [fk_none (L := l) (fun z hz c => ?_)]
     ·rfl
     ·have := (List.pairwise_cons.1 h2).1 z hz
      rw [c] at this
      exact this hlt
    ·rfl
theorem cptG_sst : ∀ (l : List Wr) (p : Wr), Srt (p :: l) → Sst (p :: cptG p l)
 | [], p, _ => by simp [cptG, Sst]
 | x :: l, p, h => by
  obtain ⟨h1, h2⟩ := List.pairwise_cons.1 h
  have ih := cptG_sst l x h2
  obtain ⟨i1, i2⟩ := List.pairwise_cons.1 ih
  rw [cptG]
  split
  ·rename_i e
   exact List.pairwise_cons.2 ⟨fun y hy => by rw [← e]; exact i1 y hy, i2⟩
  ·rename_i e
   have hlt : p.key < x.key := klt_of (h1 x mc) e
   refine List.pairwise_cons.2 ⟨fun y hy => ?_, ih⟩
   rcases List.mem_cons.1 hy with rfl | hy
   ·exact hlt
   ·exact List.lt_trans hlt (i1 y hy)
theorem cpt_fk {L : List Wr} (h : Srt L) (k : List UInt8) : fk k (cpt L) = (fk k L).take 1 := by
 cases L with
 | nil => rfl
 | cons x l =>
  rw [cpt, fk_cons, fk_cons, cptG_fk k l x h]
  by_cases c : x.key = k
  ·rw [if_pos c, if_pos c, if_pos c.symm]
   rfl
  ·rw [if_neg c, if_neg c, if_neg (fun e => c e.symm)]
theorem cpt_sst {L : List Wr} (h : Srt L) : Sst (cpt L) := by
 cases L with
 | nil => exact List.Pairwise.nil
 | cons x l => exact cptG_sst l x h
theorem insP_mem {k v : List UInt8} {d : Bool} {y : Wr} : ∀ {t : List Wr}, y ∈ insP k v d t → y = ⟨k, v, d⟩ ∨ y ∈ t
 | [], h => by simpa [insP] using h
 | x :: t, h => by
  rw [insP] at h
  split at h
  ·rcases List.mem_cons.1 h with rfl | h
   ·exact .inr mc
   ·rcases insP_mem h with e | e
    ·exact .inl e
    ·exact .inr (List.mem_cons_of_mem _ e)
  ·split at h
   ·exact .inr h
   ·rcases List.mem_cons.1 h with e | e
    ·exact .inl e
    ·exact .inr e
theorem insP_sst (k v : List UInt8) (d : Bool) : ∀ {t : List Wr}, Sst t → Sst (insP k v d t)
 | [], _ => by simp [insP, Sst]
 | x :: t, h => by
  obtain ⟨h1, h2⟩ := List.pairwise_cons.1 h
  rw [insP]
  split
  ·rename_i e
   refine List.pairwise_cons.2 ⟨fun y hy => ?_, insP_sst k v d h2⟩
   rcases insP_mem hy with rfl | hy
   ·exact e
   ·exact h1 y hy
  ·rename_i e
   split
   ·exact h
   ·rename_i e'
    have hlt : k < x.key := klt_of e (by simpa using e')
    refine List.pairwise_cons.2 ⟨fun y hy => ?_, h⟩
    rcases List.mem_cons.1 hy with rfl | hy
    ·exact hlt
    ·exact List.lt_trans hlt (h1 y hy)
theorem insP_fk (k v : List UInt8) (d : Bool) (q : List UInt8) : ∀ {t : List Wr}, Sst t → fk q (insP k v d t) = if k = q then (fk q t ++ [(⟨k, v, d⟩ : Wr)]).take 1 else fk q t
 | [], _ => by
  rw [insP, fk_cons]
  by_cases c : k = q
  ·rw [if_pos c, if_pos c]
   simp [fk]
  ·rw [if_neg c, if_neg c]
 | x :: t, h => by
  obtain ⟨h1, h2⟩ := List.pairwise_cons.1 h
  rw [insP]
  split
  ·rename_i e
   rw [fk_cons, fk_cons, insP_fk k v d q h2]
   by_cases c : k = q
   ·have : x.key ≠ q := by rw [← c]; exact ne_of_klt e
    rw [if_neg this, if_neg this]
   ·rw [if_neg c, if_neg c]
  ·rename_i e
   split
   ·rename_i e'
    have e2 : x.key = k := by simpa using e'
    by_cases c : k = q
    ·rw [if_pos c, fk_cons, if_pos (e2.trans c), fk_none (L := t) (fun z hz c' => ?_)]
     ·rfl
     ·have := h1 z hz
      rw [c', ← c, ← e2] at this
      exact List.lt_irrefl _ this
    ·rw [if_neg c]
   ·rename_i e'
    have hlt : k < x.key := klt_of e (by simpa using e')
    rw [fk_cons]
    by_cases c : k = q
    ·rw [if_pos c, if_pos c, fk_none (L := x :: t) (fun z hz c' => ?_)]
     ·rfl
     ·rcases List.mem_cons.1 hz with rfl | hz
      ·rw [c', ← c] at hlt
       exact List.lt_irrefl _ hlt
      ·have := List.lt_trans hlt (h1 z hz)
       rw [c', ← c] at this
       exact List.lt_irrefl _ this
    ·rw [if_neg c, if_neg c]
def layF (M : List Wr) (t : List Wr) : List Wr := M.foldl (fun t x => insP x.key x.val x.dead t) t
theorem layF_sst : ∀ (M : List Wr) {t : List Wr}, Sst t → Sst (layF M t)
 | [], _, h => h
 | x :: M, _, h => layF_sst M (insP_sst x.key x.val x.dead h)
theorem take1 {α : Type} (A B : List α) : (A.take 1 ++ B).take 1 = (A ++ B).take 1 := by cases A <;> simp
theorem layF_fk (q : List UInt8) : ∀ (M : List Wr) {t : List Wr}, Sst t → (fk q t).length ≤ 1 → fk q (layF M t) = (fk q t ++ fk q M).take 1
 | [], t, _, h1 => by
  show fk q t = _
  simp only [fk, List.filter_nil, List.append_nil]
  rw [List.take_of_length_le h1]
 | x :: M, t, h, h1 => by
  show fk q (layF M (insP x.key x.val x.dead t)) = _
  have e := insP_fk x.key x.val x.dead q h
  rw [layF_fk q M (insP_sst _ _ _ h) (by rw [e]; split; simp only [List.length_take]; omega; exact h1), e, fk_cons]
  split
  ·rw [take1, List.append_assoc]
   rfl
  ·rfl
theorem lay_sorted {M L : List Wr} (hs : Srt L) (he : Eqk M L) : cpt L = layF M [] := by
 refine Sst.eq (cpt_sst hs) (layF_sst M List.Pairwise.nil) (fun k => ?_)
 show fk k (layF M []) = fk k (cpt L)
 rw [layF_fk k M List.Pairwise.nil (by simp [fk]), cpt_fk hs]
 have := he k
 show (fk k [] ++ fk k M).take 1 = (fk k L).take 1
 rw [show fk k L = fk k M from this]
 rfl
theorem scan_plain (bt : Bt) (s : Ss) {L : List Wr} (hs : Srt L) (he : Eqk ((s.ws.filter fun x => inB s.op x.key) ++ ((s.ps.filter fun p => bt.key p.key).map fun p => ⟨p.key, p.val, false⟩)) L) :
  scanF bt s = (((cpt L).filter fun x => !x.dead).map fun x => ⟨x.key, x.val⟩).take (min (max s.op.lim 0) 16).toNat := by
 rw [lay_sorted hs he]
 unfold scanF layF
 rw [List.foldl_append, List.foldl_map]
open Go.RowKit Go.Sort Go.Shelf
variable {base : Nat} {w W W' : World} {S : List Wr}
theorem ins164n (W : World) : Calls Tryz.prog 164 #[sy, iw 0, iw 0, .func (.func 122) #[] #[]] W fun e w' => e = .returned (.tuple #[]) ∧ w' = W := by
 go_enter Tryz.func164, Tryz.ntmps164
 go_wp2_with fail
 go_loopw [8] (fun s wr => s = iw 1 ∧ wr = W) (fun s _ => 0)
 case atStart => exact ⟨rfl, rfl⟩
 case round =>
  obtain ⟨rfl, rfl⟩ := hrel
  go_wp2_with fail
  go_end0
  exact ⟨rfl, rfl⟩
theorem stab151n (W : World) : Calls Tryz.prog 151 #[sy, iw 0, .func (.func 122) #[] #[]] W fun e w' => e = .returned (.tuple #[]) ∧ w' = W := by
 have C1 : Hid (1 = 1 → Calls Tryz.prog 164 #[sy, iw 0, iw 0, .func (.func 122) #[] #[]] W fun e w' => e = .returned (.tuple #[]) ∧ W = w') := fun _ => (ins164n W).mono fun e w' q => ⟨q.1, q.2.symm⟩
 go_enter Tryz.func151, Tryz.ntmps151
 go_wp2_with fail
 go_loopw [7, 8] (fun s t wr => s = iw 0 ∧ t = iw 20 ∧ W = wr) (fun s _ _ => 0)
 case atStart => exact ⟨rfl, rfl, rfl⟩
 case round =>
  obtain ⟨rfl, rfl, rfl⟩ := hrel
  go_wp2_with (go_at_call 164; refine (C1.out (by trivial)).mono ?_; rintro e w2 ⟨rfl, rfl⟩)
  go_loopw [6] (fun s wr => s = iw 20 ∧ W = wr) (fun s _ => 0)
  case atStart => exact ⟨rfl, rfl⟩
  case round =>
   obtain ⟨rfl, rfl⟩ := hrel
   go_wp2_with fail
   go_end0
   exact ⟨rfl, rfl⟩
theorem sort121n (W : World) : Calls Tryz.prog 121 #[sy, .func (.func 122) #[] #[]] W fun e w' => e = .returned (.tuple #[]) ∧ w' = W := by
 have C1 : Hid (1 = 1 → Calls Tryz.prog 151 #[sy, iw 0, .func (.func 122) #[] #[]] W fun e w' => e = .returned (.tuple #[]) ∧ W = w') := fun _ => (stab151n W).mono fun e w' q => ⟨q.1, q.2.symm⟩
 go_enter Tryz.func121, Tryz.ntmps121
 go_wp2_with (go_at_call 151; refine (C1.out (by trivial)).mono ?_; rintro e w2 ⟨rfl, rfl⟩)
 go_end0
 exact ⟨rfl, rfl⟩
theorem cpt123n (W : World) : Calls Tryz.prog 123 #[sy, .func (.func 124) #[] #[]] W fun e w' => e = .returned sy ∧ w' = W := by
 go_enter Tryz.func123, Tryz.ntmps123
 go_wp2_with fail
 go_ret
 exact ⟨rfl, rfl⟩
theorem own_cases {v : Value} {M : List Wr} (h : W.ownsRow base 70 3 v M.length (rowC wrc M)) : (v = sy ∧ M = []) ∨ ∃ g cap, v = .slice (some ⟨g, 0, none⟩) M.length cap := by
 rcases h.2 with ⟨e, h0⟩ | ⟨g, cap, cur, e, -⟩
 ·exact .inl ⟨e, List.eq_nil_of_length_eq_zero h0⟩
 ·exact .inr ⟨g, cap, e⟩
theorem sorted121 {v : Value} {M : List Wr} (hM : M.length ≤ 1000000) (h : W.ownsRow base 70 3 v M.length (rowC wrc M)) :
  Calls Tryz.prog 121 #[v, .func (.func 122) #[] #[]] W fun e w' => e = .returned (.tuple #[]) ∧ ∃ L, w'.ownsRow base 70 3 v L.length (rowC wrc L) ∧ Srt L ∧ Eqk M L ∧ Kept (fun k => v.ownBlock = some k) W w' := by
 rcases own_cases h with ⟨rfl, rfl⟩ | ⟨g, cap, rfl⟩
 ·exact (sort121n W).mono fun e w' q => ⟨q.1, [], by rw [q.2]; exact h, List.Pairwise.nil, Eqk.refl _, by rw [q.2]; exact Kept.of_below (Below.refl _ _)⟩
 ·exact (sort121 (base := base) (w := W) hM ⟨rfl, h, Kept.of_below (Below.refl _ _)⟩).mono fun e w' ⟨q, L, q1, q2, q3⟩ => ⟨q, L, by have k := q1.own; rw [q1.len] at k ⊢; exact k, q2, q3, q1.kp.mono (fun k e => by rw [e]; rfl)⟩
theorem compact123 {v : Value} {M : List Wr} (hM : M.length ≤ 1000000) (h : W.ownsRow base 70 3 v M.length (rowC wrc M)) :
  Calls Tryz.prog 123 #[v, .func (.func 124) #[] #[]] W fun e w' => ∃ v', e = .returned v' ∧ w'.ownsRow base 70 3 v' (cpt M).length (rowC wrc (cpt M)) ∧ v'.ownBlock = v.ownBlock ∧ Kept (fun k => v.ownBlock = some k) W w' := by
 rcases own_cases h with ⟨rfl, rfl⟩ | ⟨g, cap, rfl⟩
 ·exact (cpt123n W).mono fun e w' q => ⟨_, q.1, by rw [q.2]; exact h, rfl, by rw [q.2]; exact Kept.of_below (Below.refl _ _)⟩
 ·exact (cpt123 (base := base) (w := W) hM ⟨rfl, h, Kept.of_below (Below.refl _ _)⟩).mono fun e w' ⟨q, q1, q2⟩ => ⟨_, q, q1, rfl, q2.mono (fun k e => by rw [e]; rfl)⟩
theorem alive125 {v : Value} {M : List Wr} (h : W.ownsRow base 70 3 v M.length (rowC wrc M)) :
  Calls Tryz.prog 125 #[v, .func (.func 126) #[] #[]] W fun e w' => ∃ v', e = .returned v' ∧ w'.ownsRow base 70 3 v' (M.filter fun x => !x.dead).length (rowC wrc (M.filter fun x => !x.dead)) ∧ v'.ownBlock = v.ownBlock ∧ Kept (fun k => v.ownBlock = some k) W w' :=
 delf125 wrc wrc_len wrc_one wz 126 #[] (fun x => x.dead) base M v W h (enters_of Tryz.func126 (by kernel_rfl) rfl) (show Hid _ from fun x W' _ => dead126 x W')
end Go.Proofs.YtkdkgdollmmcnaaGreat
