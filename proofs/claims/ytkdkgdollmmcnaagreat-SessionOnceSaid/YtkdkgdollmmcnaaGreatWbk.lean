import Derived.Test.YtkdkgdollmmcnaaGreatWbj
import Derived.Test.YtkdkgdollmmcnaaGreatWay
set_option maxHeartbeats 4000000
set_option maxRecDepth 100000
set_option linter.unusedVariables false
set_option linter.unusedSimpArgs false
namespace Go.Proofs.YtkdkgdollmmcnaaGreat
open Go.RowKit Go.Sort Go.Shelf
variable {M M' G N : Nat → Prop} {W W' w : World} {f f' : Fo} {X X' : Ss}
def lfc (l : Le) (vw vs vp : Value) : List Value := uu l.cl :: uu l.sh :: uu l.sq :: .bool l.an :: (rqc l.q vw vs ++ rpc l.r vp)
structure LF (M : Nat → Prop) (l : Le) (vw vs vp : Value) (W : World) : Prop where
 q : QF M l.q vw vs W
 r : RwF M 2 vp l.r.ps.length (rowC prc l.r.ps) W
theorem LF.stay {l : Le} {vw vs vp : Value} (h : LF M l vw vs vp W) (s : Stay G M M' W W') : LF M' l vw vs vp W' := ⟨h.q.stay s, h.r.stay s (by decide)⟩
theorem LF.at {l : Le} {vw vs vp : Value} (h : LF M l vw vs vp W) : LAt W.heap.size l vw vs vp W := ⟨h.q.at, h.r.rw (by decide)⟩
theorem LF.right {l : Le} {vw vs vp : Value} (h : LF M l vw vs vp W) : Calls Tryz.prog 25 #[.agg (lfc l vw vs vp).toArray] W fun e w' => e = .returned (.bool (rightL l)) ∧ Below W.heap.size W w' := by
 have ha := h.at
 obtain ⟨wa, wc, rfl, -⟩ := h.q.ws
 obtain ⟨sa, sc, rfl, -⟩ := h.q.sk
 obtain ⟨pa, pc, rfl, -⟩ := h.r
 exact right9 l wa sa pa wc sc pc W ha
theorem To.stay {act : Bool} (t : To f N act W f' X' W') : Stay (f.In act) (f.Ex N act) (f'.Ex N X'.act) W W' := ⟨t.kp, fun k e => .inr e, fun k hk e => e.elim .inl (fun e => by
 rcases t.sub k e with e | e
 ·exact .inr e
 ·omega)⟩
def rsX (x : Ax) : Ax := { x with a := { x.a with rs := true } }
theorem row_same {α : Type} (vc : α → List Value) (d x : α) : ∀ (L : List α) (i : Nat), i < L.length → vc x = vc (L.getD i d) → rowC vc (L.set i x) = rowC vc L
 | [], i, h, _ => absurd h (by simp)
 | a :: r, 0, h, e => by
  rw [List.set_cons_zero, rowC_cons, rowC_cons, e]
  rfl
 | a :: r, i + 1, h, e => by
  rw [List.set_cons_succ, rowC_cons, rowC_cons, row_same vc d x r i (by simpa using h) e]
theorem getD_mem {α : Type} {L : List α} {i : Nat} {d : α} (h : i < L.length) : L.getD i d ∈ L := by
 rw [List.getD, List.getElem?_eq_getElem h]
 exact List.getElem_mem h
theorem SC.rs (h : SC f N X W) {i : Nat} (hi : i < f.la.length) : SC { f with la := f.la.set i (rsX (f.la.getD i dax)) } N { X with asks := (f.la.set i (rsX (f.la.getD i dax))).map Ax.a } W := by
 have k := h.ak _ (getD_mem (d := dax) hi)
 refine ⟨h.blk, h.tx, ?_, h.ro, rfl, h.eo, ⟨h.bx.l, h.bx.p, h.bx.c, h.bx.le⟩, h.gb, h.gd, fun x hx => ?_, h.lk⟩
 ·show W.ownsRow 0 99 33 f.va (f.la.set i (rsX (f.la.getD i dax))).length (rowC (axc X.cl) (f.la.set i (rsX (f.la.getD i dax))))
  rw [List.length_set, row_same (axc X.cl) dax (rsX (f.la.getD i dax)) f.la i hi rfl]
  exact h.ra
 ·have s : Stay (fun _ => False) (f.Ex N X.act) (f.Ex N X.act) W W := ⟨Kept.refl _ _, fun _ e => e.elim, fun _ _ e => e⟩
  have sf : SameF f { f with la := f.la.set i (rsX (f.la.getD i dax)) } := ⟨rfl, rfl, rfl, rfl, fun _ h => ⟨h, rfl⟩⟩
  rcases List.mem_or_eq_of_mem_set hx with e | e
  ·exact (h.ak x e).stay s sf rfl (fun _ _ => rfl)
  ·subst e
   have k2 : AkIs (f.Ex N X.act) f X W (rsX (f.la.getD i dax)) := ⟨k.q, k.one, k.tr, k.pu, k.un, k.de, k.re, k.c5, k.c0⟩
   exact k2.stay s sf rfl (fun _ _ => rfl)
theorem cnt_rs (L : List Ax) (n : Nat) : ∀ (i : Nat), i < L.length → cntA ((L.set i (rsX (L.getD i dax))).map Ax.a) n = cntA (L.map Ax.a) n := by
 intro i hi
 unfold cntA
 induction L generalizing i with
 | nil => exact absurd hi (by simp)
 | cons a r ih =>
  cases i with
  | zero =>
   simp only [List.set_cons_zero, List.map_cons, List.filter_cons]
   show (if (a.a.ch && a.a.q.k == 5 && a.a.on == n) = true then (rsX a).a :: List.filter (fun x : Ak => x.ch && x.q.k == 5 && x.on == n) (List.map Ax.a r) else List.filter (fun x : Ak => x.ch && x.q.k == 5 && x.on == n) (List.map Ax.a r)).length = _
   split <;> rfl
  | succ i =>
   simp only [List.set_cons_succ, List.map_cons, List.filter_cons]
   have := ih i (by simpa using hi)
   rw [show (a :: r).getD (i + 1) dax = r.getD i dax from rfl]
   split
   ·rw [List.length_cons, List.length_cons, this]
   ·exact this
theorem SC.erase {i : Nat} {v' : Value} (h : SC f N X W) (hi : i < f.la.length) (hk : Kept f.Pg W W') (hb : W'.heap[f.sb]? = some (.cells (sbA { f with va := v' } X) 77 (0, 0))) (ra : W'.ownsRow 0 99 33 v' (f.la.length - 1) (rowC (axc X.cl) (f.la.eraseIdx i))) (ro : W'.ownsRow 0 55 31 f.vo f.lo.length (rowC lxc f.lo)) (hv : v'.ownBlock = f.va.ownBlock) :
  To f N X.act W { f with va := v', la := f.la.eraseIdx i } { X with asks := (f.la.eraseIdx i).map Ax.a } W' := by
 refine SC.posted (X' := { X with asks := (f.la.eraseIdx i).map Ax.a }) (va := v') (vo := f.vo) (la := f.la.eraseIdx i) (lo := f.lo) h hk hb ?_ ro (fun k e => .inl (by rw [← hv]; exact e)) (fun k e => .inl e) ?_ (fun x hx => .inl ((List.eraseIdx_sublist f.la i).subset hx)) (fun x hx => .inl hx)
 ·rw [List.length_eraseIdx_of_lt hi]
  exact ra
 ·rw [← h.eo]
theorem ent48 : ∀ args w, (callFunc 48 args).run Tryz.prog w = .ok (.enter 48 args) w := enters_of Tryz.func48 (by kernel_rfl) rfl
theorem hear17 (h : SC f N X w) (hn : Nok N f X.act w) (bd : Bd f X) (l : Le) (vw vs vp : Value) (hl : LF (f.Ex N X.act) l vw vs vp w) (R : Ss × Rs) (mp ml : Nat) (hmp : (maxT (X.np, X.nl) (l.r.np, l.r.nl)) = (mp, ml))
  (h0 : (rightL l = false ∨ l.an = false ∨ l.cl ≠ X.cl ∨ ∀ j, j < f.la.length → isA l (f.la.getD j dax).a = false) → R = (X, zS))
  (h1 : ∀ i, i < f.la.length → isA l (f.la.getD i dax).a = true → (∀ j, j < i → isA l (f.la.getD j dax).a = false) → rightL l = true → l.an = true → l.cl = X.cl → ((f.la.getD i dax).a.ch = true ∧ l.r.k = 0 ∧ R = ({ X with np := mp, nl := ml, asks := (f.la.set i (rsX (f.la.getD i dax))).map Ax.a }, zS)) ∨ (¬ ((f.la.getD i dax).a.ch = true ∧ l.r.k = 0) ∧
   ∀ (f1 : Fo) (N1 : Nat → Prop) (W1 : World), SC f1 N1 { X with np := mp, nl := ml, asks := (f.la.eraseIdx i).map Ax.a } W1 → Nok N1 f1 X.act W1 → AkIs (f1.Ex N1 X.act) f1 { X with np := mp, nl := ml, asks := (f.la.eraseIdx i).map Ax.a } W1 (f.la.getD i dax) → Lf f f1 → f1.la = f.la.eraseIdx i → f1.lo = f.lo → RwF (f1.Ex N1 X.act) 2 vp l.r.ps.length (rowC prc l.r.ps) W1 → Then (f.la.getD i dax).fv (rpc l.r vp).toArray W1 (GotP f1 N1 { X with np := mp, nl := ml, asks := (f.la.eraseIdx i).map Ax.a } W1 R.1 R.2))) :
  Calls Tryz.prog 17 #[pz f.sb, .agg (lfc l vw vs vp).toArray] w (GotP f N X w R.1 R.2) := by
 have X0 : Hid (Cx (f.In X.act) N w f X [(w.heap.size, (lfc l vw vs vp).toArray, 55)] [(w.heap.size + 1, RZ, 41)] ((w.alloc (.cells (lfc l vw vs vp).toArray 55)).alloc (.cells RZ 41))) := by
  have k := ((Cx.start (Lo := []) h hn nb).new (lfc l vw vs vp).toArray 55).newm RZ 41
  simp only [size_al] at k
  exact k
 obtain ⟨W1, hW1⟩ := xj ((w.alloc (.cells (lfc l vw vs vp).toArray 55)).alloc (.cells RZ 41))
 rw [hW1] at X0
 have HL : Hid (LF (f.Ex N X.act) l vw vs vp w) := hl
 have HH0 : Hid (_ → _) := h0
 have HH1 : Hid (∀ i, _) := h1
 have HBD : Hid (Bd f X) := bd
 have HMP : Hid ((maxT (X.np, X.nl) (l.r.np, l.r.nl)) = (mp, ml)) := hmp
 have C25 : Hid (∀ W, Cx (f.In X.act) N w f X [(w.heap.size, (lfc l vw vs vp).toArray, 55)] [(w.heap.size + 1, RZ, 41)] W → Calls Tryz.prog 25 #[.agg (lfc l vw vs vp).toArray] W fun e w' => e = .returned (.bool (rightL l)) ∧ Cx (f.In X.act) N w f X [(w.heap.size, (lfc l vw vs vp).toArray, 55)] [(w.heap.size + 1, RZ, 41)] w') := fun W c => ((HL.out.stay c.stay0).right).mono fun e w' ⟨k1, k2⟩ => ⟨k1, c.on k2⟩
 have SN : Hid (∀ W, Cx (f.In X.act) N w f X [(w.heap.size, (lfc l vw vs vp).toArray, 55)] [(w.heap.size + 1, RZ, 41)] W → W.rangeAt w.heap.size 0 (lfc l vw vs vp) ∧ W.cell? ⟨w.heap.size, 0, none⟩ = some (uu l.cl) ∧ W.cell? ⟨w.heap.size, 3, none⟩ = some (.bool l.an) ∧ W.cell? ⟨f.sb, 0, none⟩ = some (uu X.cl)) := fun W c => ⟨range_box (n := 31) (c.bx (cs := (lfc l vw vs vp).toArray) (ty := 55) (by simp)), c.bc, c.bc, block_cell c.sc.blk rfl⟩
 have HX : Hid (Cx (f.In X.act) N w f X [(w.heap.size, (lfc l vw vs vp).toArray, 55)] [(w.heap.size + 1, RZ, 41)] W1.drew) := X0.out.drew
 obtain ⟨bb, hbb⟩ := xj (!(rightL l && l.an && (l.cl == X.cl)))
 have HB : Hid ((!(rightL l && l.an && (l.cl == X.cl))) = bb) := hbb
 clear h hn bd hl h0 h1 X0 hmp
 clear hbb
 go_enter Tryz.func17, Tryz.ntmps17
 go_upto_region 3 with fail
 clear hW1
 go_cut [26] (fun s26 wc => s26 = .bool bb ∧ Hid (Cx (f.In X.act) N w f X [(w.heap.size, (lfc l vw vs vp).toArray, 55)] [(w.heap.size + 1, RZ, 41)] wc))
 case first =>
  clear HH0 HH1 HL HMP HBD
  obtain ⟨r, hr⟩ := xj (rightL l)
  obtain ⟨an, han⟩ := xj l.an
  rw [hr] at C25 HB
  rw [han] at SN HB
  clear hr han
  cases r
  ·obtain rfl : bb = true := by rw [← HB.out]; rfl
   refine wp_region_held_drew (S := (fun W => W.rangeAt w.heap.size 0 (lfc l vw vs vp) ∧ W.cell? ⟨w.heap.size, 0, none⟩ = some (uu l.cl) ∧ W.cell? ⟨w.heap.size, 3, none⟩ = some (.bool an) ∧ W.cell? ⟨f.sb, 0, none⟩ = some (uu X.cl))) (by kernel_rfl) (SN.out _ HX.out) (fun hHeld => ?_)
   refine tl 0 55 w.heap.size 0 (lfc l vw vs vp) (fun W hW => hW.1) Tryz.underlying55 ?_
   refine rd 1 (fun K hK => ?_)
   go_simp
   refine (C25.out _ HX.out).mono ?_
   rintro e w3 ⟨rfl, h3⟩
   have HY : Hid _ := h3
   clear h3 HX
   have HX := HY
   clear HY
   go_wp2_with fail
   refine kj hK (SN.out _ HX.out) (fun hHeld => ?_)
   clear hK K
   refine tq 2 ?_
   refine tq 3 ?_
   refine tn 4 ?_
   refine tn 5 ?_
   refine tn 6 ?_
   refine tq 7 ?_
   refine tq 8 ?_
   refine tn 9 ?_
   refine tn 10 ?_
   refine tn 11 ?_
   refine tn 12 ?_
   refine tn 13 ?_
   refine tn 14 ?_
   refine tn 15 ?_
   refine tq 16 ?_
   refine wpAnyH_done (by kernel_rfl) ?_ _
   clear hHeld SN C25
   go_wp2_with fail
   go_meet
   case rel => exact ⟨rfl, HX⟩
  ·cases an
   ·obtain rfl : bb = true := by rw [← HB.out]; rfl
    refine wp_region_held_drew (S := (fun W => W.rangeAt w.heap.size 0 (lfc l vw vs vp) ∧ W.cell? ⟨w.heap.size, 0, none⟩ = some (uu l.cl) ∧ W.cell? ⟨w.heap.size, 3, none⟩ = some (.bool false) ∧ W.cell? ⟨f.sb, 0, none⟩ = some (uu X.cl))) (by kernel_rfl) (SN.out _ HX.out) (fun hHeld => ?_)
    refine tl 0 55 w.heap.size 0 (lfc l vw vs vp) (fun W hW => hW.1) Tryz.underlying55 ?_
    refine rd 1 (fun K hK => ?_)
    go_simp
    refine (C25.out _ HX.out).mono ?_
    rintro e w3 ⟨rfl, h3⟩
    have HY : Hid _ := h3
    clear h3 HX
    have HX := HY
    clear HY
    go_wp2_with fail
    refine kj hK (SN.out _ HX.out) (fun hHeld => ?_)
    clear hK K
    refine tq 2 ?_
    refine tq 3 ?_
    refine tq 4 ?_
    refine tj 5 ?v9 ?hy9 ?_
    case hy9 => (intro w' hS'; obtain ⟨q0, q1, q2, q3⟩ := hS'; clear q0; go_simp; (try with_reducible rfl))
    simp only [Act.put, sx]
    refine tq 6 ?_
    refine tq 7 ?_
    refine tq 8 ?_
    refine tn 9 ?_
    refine tn 10 ?_
    refine tn 11 ?_
    refine tn 12 ?_
    refine tn 13 ?_
    refine tn 14 ?_
    refine tn 15 ?_
    refine tq 16 ?_
    refine wpAnyH_done (by kernel_rfl) ?_ _
    clear hHeld SN C25
    go_wp2_with fail
    go_meet
    case rel => exact ⟨rfl, HX⟩
   ·by_cases hcl : l.cl = X.cl
    ·obtain rfl : bb = false := by rw [← HB.out, hcl]; simp
     have hce : ((l.cl : Int) != (X.cl : Int)) = false := by simp [hcl]
     refine wp_region_held_drew (S := (fun W => W.rangeAt w.heap.size 0 (lfc l vw vs vp) ∧ W.cell? ⟨w.heap.size, 0, none⟩ = some (uu l.cl) ∧ W.cell? ⟨w.heap.size, 3, none⟩ = some (.bool true) ∧ W.cell? ⟨f.sb, 0, none⟩ = some (uu X.cl))) (by kernel_rfl) (SN.out _ HX.out) (fun hHeld => ?_)
     refine tl 0 55 w.heap.size 0 (lfc l vw vs vp) (fun W hW => hW.1) Tryz.underlying55 ?_
     refine rd 1 (fun K hK => ?_)
     go_simp
     refine (C25.out _ HX.out).mono ?_
     rintro e w3 ⟨rfl, h3⟩
     have HY : Hid _ := h3
     clear h3 HX
     have HX := HY
     clear HY
     go_wp2_with fail
     refine kj hK (SN.out _ HX.out) (fun hHeld => ?_)
     clear hK K
     refine tq 2 ?_
     refine tq 3 ?_
     refine tq 4 ?_
     refine tj 5 ?v17 ?hy17 ?_
     case hy17 => (intro w' hS'; obtain ⟨q0, q1, q2, q3⟩ := hS'; clear q0; go_simp; (try with_reducible rfl))
     simp only [Act.put, sx]
     refine tq 6 ?_
     refine tq 7 ?_
     refine tq 8 ?_
     refine tq 9 ?_
     refine tj 10 ?v22 ?hy22 ?_
     case hy22 => (intro w' hS'; obtain ⟨q0, q1, q2, q3⟩ := hS'; clear q0; go_simp; (try with_reducible rfl))
     simp only [Act.put, sx]
     refine tq 11 ?_
     refine tq 12 ?_
     refine tq 13 ?_
     refine tj 14 ?v26 ?hy26 ?_
     case hy26 => (intro w' hS'; obtain ⟨q0, q1, q2, q3⟩ := hS'; clear q0; go_simp; (try with_reducible rfl))
     simp only [Act.put, sx]
     refine tq 15 ?_
     refine tq 16 ?_
     refine wpAnyH_done (by kernel_rfl) ?_ _
     clear hHeld SN C25
     go_wp2_with fail
     go_meet
     case rel => exact ⟨rfl, HX⟩
    ·obtain rfl : bb = true := by rw [← HB.out]; simp [hcl]
     have hce : ((l.cl : Int) != (X.cl : Int)) = true := by simp; omega
     refine wp_region_held_drew (S := (fun W => W.rangeAt w.heap.size 0 (lfc l vw vs vp) ∧ W.cell? ⟨w.heap.size, 0, none⟩ = some (uu l.cl) ∧ W.cell? ⟨w.heap.size, 3, none⟩ = some (.bool true) ∧ W.cell? ⟨f.sb, 0, none⟩ = some (uu X.cl))) (by kernel_rfl) (SN.out _ HX.out) (fun hHeld => ?_)
     refine tl 0 55 w.heap.size 0 (lfc l vw vs vp) (fun W hW => hW.1) Tryz.underlying55 ?_
     refine rd 1 (fun K hK => ?_)
     go_simp
     refine (C25.out _ HX.out).mono ?_
     rintro e w3 ⟨rfl, h3⟩
     have HY : Hid _ := h3
     clear h3 HX
     have HX := HY
     clear HY
     go_wp2_with fail
     refine kj hK (SN.out _ HX.out) (fun hHeld => ?_)
     clear hK K
     refine tq 2 ?_
     refine tq 3 ?_
     refine tq 4 ?_
     refine tj 5 ?v32 ?hy32 ?_
     case hy32 => (intro w' hS'; obtain ⟨q0, q1, q2, q3⟩ := hS'; clear q0; go_simp; (try with_reducible rfl))
     simp only [Act.put, sx]
     refine tq 6 ?_
     refine tq 7 ?_
     refine tq 8 ?_
     refine tq 9 ?_
     refine tj 10 ?v37 ?hy37 ?_
     case hy37 => (intro w' hS'; obtain ⟨q0, q1, q2, q3⟩ := hS'; clear q0; go_simp; (try with_reducible rfl))
     simp only [Act.put, sx]
     refine tq 11 ?_
     refine tq 12 ?_
     refine tq 13 ?_
     refine tj 14 ?v41 ?hy41 ?_
     case hy41 => (intro w' hS'; obtain ⟨q0, q1, q2, q3⟩ := hS'; clear q0; go_simp; (try with_reducible rfl))
     simp only [Act.put, sx]
     refine tq 15 ?_
     refine tq 16 ?_
     refine wpAnyH_done (by kernel_rfl) ?_ _
     clear hHeld SN C25
     go_wp2_with fail
     go_meet
     case rel => exact ⟨rfl, HX⟩
 case rest =>
  obtain ⟨rfl, XC⟩ := hcut
  clear HX C25 SN
  cases bb
  ·obtain ⟨⟨hright, han⟩, hcl⟩ : (rightL l = true ∧ l.an = true) ∧ l.cl = X.cl := by
    have k := HB.out
    simp only [Bool.not_eq_false', Bool.and_eq_true, beq_iff_eq] at k
    exact k
   have HR3 : Hid (rightL l = true ∧ l.an = true ∧ l.cl = X.cl) := ⟨hright, han, hcl⟩
   clear HB hright han hcl
   have b1 : wc.cell? ⟨f.sb, 8, none⟩ = some f.va := block_cell XC.out.sc.blk rfl
   have C47 : Hid (1 = 1 → Calls Tryz.prog 47 #[f.va, .func (.func 48) #[] #[pz w.heap.size]] wc fun e w' => ∃ i : Int, e = .returned (iw i) ∧ IdxOf (fun x : Ax => isA l x.a) f.la dax i ∧ Cx (f.In X.act) N w f X [(w.heap.size, (lfc l vw vs vp).toArray, 55)] [(w.heap.size + 1, RZ, 41)] w') := fun _ => by
    have hbx := XC.out.bx (b := w.heap.size) (cs := (lfc l vw vs vp).toArray) (ty := 55) (by simp)
    have k := idx47 (axc X.cl) (axc_len X.cl) dax 48 #[pz w.heap.size] (fun x : Ax => isA l x.a) f.la f.va wc (rw_own XC.out.sc.ra) ent48 (fun x W hb => by
     have hbx2 : W.heap[w.heap.size]? = some (.cells (lfc l vw vs vp).toArray 55 (0, 0)) := by rw [hb.block _ (lt_blk hbx)]; exact hbx
     exact hear48 X.cl x w.heap.size l.sh l.sq W (block_cell hbx2 rfl) (block_cell hbx2 rfl))
    exact k.mono fun e w' ⟨i, k1, k2, k3⟩ => ⟨i, k1, k2, XC.out.on k3⟩
   have hva : ∃ ao n cap, f.va = .slice ao n cap := by
    obtain ⟨ao, cap, e, -⟩ := rw_own XC.out.sc.ra
    exact ⟨_, _, _, e⟩
   clear XC
   go_wp2_with fail
   refine (C47.out (by trivial)).mono ?_
   rintro e w2 ⟨i, rfl, hi, x2⟩
   have X2 : Hid _ := x2
   clear x2 C47 b1
   rcases hi with ⟨rfl, hno⟩ | ⟨m, rfl, hm, hp, hf⟩
   ·have HR : Hid (R = (X, zS)) := HH0.out (.inr (.inr (.inr hno)))
    clear HH0 HH1 HL HR3 hno
    have hr := rsc_all zS sy rfl
    go_wp2_with (refine wpList_store_row rfl 41 _ _ rfl (w.heap.size + 1) (rsc zS sy).toArray rfl rfl 41 _ (X2.out.bm mc) (by kernel_rfl) rfl hr ?_)
    refine bj X2.out ?_
    rw [HR.out]
    exact ⟨_, _, rfl, rfl, RwF.nil _ _ _, (X2.out.poke (setRow_kept _ _ _) (setRow_at (X2.out.bm mc)) (fun pp hp => by cases hp)).to, rfl, HBD.out⟩
   ·have HM : Hid _ := HH1.out m (by omega) hp hf HR3.out.1 HR3.out.2.1 HR3.out.2.2
    have hml : m < f.la.length := by omega
    clear HH0 HH1 hp hf HR3
    have hm0 : ¬ (m : Int) < 0 := by omega
    have hma : (m : Int) < f.la.length := by omega
    have hLl : f.la.length < 9223372036854775808 := by
     obtain ⟨ao, cap, e, -, k1, k2, -⟩ := rw_own X2.out.sc.ra
     omega
    obtain ⟨g, cap, hva⟩ : ∃ g cap, f.va = .slice (some ⟨g, 0, none⟩) f.la.length cap := by
     rcases X2.out.sc.ra.2 with ⟨e, k0⟩ | ⟨g, cap, cur, e, -⟩
     ·omega
     ·exact ⟨g, cap, e⟩
    have SN : Hid (∀ X' W, Cx (f.In X.act) N w f X' [(w.heap.size, (lfc l vw vs vp).toArray, 55)] [(w.heap.size + 1, RZ, 41)] W → W.cell? ⟨w.heap.size, 29, none⟩ = some (uw l.r.np) ∧ W.cell? ⟨w.heap.size, 30, none⟩ = some (uu l.r.nl)) := fun X' W c => ⟨c.bc, c.bc⟩
    have C49 : Hid (∀ bk W, Cx (f.In X.act) N w f X [(w.heap.size, (lfc l vw vs vp).toArray, 55)] [(w.heap.size + 1, RZ, 41)] W → W.heap[bk]? = some (.cells #[uw X.np, uu X.nl, uw l.r.np, uu l.r.nl] 34 (0, 0)) → Calls Tryz.prog 49 #[.slice (some ⟨bk, 0, none⟩) 2 2] W fun e w' => e = .returned (.agg #[uw mp, uu ml]) ∧ Cx (f.In X.act) N w f X [(w.heap.size, (lfc l vw vs vp).toArray, 55)] [(w.heap.size + 1, RZ, 41)] w') := fun bk W c hk => by
     have k := max49 X.np X.nl l.r.np l.r.nl bk 34 W hk
     rw [HMP.out] at k
     exact k.mono fun e w' ⟨h1, h2⟩ => ⟨h1, c.on h2⟩
    have HX : Hid (Cx (f.In X.act) N w f X [(w.heap.size, (lfc l vw vs vp).toArray, 55)] [(w.heap.size + 1, RZ, 41)] w2.drew) := X2.out.drew
    clear X2
    go_upto_region 8 with fail
    refine wp_region_held_drew (S := (fun W => W.cell? ⟨w.heap.size, 29, none⟩ = some (uw l.r.np) ∧ W.cell? ⟨w.heap.size, 30, none⟩ = some (uu l.r.nl))) (by kernel_rfl) (SN.out _ _ HX.out) (fun hHeld => ?_)
    refine tq 0 ?_
    refine tq 1 ?_
    refine tq 2 ?_
    refine tq 3 ?_
    refine tq 5 ?_
    refine tq 6 ?_
    refine tw 7 ?_
    obtain ⟨w3, hw3⟩ := xj w2.drew
    rw [hw3] at HX ⊢
    clear hw3
    refine rd 4 (fun K hK => ?_)
    have a2 : w3.cell? ⟨f.sb, 2, none⟩ = some (uw X.np) := block_cell HX.out.sc.blk rfl
    have a3 : w3.cell? ⟨f.sb, 3, none⟩ = some (uu X.nl) := block_cell HX.out.sc.blk rfl
    go_simp
    clear a2 a3
    refine kj hK (SN.out _ _ HX.out) (fun hHeld => ?_)
    clear hK K
    refine rd 8 (fun K hK => ?_)
    go_simp
    have HY : Hid _ := HX.out.on (al (.cells #[uw X.np, uu X.nl, uw l.r.np, uu l.r.nl] 34))
    have HK : Hid _ := heap_alloc_new w3 (.cells #[uw X.np, uu X.nl, uw l.r.np, uu l.r.nl] 34)
    refine kj hK (SN.out _ _ HY.out) (fun hHeld => ?_)
    clear hK K
    refine rd 9 (fun K hK => ?_)
    go_simp
    refine (C49.out _ _ HY.out HK.out).mono ?_
    rintro e w4 ⟨rfl, h4⟩
    clear HX HY HK
    have HX : Hid _ := h4
    clear h4
    go_wp2_with fail
    refine kj hK (SN.out _ _ HX.out) (fun hHeld => ?_)
    clear hK K
    refine tq 10 ?_
    refine tq 11 ?_
    refine rd 12 (fun K hK => ?_)
    have a2 : w4.cell? ⟨f.sb, 2, none⟩ = some (uw X.np) := block_cell HX.out.sc.blk rfl
    have a3 : w4.cell? ⟨f.sb, 3, none⟩ = some (uu X.nl) := block_cell HX.out.sc.blk rfl
    have z2 : w4.frozen? ⟨f.sb, 2, none⟩ = false := block_frozen HX.out.sc.blk 2
    have z3 : w4.frozen? ⟨f.sb, 3, none⟩ = false := block_frozen HX.out.sc.blk 3
    have HY : Hid (Cx (f.In X.act) N w f { X with np := mp, nl := ml } [(w.heap.size, (lfc l vw vs vp).toArray, 55)] [(w.heap.size + 1, RZ, 41)] ((w4.setCell ⟨f.sb, 2, none⟩ (uw mp)).setCell ⟨f.sb, 3, none⟩ (uu ml))) := HX.out.next (HX.out.sc.now mp ml ((set_kept' w4 f.sb 2 (uw mp)).trans (set_kept' _ f.sb 3 (uu ml)) (fun _ e => .inl e)) (by
     have := block_set (j := 3) (uu ml) (block_set (j := 2) (uw mp) HX.out.sc.blk)
     exact this))
    go_simp
    obtain ⟨w5, hw5⟩ := xj ((w4.setCell ⟨f.sb, 2, none⟩ (uw mp)).setCell ⟨f.sb, 3, none⟩ (uu ml))
    rw [hw5] at HY
    rw [hw5]
    refine kj hK (SN.out _ _ HY.out) (fun hHeld => ?_)
    clear hK K
    refine wpAnyH_done (by kernel_rfl) ?_ _
    clear hHeld SN C49 HX a2 a3 z2 z3 hw5
    obtain ⟨x, hx⟩ := xj (f.la.getD m dax)
    have HXX : Hid (f.la.getD m dax = x) := hx
    have KX : Hid _ := HY.out.sc.ak _ (getD_mem (d := dax) hml)
    rw [hx] at HM KX
    have p8 : w5.cell? ⟨f.sb, 8, none⟩ = some (.slice (some ⟨g, 0, none⟩) f.la.length cap) := by rw [← hva]; exact block_cell HY.out.sc.blk rfl
    have ER : Hid (w5.rangeAt g (m * 33) (axc X.cl x)) := by
     have k := HY.out.sc.ra
     rw [hva] at k
     have k2 := own_range (axc_len X.cl) dax k hml
     rw [hx] at k2
     exact k2
    have hall : Hid ((axc X.cl x).toArray.all (·.oneCell') = true) := all_oneCell_toArray (axc_one X.cl x KX.out.one.2.1 KX.out.one.2.2 KX.out.one.1)
    have X6 : Hid (Cx (f.In X.act) N w f { X with np := mp, nl := ml } ((w5.heap.size, (axc X.cl x).toArray, 99) :: [(w.heap.size, (lfc l vw vs vp).toArray, 55)]) [(w.heap.size + 1, RZ, 41)] (w5.alloc (.cells (axc X.cl x).toArray 99))) := HY.out.new _ _
    obtain ⟨W6, hW6⟩ := xj (w5.alloc (.cells (axc X.cl x).toArray 99))
    rw [hW6] at X6
    have c31 : W6.cell? ⟨w5.heap.size, 31, none⟩ = some (.bool x.a.ch) := X6.out.bc
    have c17 : W6.cell? ⟨w.heap.size, 17, none⟩ = some (iw l.r.k) := X6.out.bc
    clear HY KX hx
    go_upto_region 10 with (first
     | (refine wpList_load_mid rfl 99 _ rfl g (m * 33) rfl (axc X.cl x) _ ER.out Tryz.underlying99 rfl (by kernel_rfl) ?_)
     | (refine wpList_store_row rfl 99 _ _ rfl w5.heap.size (axc X.cl x).toArray rfl rfl 99 _ (heap_alloc_new w5 _) (by kernel_rfl) rfl hall.out ?_; rewrite [World.setRow_alloc_new, hW6]))
    simp only [Act.put]
    clear hW6 p8 ER hall
    obtain ⟨bA, hbA⟩ := xj w5.heap.size
    rw [hbA] at X6 c31 ⊢
    clear hbA
    obtain ⟨ch, hch⟩ := xj x.a.ch
    rw [hch] at c31 HM
    clear hch
    cases ch
    ·have HM2 : Hid _ := HM.out.resolve_left (fun e => by cases e.1) |>.2
     clear HM
     have hmb : (m : Int) + 1 < 9223372036854775808 := by omega
     have e8 : W6.cell? ⟨f.sb, 8, none⟩ = some (.slice (some ⟨g, 0, none⟩) f.la.length cap) := by rw [← hva]; exact block_cell X6.out.sc.blk rfl
     have C50 : Hid (1 = 1 → Calls Tryz.prog 50 #[.slice (some ⟨g, 0, none⟩) f.la.length cap, iw (m : Int), iw ((m : Int) + 1)] W6 fun e w' => ∃ v', e = .returned v' ∧ w'.ownsRow 0 99 33 v' (f.la.length - 1) (rowC (axc X.cl) (f.la.eraseIdx m)) ∧ v'.ownBlock = f.va.ownBlock ∧ Kept (fun k => f.va.ownBlock = some k) W6 w') := fun _ => by
      have hok := X6.out.sc.okA
      have R1 : W6.ownsRow 0 99 33 f.va f.la.length (rowC (axd X.cl) f.la) := by rw [row_axd hok]; exact X6.out.sc.ra
      have k := delete50 (axd X.cl) (axd_len X.cl) (axd_one X.cl) dax 0 f.la f.va W6 R1 m hml
      rw [row_axd (fun y hy => hok y ((List.eraseIdx_sublist f.la m).subset hy))] at k
      rw [hva] at k ⊢
      exact k
     go_wp2_with fail
     refine (C50.out (by trivial)).mono ?_
     rintro e w7 ⟨v', rfl, hr7, ho7, hk7⟩
     have hvs : ∃ ao n c, v' = .slice ao n c := by
      obtain ⟨ao, c, e, -⟩ := rw_own hr7
      exact ⟨_, _, _, e⟩
     have hb7 : w7.heap[f.sb]? = some (.cells (sbA f { X with np := mp, nl := ml }) 77 (0, 0)) := by rw [hk7.block _ (lt_blk X6.out.sc.blk) (fun e => own_ne X6.out.sc.ra X6.out.sc.blk (by decide) e)]; exact X6.out.sc.blk
     have T8 : Hid (To f (Nm N [(w.heap.size + 1, RZ, 41)]) X.act W6 { f with va := v', la := f.la.eraseIdx m } { X with np := mp, nl := ml, asks := (f.la.eraseIdx m).map Ax.a } (w7.setCell ⟨f.sb, 8, none⟩ v')) := by
      have ks := set_kept' w7 f.sb 8 v'
      have hkk : Kept f.Pg W6 (w7.setCell ⟨f.sb, 8, none⟩ v') := (hk7.mono (fun k e => .inr (.inl e))).trans ks (fun k e => .inl (.inl e))
      refine SC.erase (X := { X with np := mp, nl := ml }) X6.out.sc hml hkk ?_ (own_kept hr7 ks (fun k hv e => by subst e; exact own_ne hr7 hb7 (by decide) hv)) ?_ ho7
      ·have := block_set (j := 8) v' hb7
       exact this
      ·refine own_kept X6.out.sc.ro ((hk7.mono (G := fun k => k = f.sb ∨ f.va.ownBlock = some k) (fun k e => .inr e)).trans ks (fun k e => .inl (.inl e))) (fun k hv e => ?_)
       rcases e with e | e
       ·subst e
        exact own_ne X6.out.sc.ro X6.out.sc.blk (by decide) hv
       ·obtain ⟨c9, hc9⟩ := own_blk X6.out.sc.ra e
        exact own_ne X6.out.sc.ro hc9 (by decide) hv
     have a8 : w7.cell? ⟨f.sb, 8, none⟩ = some f.va := block_cell hb7 rfl
     have z8 : w7.frozen? ⟨f.sb, 8, none⟩ = false := block_frozen hb7 8
     rw [hva] at a8
     obtain ⟨W8, hW8⟩ := xj (w7.setCell ⟨f.sb, 8, none⟩ v')
     rw [hW8] at T8
     obtain ⟨vo8, vn8, vc8, hv8⟩ := hvs
     have KX : Hid (AkIs (f.Ex (Nm N [(w.heap.size + 1, RZ, 41)]) X.act) f { X with np := mp, nl := ml } W6 x) := by
      have k := X6.out.sc.ak _ (getD_mem (d := dax) hml)
      rw [HXX.out] at k
      exact k
     have X8 : Hid (Cx (f.In X.act) N w { f with va := v', la := f.la.eraseIdx m } { X with np := mp, nl := ml, asks := (f.la.eraseIdx m).map Ax.a } ((bA, (axc X.cl x).toArray, 99) :: [(w.heap.size, (lfc l vw vs vp).toArray, 55)]) [(w.heap.size + 1, RZ, 41)] W8) := X6.out.next T8.out
     have KX8 : Hid _ := KX.out.stay (f' := { f with va := v', la := f.la.eraseIdx m }) (X' := { X with np := mp, nl := ml, asks := (f.la.eraseIdx m).map Ax.a }) (T8.out.stay) ⟨rfl, rfl, rfl, rfl, fun _ h => ⟨h, rfl⟩⟩ rfl (fun _ _ => rfl)
     obtain ⟨fnum, cp, hfv, ent, hcf⟩ := HM2.out { f with va := v', la := f.la.eraseIdx m } (Nm N [(w.heap.size + 1, RZ, 41)]) W8 X8.out.sc X8.out.nok KX8.out ⟨rfl, rfl, rfl, rfl, rfl, rfl, rfl, rfl, rfl, rfl, rfl, rfl, rfl⟩ rfl rfl (HL.out.stay X8.out.stay0).r
     have HCF : Hid _ := hcf
     have c32 : W8.cell? ⟨bA, 32, none⟩ = some (.func (.func fnum) #[] cp) := by rw [← hfv]; exact X8.out.bc
     have RG : Hid (W8.rangeAt w.heap.size 17 (rpc l.r vp)) := range_box (o := 17) (n := 14) (X8.out.bx (b := w.heap.size) (cs := (lfc l vw vs vp).toArray) (ty := 55) (by simp))
     clear hcf KX KX8 T8 C50 e8 hr7 hk7 hb7 ho7 X6 c31 c17 HM2 hfv
     rw [hv8] at hW8 X8 HCF ⊢
     go_wp2_with (refine wpList_load_mid rfl 49 _ rfl w.heap.size 17 rfl (rpc l.r vp) _ RG.out Tryz.underlying49 rfl (by kernel_rfl) ?_)
     refine Calls.mono HCF.out ?_
     intro e w9 g9
     obtain ⟨v2, f', rfl, ho2, hrw, x9, hsb, hbd⟩ := GotP.next X8.out g9
     have X9 : Hid _ := x9
     have HF : Hid _ := And.intro hrw (And.intro hsb hbd)
     clear x9 hsb hbd hrw g9 HCF X8 c32 RG a8 z8 hW8
     go_wp2_with (refine wpList_store_row rfl 41 _ _ rfl (w.heap.size + 1) _ rfl rfl 41 _ (X9.out.bm mc) (by kernel_rfl) rfl (rsc_all _ _ ho2) ?_)
     refine bj X9.out ?_
     exact ⟨v2, _, rfl, ho2, HF.out.1.poke (by decide) (setRow_kept _ _ _) ⟨_, List.mem_cons_self .., rfl⟩, (X9.out.poke (setRow_kept _ _ _) (setRow_at (X9.out.bm mc)) nb).to, HF.out.2.1, HF.out.2.2⟩
    ·by_cases hk0 : l.r.k = 0
     ·have hkb : (l.r.k == 0) = true := by rw [hk0]; rfl
      have HR : Hid (R = ({ X with np := mp, nl := ml, asks := (f.la.set m (rsX (f.la.getD m dax))).map Ax.a }, zS)) := by
       rcases HM.out with e | e
       ·have k := e.2.2
        rw [← HXX.out] at k
        exact k
       ·exact absurd ⟨rfl, hk0⟩ e.1
      have XZ : Hid (Cx (f.In X.act) N w { f with la := f.la.set m (rsX (f.la.getD m dax)) } { X with np := mp, nl := ml, asks := (f.la.set m (rsX (f.la.getD m dax))).map Ax.a } ((bA, (axc X.cl x).toArray, 99) :: [(w.heap.size, (lfc l vw vs vp).toArray, 55)]) [(w.heap.size + 1, RZ, 41)] W6) := ⟨X6.out.sc.rs hml, X6.out.sub, X6.out.kp, X6.out.has, X6.out.hasm, X6.out.nl⟩
      have HBZ : Hid (Bd { f with la := f.la.set m (rsX (f.la.getD m dax)) } { X with np := mp, nl := ml, asks := (f.la.set m (rsX (f.la.getD m dax))).map Ax.a }) := ⟨HBD.out.sc, HBD.out.co, fun n hn => by
       have k1 := HBD.out.gs n hn
       have k2 : X.asks = f.la.map Ax.a := X6.out.sc.ea
       have k3 := cnt_rs f.la n m hml
       rw [k2, ← k3] at k1
       exact k1⟩
      clear HM X6
      have hr := rsc_all zS sy rfl
      go_wp2_with (refine wpList_store_row rfl 41 _ _ rfl (w.heap.size + 1) (rsc zS sy).toArray rfl rfl 41 _ (XZ.out.bm mc) (by kernel_rfl) rfl hr ?_)
      refine bj XZ.out ?_
      rw [HR.out]
      exact ⟨_, _, rfl, rfl, RwF.nil _ _ _, (XZ.out.poke (setRow_kept _ _ _) (setRow_at (XZ.out.bm mc)) (fun pp hp => by cases hp)).to, rfl, HBZ.out⟩
     ·have hkb : (l.r.k == 0) = false := by simpa using hk0
      have HM2 : Hid _ := HM.out.resolve_left (fun e => hk0 e.2.1) |>.2
      clear HM
      have hmb : (m : Int) + 1 < 9223372036854775808 := by omega
      have e8 : W6.cell? ⟨f.sb, 8, none⟩ = some (.slice (some ⟨g, 0, none⟩) f.la.length cap) := by rw [← hva]; exact block_cell X6.out.sc.blk rfl
      have C50 : Hid (1 = 1 → Calls Tryz.prog 50 #[.slice (some ⟨g, 0, none⟩) f.la.length cap, iw (m : Int), iw ((m : Int) + 1)] W6 fun e w' => ∃ v', e = .returned v' ∧ w'.ownsRow 0 99 33 v' (f.la.length - 1) (rowC (axc X.cl) (f.la.eraseIdx m)) ∧ v'.ownBlock = f.va.ownBlock ∧ Kept (fun k => f.va.ownBlock = some k) W6 w') := fun _ => by
       have hok := X6.out.sc.okA
       have R1 : W6.ownsRow 0 99 33 f.va f.la.length (rowC (axd X.cl) f.la) := by rw [row_axd hok]; exact X6.out.sc.ra
       have k := delete50 (axd X.cl) (axd_len X.cl) (axd_one X.cl) dax 0 f.la f.va W6 R1 m hml
       rw [row_axd (fun y hy => hok y ((List.eraseIdx_sublist f.la m).subset hy))] at k
       rw [hva] at k ⊢
       exact k
      go_wp2_with fail
      refine (C50.out (by trivial)).mono ?_
      rintro e w7 ⟨v', rfl, hr7, ho7, hk7⟩
      have hvs : ∃ ao n c, v' = .slice ao n c := by
       obtain ⟨ao, c, e, -⟩ := rw_own hr7
       exact ⟨_, _, _, e⟩
      have hb7 : w7.heap[f.sb]? = some (.cells (sbA f { X with np := mp, nl := ml }) 77 (0, 0)) := by rw [hk7.block _ (lt_blk X6.out.sc.blk) (fun e => own_ne X6.out.sc.ra X6.out.sc.blk (by decide) e)]; exact X6.out.sc.blk
      have T8 : Hid (To f (Nm N [(w.heap.size + 1, RZ, 41)]) X.act W6 { f with va := v', la := f.la.eraseIdx m } { X with np := mp, nl := ml, asks := (f.la.eraseIdx m).map Ax.a } (w7.setCell ⟨f.sb, 8, none⟩ v')) := by
       have ks := set_kept' w7 f.sb 8 v'
       have hkk : Kept f.Pg W6 (w7.setCell ⟨f.sb, 8, none⟩ v') := (hk7.mono (fun k e => .inr (.inl e))).trans ks (fun k e => .inl (.inl e))
       refine SC.erase (X := { X with np := mp, nl := ml }) X6.out.sc hml hkk ?_ (own_kept hr7 ks (fun k hv e => by subst e; exact own_ne hr7 hb7 (by decide) hv)) ?_ ho7
       ·have := block_set (j := 8) v' hb7
        exact this
       ·refine own_kept X6.out.sc.ro ((hk7.mono (G := fun k => k = f.sb ∨ f.va.ownBlock = some k) (fun k e => .inr e)).trans ks (fun k e => .inl (.inl e))) (fun k hv e => ?_)
        rcases e with e | e
        ·subst e
         exact own_ne X6.out.sc.ro X6.out.sc.blk (by decide) hv
        ·obtain ⟨c9, hc9⟩ := own_blk X6.out.sc.ra e
         exact own_ne X6.out.sc.ro hc9 (by decide) hv
      have a8 : w7.cell? ⟨f.sb, 8, none⟩ = some f.va := block_cell hb7 rfl
      have z8 : w7.frozen? ⟨f.sb, 8, none⟩ = false := block_frozen hb7 8
      rw [hva] at a8
      obtain ⟨W8, hW8⟩ := xj (w7.setCell ⟨f.sb, 8, none⟩ v')
      rw [hW8] at T8
      obtain ⟨vo8, vn8, vc8, hv8⟩ := hvs
      have KX : Hid (AkIs (f.Ex (Nm N [(w.heap.size + 1, RZ, 41)]) X.act) f { X with np := mp, nl := ml } W6 x) := by
       have k := X6.out.sc.ak _ (getD_mem (d := dax) hml)
       rw [HXX.out] at k
       exact k
      have X8 : Hid (Cx (f.In X.act) N w { f with va := v', la := f.la.eraseIdx m } { X with np := mp, nl := ml, asks := (f.la.eraseIdx m).map Ax.a } ((bA, (axc X.cl x).toArray, 99) :: [(w.heap.size, (lfc l vw vs vp).toArray, 55)]) [(w.heap.size + 1, RZ, 41)] W8) := X6.out.next T8.out
      have KX8 : Hid _ := KX.out.stay (f' := { f with va := v', la := f.la.eraseIdx m }) (X' := { X with np := mp, nl := ml, asks := (f.la.eraseIdx m).map Ax.a }) (T8.out.stay) ⟨rfl, rfl, rfl, rfl, fun _ h => ⟨h, rfl⟩⟩ rfl (fun _ _ => rfl)
      obtain ⟨fnum, cp, hfv, ent, hcf⟩ := HM2.out { f with va := v', la := f.la.eraseIdx m } (Nm N [(w.heap.size + 1, RZ, 41)]) W8 X8.out.sc X8.out.nok KX8.out ⟨rfl, rfl, rfl, rfl, rfl, rfl, rfl, rfl, rfl, rfl, rfl, rfl, rfl⟩ rfl rfl (HL.out.stay X8.out.stay0).r
      have HCF : Hid _ := hcf
      have c32 : W8.cell? ⟨bA, 32, none⟩ = some (.func (.func fnum) #[] cp) := by rw [← hfv]; exact X8.out.bc
      have RG : Hid (W8.rangeAt w.heap.size 17 (rpc l.r vp)) := range_box (o := 17) (n := 14) (X8.out.bx (b := w.heap.size) (cs := (lfc l vw vs vp).toArray) (ty := 55) (by simp))
      clear hcf KX KX8 T8 C50 e8 hr7 hk7 hb7 ho7 X6 c31 c17 HM2 hfv
      rw [hv8] at hW8 X8 HCF ⊢
      go_wp2_with (refine wpList_load_mid rfl 49 _ rfl w.heap.size 17 rfl (rpc l.r vp) _ RG.out Tryz.underlying49 rfl (by kernel_rfl) ?_)
      refine Calls.mono HCF.out ?_
      intro e w9 g9
      obtain ⟨v2, f', rfl, ho2, hrw, x9, hsb, hbd⟩ := GotP.next X8.out g9
      have X9 : Hid _ := x9
      have HF : Hid _ := And.intro hrw (And.intro hsb hbd)
      clear x9 hsb hbd hrw g9 HCF X8 c32 RG a8 z8 hW8
      go_wp2_with (refine wpList_store_row rfl 41 _ _ rfl (w.heap.size + 1) _ rfl rfl 41 _ (X9.out.bm mc) (by kernel_rfl) rfl (rsc_all _ _ ho2) ?_)
      refine bj X9.out ?_
      exact ⟨v2, _, rfl, ho2, HF.out.1.poke (by decide) (setRow_kept _ _ _) ⟨_, List.mem_cons_self .., rfl⟩, (X9.out.poke (setRow_kept _ _ _) (setRow_at (X9.out.bm mc)) nb).to, HF.out.2.1, HF.out.2.2⟩
  ·have HR : Hid (R = (X, zS)) := HH0.out (by
    have k := HB.out
    cases hr : rightL l
    ·exact .inl rfl
    ·cases ha : l.an
     ·exact .inr (.inl rfl)
     ·refine .inr (.inr (.inl ?_))
      rw [hr, ha] at k
      simpa using k)
   clear HH0 HH1 HL HB
   have hr := rsc_all zS sy rfl
   go_wp2_with (refine wpList_store_row rfl 41 _ _ rfl (w.heap.size + 1) (rsc zS sy).toArray rfl rfl 41 _ (XC.out.bm mc) (by kernel_rfl) rfl hr ?_)
   refine bj XC.out ?_
   rw [HR.out]
   exact ⟨_, _, rfl, rfl, RwF.nil _ _ _, (XC.out.poke (setRow_kept _ _ _) (setRow_at (XC.out.bm mc)) (fun pp hp => by cases hp)).to, rfl, HBD.out⟩
end Go.Proofs.YtkdkgdollmmcnaaGreat
