import Derived.Test.YtkdkgdollmmcnaaGreatWbr
set_option maxHeartbeats 4000000
set_option maxRecDepth 100000
set_option linter.unusedVariables false
set_option linter.unusedSimpArgs false
namespace Go.Proofs.YtkdkgdollmmcnaaGreat
open Go.RowKit Go.Sort Go.Shelf
variable {base : Nat} {w W W' : World} {S : List Wr}
theorem ins164n (W : World) : Calls Tryz.prog 164 #[sy, iw 0, iw 0, .func (.func 122) #[] #[]] W fun e w' => e = .returned (.tuple #[]) ∧ w' = W := by
 go_enter Tryz.func164, Tryz.ntmps164
 go_wp2_with fail
 go_loopw [8] (fun s wr => s = iw 1 ∧ wr = W) (fun s _ => 0)
 case atStart => exact ⟨rfl, rfl⟩
 case round =>
  obtain ⟨rfl, rfl⟩ := hrel
  go_wp2_with fail
  go_end0
  exact ⟨rfl, rfl⟩
theorem stab151n (W : World) : Calls Tryz.prog 151 #[sy, iw 0, .func (.func 122) #[] #[]] W fun e w' => e = .returned (.tuple #[]) ∧ w' = W := by
 have C1 : Hid (1 = 1 → Calls Tryz.prog 164 #[sy, iw 0, iw 0, .func (.func 122) #[] #[]] W fun e w' => e = .returned (.tuple #[]) ∧ W = w') := fun _ => (ins164n W).mono fun e w' q => ⟨q.1, q.2.symm⟩
 go_enter Tryz.func151, Tryz.ntmps151
 go_wp2_with fail
 go_loopw [7, 8] (fun s t wr => s = iw 0 ∧ t = iw 20 ∧ W = wr) (fun s _ _ => 0)
 case atStart => exact ⟨rfl, rfl, rfl⟩
 case round =>
  obtain ⟨rfl, rfl, rfl⟩ := hrel
  go_wp2_with (go_at_call 164; refine (C1.out (by trivial)).mono ?_; rintro e w2 ⟨rfl, rfl⟩)
  go_loopw [6] (fun s wr => s = iw 20 ∧ W = wr) (fun s _ => 0)
  case atStart => exact ⟨rfl, rfl⟩
  case round =>
   obtain ⟨rfl, rfl⟩ := hrel
   go_wp2_with fail
   go_end0
   exact ⟨rfl, rfl⟩
theorem sort121n (W : World) : Calls Tryz.prog 121 #[sy, .func (.func 122) #[] #[]] W fun e w' => e = .returned (.tuple #[]) ∧ w' = W := by
 have C1 : Hid (1 = 1 → Calls Tryz.prog 151 #[sy, iw 0, .func (.func 122) #[] #[]] W fun e w' => e = .returned (.tuple #[]) ∧ W = w') := fun _ => (stab151n W).mono fun e w' q => ⟨q.1, q.2.symm⟩
 go_enter Tryz.func121, Tryz.ntmps121
 go_wp2_with (go_at_call 151; refine (C1.out (by trivial)).mono ?_; rintro e w2 ⟨rfl, rfl⟩)
 go_end0
 exact ⟨rfl, rfl⟩
theorem cpt123n (W : World) : Calls Tryz.prog 123 #[sy, .func (.func 124) #[] #[]] W fun e w' => e = .returned sy ∧ w' = W := by
 go_enter Tryz.func123, Tryz.ntmps123
 go_wp2_with fail
 go_ret
 exact ⟨rfl, rfl⟩
theorem own_cases {v : Value} {M : List Wr} (h : W.ownsRow base 70 3 v M.length (rowC wrc M)) : (v = sy ∧ M = []) ∨ ∃ g cap, v = .slice (some ⟨g, 0, none⟩) M.length cap := by
 rcases h.2 with ⟨e, h0⟩ | ⟨g, cap, cur, e, -⟩
 ·exact .inl ⟨e, List.eq_nil_of_length_eq_zero h0⟩
 ·exact .inr ⟨g, cap, e⟩
theorem sorted121 {v : Value} {M : List Wr} (hM : M.length ≤ 1000000) (h : W.ownsRow base 70 3 v M.length (rowC wrc M)) :
  Calls Tryz.prog 121 #[v, .func (.func 122) #[] #[]] W fun e w' => e = .returned (.tuple #[]) ∧ ∃ L, w'.ownsRow base 70 3 v L.length (rowC wrc L) ∧ Srt L ∧ Eqk M L ∧ Kept (fun k => v.ownBlock = some k) W w' := by
 rcases own_cases h with ⟨rfl, rfl⟩ | ⟨g, cap, rfl⟩
 ·exact (sort121n W).mono fun e w' q => ⟨q.1, [], by rw [q.2]; exact h, List.Pairwise.nil, Eqk.refl _, by rw [q.2]; exact Kept.of_below (Below.refl _ _)⟩
 ·exact (sort121 (base := base) (w := W) hM ⟨rfl, h, Kept.of_below (Below.refl _ _)⟩).mono fun e w' ⟨q, L, q1, q2, q3⟩ => ⟨q, L, by have k := q1.own; rw [q1.len] at k ⊢; exact k, q2, q3, q1.kp.mono (fun k e => by rw [e]; rfl)⟩
theorem compact123 {v : Value} {M : List Wr} (hM : M.length ≤ 1000000) (h : W.ownsRow base 70 3 v M.length (rowC wrc M)) :
  Calls Tryz.prog 123 #[v, .func (.func 124) #[] #[]] W fun e w' => ∃ v', e = .returned v' ∧ w'.ownsRow base 70 3 v' (cpt M).length (rowC wrc (cpt M)) ∧ v'.ownBlock = v.ownBlock ∧ Kept (fun k => v.ownBlock = some k) W w' := by
 rcases own_cases h with ⟨rfl, rfl⟩ | ⟨g, cap, rfl⟩
 ·exact (cpt123n W).mono fun e w' q => ⟨_, q.1, by rw [q.2]; exact h, rfl, by rw [q.2]; exact Kept.of_below (Below.refl _ _)⟩
 ·exact (cpt123 (base := base) (w := W) hM ⟨rfl, h, Kept.of_below (Below.refl _ _)⟩).mono fun e w' ⟨q, q1, q2⟩ => ⟨_, q, q1, rfl, q2.mono (fun k e => by rw [e]; rfl)⟩
theorem alive125 {v : Value} {M : List Wr} (h : W.ownsRow base 70 3 v M.length (rowC wrc M)) :
  Calls Tryz.prog 125 #[v, .func (.func 126) #[] #[]] W fun e w' => ∃ v', e = .returned v' ∧ w'.ownsRow base 70 3 v' (M.filter fun x => !x.dead).length (rowC wrc (M.filter fun x => !x.dead)) ∧ v'.ownBlock = v.ownBlock ∧ Kept (fun k => v.ownBlock = some k) W w' :=
 delf125 wrc wrc_len wrc_one wz 126 #[] (fun x => x.dead) base M v W h (enters_of Tryz.func126 (by kernel_rfl) rfl) (show Hid _ from fun x W' _ => dead126 x W')
end Go.Proofs.YtkdkgdollmmcnaaGreat
namespace Go.Proofs.YtkdkgdollmmcnaaGreat
open Go.RowKit Go.Sort Go.Shelf
variable {w W W' : World}
structure Sw (w : World) (M : List Wr) (v : Value) (W : World) : Prop where
 bl : Below w.heap.size w W
 own : W.ownsRow w.heap.size 70 3 v M.length (rowC wrc M)
theorem Sw.on {M : List Wr} {v : Value} (h : Sw w M v W) (hb : Below W.heap.size W W') : Sw w M v W' := ⟨h.bl.trans (hb.mono h.bl.size), own_on h.own hb⟩
theorem Sw.ow {M : List Wr} {v : Value} (h : Sw w M v W) (hl : M.length ≤ 100000) (x : Wr) {bx : Nat} (hx : W.heap[bx]? = some (.cells (wrc x).toArray 70 (0, 0))) : Ow w.heap.size 70 3 v M.length (rowC wrc M) W.heap.size (.slice (some ⟨bx, 0, none⟩) 1 1) 1 (wrc x) W :=
 ⟨h.own, ⟨_, 1, rfl, rfl, Nat.le_refl _, by omega, fun _ => ⟨_, 0, rfl, fun _ => lt_blk hx, fun j v hv => by
  rw [Nat.zero_add]
  exact block_cell hx (by simpa using hv)⟩⟩, wrc_one x, h.bl.size, by omega⟩
theorem Sw.push {M : List Wr} {v v' : Value} {x : Wr} (h : Sw w M v W) (h2 : W'.ownsRow w.heap.size 70 3 v' (M.length + 1) (rowC wrc M ++ wrc x)) (hg : W.grownBy W' v.ownBlock) : Sw w (M ++ [x]) v' W' :=
 ⟨below_own h.bl h.bl.size h.own hg, by rw [List.length_append, List.length_singleton, rowC_append, rowC_cons, show rowC wrc [] = [] from rfl, List.append_nil]; exact h2⟩
theorem take_filter_snoc {α : Type} (p : α → Bool) (L : List α) (d : α) {i : Nat} (hi : i < L.length) : (L.take (i + 1)).filter p = (L.take i).filter p ++ (if p (L.getD i d) = true then [L.getD i d] else []) := by
 rw [List.take_add_one, List.getElem?_eq_getElem hi, List.filter_append]
 simp only [Option.toList, List.getD, List.getElem?_eq_getElem hi, Option.getD_some, List.filter_cons, List.filter_nil]
theorem ws_one (x : Wr) {bx : Nat} (hx : W.heap[bx]? = some (.cells (wrc x).toArray 70 (0, 0))) : WsAt W.heap.size (.slice (some ⟨bx, 0, none⟩) 1 1) [x] W :=
 ⟨_, 1, rfl, rfl, Nat.le_refl _, by decide, fun _ => ⟨_, 0, rfl, fun _ => lt_blk hx, fun j v hv => by
  rw [Nat.zero_add]
  rw [rowC_cons, show rowC wrc [] = [] from rfl, List.append_nil] at hv
  exact block_cell hx (by simpa using hv)⟩⟩
theorem Sw.kept {M L : List Wr} {v v' : Value} (h : Sw w M v W) (hk : Kept (fun k => v.ownBlock = some k) W W') (ho : W'.ownsRow w.heap.size 70 3 v' L.length (rowC wrc L)) : Sw w L v' W' := by
 refine ⟨h.bl.trans (hk.below h.bl.size (fun k e => ?_)), ho⟩
 rcases h.own.2 with ⟨e1, -⟩ | ⟨g, cap, cur, e1, hb, -⟩
 ·rw [e1] at e
  cases e
 ·rw [e1] at e
  cases e
  exact hb
theorem cptG_len : ∀ (l : List Wr) (p : Wr), (cptG p l).length ≤ l.length
 | [], _ => Nat.le_refl _
 | x :: l, p => by
  have := cptG_len l x
  rw [cptG]
  split <;> simp only [List.length_cons] <;> omega
theorem cpt_len (L : List Wr) : (cpt L).length ≤ L.length := by
 cases L with
 | nil => exact Nat.le_refl _
 | cons x l => have := cptG_len l x; simp only [cpt, List.length_cons]; omega
theorem own_base {base base' e sz n : Nat} {v : Value} {cs : List Value} (h : W.ownsRow base' e sz v n cs) (hb : base ≤ base') : W.ownsRow base e sz v n cs := by
 refine ⟨h.1, ?_⟩
 rcases h.2 with q | ⟨g, cap, cur, e1, hb', q⟩
 ·exact .inl q
 ·exact .inr ⟨g, cap, cur, e1, by omega, q⟩
theorem info143 : (Tryz.prog.info? 143).map (fun i => (i.zero, i.size, i.bytes)) = some (some (.agg #[su, su]), 2, 32) := by kernel_rfl
def toP (x : Wr) : Pr := ⟨x.key, x.val⟩
structure Sp (w : World) (M : List Pr) (v : Value) (W : World) : Prop where
 bl : Below w.heap.size w W
 own : W.ownsRow w.heap.size 143 2 v M.length (rowC prc M)
theorem Sp.on {M : List Pr} {v : Value} (h : Sp w M v W) (hb : Below W.heap.size W W') : Sp w M v W' := ⟨h.bl.trans (hb.mono h.bl.size), own_on h.own hb⟩
theorem Sp.ow {M : List Pr} {v : Value} (h : Sp w M v W) (hl : M.length ≤ 100000) (x : Pr) {bx : Nat} (hx : W.heap[bx]? = some (.cells (prc x).toArray 143 (0, 0))) : Ow w.heap.size 143 2 v M.length (rowC prc M) W.heap.size (.slice (some ⟨bx, 0, none⟩) 1 1) 1 (prc x) W :=
 ⟨h.own, ⟨_, 1, rfl, rfl, Nat.le_refl _, by omega, fun _ => ⟨_, 0, rfl, fun _ => lt_blk hx, fun j v hv => by
  rw [Nat.zero_add]
  exact block_cell hx (by simpa using hv)⟩⟩, prc_one x, h.bl.size, by omega⟩
theorem Sp.push {M : List Pr} {v v' : Value} {x : Pr} (h : Sp w M v W) (h2 : W'.ownsRow w.heap.size 143 2 v' (M.length + 1) (rowC prc M ++ prc x)) (hg : W.grownBy W' v.ownBlock) : Sp w (M ++ [x]) v' W' :=
 ⟨below_own h.bl h.bl.size h.own hg, by rw [List.length_append, List.length_singleton, rowC_append, rowC_cons, show rowC prc [] = [] from rfl, List.append_nil]; exact h2⟩
theorem take_map_snoc (T : List Wr) {i : Nat} (hi : i < T.length) : (T.take (i + 1)).map toP = (T.take i).map toP ++ [toP (T.getD i dw)] := by
 rw [List.take_add_one, List.getElem?_eq_getElem hi, List.map_append]
 simp [List.getD, hi]
def mkW (p : Pr) : Wr := ⟨p.key, p.val, false⟩
theorem sees85 (tb : Nat) (ct : Array Value) (hct : w.heap[tb]? = some (.cells ct 79 (0, 0))) (ws : List Wr) (vw : Value) (h4 : ct[4]? = some vw) (hw : WsAt w.heap.size vw ws w) (hwl : ws.length ≤ 1000) (o : Op) (ps : List Pr) (vp : Value) (hp : PsAt w.heap.size vp ps w) (hpl : ps.length ≤ 1000) :
  Calls Tryz.prog 85 #[pz tb, .agg #[iw o.k, sd o.key, sd o.val, sd o.to, iw o.lim], vp] w fun e w' => ∃ v' L, e = .returned v' ∧ Below w.heap.size w w' ∧ Srt L ∧ Eqk ((ws.filter fun x => inB o x.key) ++ (ps.filter fun p => wOk (mkW p)).map mkW) L ∧ w'.ownsRow w.heap.size 143 2 v' ((((cpt L).filter fun x => !x.dead).map toP).take (min (max o.lim 0) 16).toNat).length (rowC prc ((((cpt L).filter fun x => !x.dead).map toP).take (min (max o.lim 0) 16).toNat)) := by
 have HW : Hid (WsAt w.heap.size vw ws w) := hw
 have HP : Hid (PsAt w.heap.size vp ps w) := hp
 obtain ⟨ao, cap, rfl, hlc, hcm⟩ := hw.shape
 obtain ⟨ap, capp, rfl, hlp, hcp⟩ := hp.shape
 have HWE : Hid (∀ W, Below w.heap.size w W → ∀ i, i < ws.length → ∃ b off, ao = some ⟨b, off, none⟩ ∧ WtAt W b (off + i * 3) (ws.getD i dw)) := fun W hW i hi => WsAt.el (HW.out.on hW) hi
 have HPE : Hid (∀ W, Below w.heap.size w W → ∀ i, i < ps.length → ∃ b off, ap = some ⟨b, off, none⟩ ∧ PtAt W b (off + i * 2) (ps.getD i dp)) := fun W hW i hi => PsAt.el (HP.out.on hW) hi
 clear hw hp HW HP
 obtain ⟨OC, hOC⟩ : ∃ OC : Array Value, #[iw o.k, sd o.key, sd o.val, sd o.to, iw o.lim] = OC := ⟨_, rfl⟩
 have hob := al (W := w) (.cells #[iw o.k, sd o.key, sd o.val, sd o.to, iw o.lim] 44)
 obtain ⟨W1, hW1⟩ := xj (w.alloc (.cells #[iw o.k, sd o.key, sd o.val, sd o.to, iw o.lim] 44))
 have hnew : W1.heap[w.heap.size]? = some (.cells #[iw o.k, sd o.key, sd o.val, sd o.to, iw o.lim] 44 (0, 0)) := by rw [← hW1]; exact heap_alloc_new w _
 rw [hW1] at hob
 have p4 : W1.cell? ⟨tb, 4, none⟩ = some (.slice ao ws.length cap) := block_cell (by rw [hob.block _ (lt_blk hct)]; exact hct) h4
 have HB0 : Hid (Below w.heap.size w W1) := hob
 have HO : Hid (∀ W, Below W1.heap.size W1 W → W.cell? ⟨w.heap.size, 1, none⟩ = some (sd o.key) ∧ W.cell? ⟨w.heap.size, 3, none⟩ = some (sd o.to) ∧ W.cell? ⟨w.heap.size, 4, none⟩ = some (iw o.lim)) := fun W hb => by
  have q : W.heap[w.heap.size]? = _ := (hb.block _ (lt_blk hnew)).trans hnew
  exact ⟨block_cell q rfl, block_cell q rfl, block_cell q rfl⟩
 obtain ⟨i0, hin0, hi0, hi1, hi2⟩ := info_parts Pla.info70
 clear hct h4 hob hOC hnew
 go_enter Tryz.func85, Tryz.ntmps85
 go_wp2_with fail
 go_loopw [7, 21] (fun s t wr => ∃ i : Nat, i ≤ ws.length ∧ t = iw (i : Int) ∧ Hid (Sw W1 ((ws.take i).filter fun x => inB o x.key) s wr)) (fun s t _ => ws.length - (intOf t).toNat)
 case atStart => exact ⟨0, Nat.zero_le _, rfl, (show Sw W1 [] sy W1 from ⟨Below.refl _ _, ⟨rfl, .inl ⟨rfl, rfl⟩⟩⟩)⟩
 case round =>
  obtain ⟨i, hi, rfl, HS⟩ := hrel
  have HBw : Hid (Below w.heap.size w wr) := HB0.out.trans (HS.out.bl.mono HB0.out.size)
  by_cases hlt : i < ws.length
  ·have hlt' : (i : Int) < (ws.length : Int) := by omega
   obtain ⟨b, off, rfl, ⟨c0, c1, c2⟩⟩ := HWE.out wr HBw.out i hlt
   obtain ⟨x, hx⟩ := xj (ws.getD i dw)
   rw [hx] at c0 c1 c2
   have HX : Hid (ws.getD i dw = x) := hx
   clear hx
   go_upto_region 5 with fail
   have n2 : (wr.alloc (.cells #[sd x.key, sd x.val, .bool x.dead] 70)).heap[wr.heap.size]? = some (.cells (wrc x).toArray 70 (0, 0)) := heap_alloc_new wr _
   have hb2 := al (W := wr) (.cells #[sd x.key, sd x.val, .bool x.dead] 70)
   generalize wr.alloc (.cells #[sd x.key, sd x.val, .bool x.dead] 70) = W2 at n2 hb2 ⊢
   have k0 : W2.cell? ⟨wr.heap.size, 0, none⟩ = some (sd x.key) := block_cell n2 rfl
   have k1 : W2.cell? ⟨wr.heap.size, 1, none⟩ = some (sd x.val) := block_cell n2 rfl
   have k2 : W2.cell? ⟨wr.heap.size, 2, none⟩ = some (.bool x.dead) := block_cell n2 rfl
   have S2 : Hid (Sw W1 ((ws.take i).filter fun x => inB o x.key) u7 W2) := HS.out.on hb2
   obtain ⟨o1, o3, -⟩ := HO.out W2 S2.out.bl
   have HLk : Op.bytesLess (bs x.key).toList (bs o.key).toList = decide (x.key < o.key) := by rw [bs_toList, bs_toList]; exact bytesLess_eq _ _
   have HLt : Op.bytesLess (bs x.key).toList (bs o.to).toList = decide (x.key < o.to) := by rw [bs_toList, bs_toList]; exact bytesLess_eq _ _
   have HEt : ((bs o.to).toList == []) = decide (o.to = []) := by rw [bs_toList, Bool.eq_iff_iff]; simp
   clear hb2 HS c0 c1 c2
   have N2 : Hid _ := n2
   clear n2
   by_cases ck : x.key < o.key
   ·rw [decide_eq_true ck] at HLk
    have HM : Hid ((ws.take (i + 1)).filter (fun x => inB o x.key) = (ws.take i).filter fun x => inB o x.key) := by
     show _ = _
     rw [take_filter_snoc _ _ dw hlt, HX.out]
     simp [inB, show ¬ o.key ≤ x.key from fun h => h ck]
    go_wp2_with fail
    go_roundw
    case rel => exact ⟨i + 1, hlt, by go_num, by rw [HM.out]; exact S2.out⟩
    case measure => simp [intOf]; omega
   ·rw [decide_eq_false ck] at HLk
    have hle : o.key ≤ x.key := ck
    by_cases ct : o.to = []
    ·rw [decide_eq_true ct] at HEt
     have CT : Hid (o.to = []) := ct
     clear ct
     have HM : Hid ((ws.take (i + 1)).filter (fun x => inB o x.key) = ((ws.take i).filter fun x => inB o x.key) ++ [x]) := by
      show _ = _
      rw [take_filter_snoc _ _ dw hlt, HX.out, if_pos (by simp [inB, hle, CT.out])]
     have hml : ((ws.take i).filter fun x => inB o x.key).length ≤ 100000 := by
      have q := List.length_filter_le (fun x : Wr => inB o x.key) (ws.take i)
      rw [List.length_take] at q
      omega
     have n3 : (W2.alloc (.cells #[sd x.key, sd x.val, .bool x.dead] 70)).heap[W2.heap.size]? = some (.cells (wrc x).toArray 70 (0, 0)) := heap_alloc_new W2 _
     have S3 : Hid (Sw W1 ((ws.take i).filter fun x => inB o x.key) u7 (W2.alloc (.cells #[sd x.key, sd x.val, .bool x.dead] 70))) := S2.out.on (al _)
     have HOw : Hid _ := S3.out.ow hml x n3
     clear n3 hml
     generalize hMM : ((ws.take i).filter fun x => inB o x.key) = MM at *
     go_wp2_with (at_builtin; refine wpList_append_rw HOw.out Tryz.underlying50 hin0 hi0 hi1 hi2 rfl (by decide) (by decide) (.tmp 42) (.tmp 44) rfl rfl rfl rfl ?_)
     intro v' w5 hown hg hat
     have S5 : Hid (Sw W1 (MM ++ [x]) v' w5) := S3.out.push hown hg
     clear hown hg hat HOw S3 S2
     go_wp2_with fail
     go_roundw
     case rel => exact ⟨i + 1, hlt, by go_num, by rw [HM.out]; exact S5.out⟩
     case measure => simp [intOf]; omega
    ·rw [decide_eq_false ct] at HEt
     by_cases cl : x.key < o.to
     ·rw [decide_eq_true cl] at HLt
      have HM : Hid ((ws.take (i + 1)).filter (fun x => inB o x.key) = ((ws.take i).filter fun x => inB o x.key) ++ [x]) := by
       show _ = _
       rw [take_filter_snoc _ _ dw hlt, HX.out, if_pos (by simp [inB, hle, cl])]
      have hml : ((ws.take i).filter fun x => inB o x.key).length ≤ 100000 := by
       have q := List.length_filter_le (fun x : Wr => inB o x.key) (ws.take i)
       rw [List.length_take] at q
       omega
      have n3 : (W2.alloc (.cells #[sd x.key, sd x.val, .bool x.dead] 70)).heap[W2.heap.size]? = some (.cells (wrc x).toArray 70 (0, 0)) := heap_alloc_new W2 _
      have S3 : Hid (Sw W1 ((ws.take i).filter fun x => inB o x.key) u7 (W2.alloc (.cells #[sd x.key, sd x.val, .bool x.dead] 70))) := S2.out.on (al _)
      have HOw : Hid _ := S3.out.ow hml x n3
      clear n3 hml
      generalize hMM : ((ws.take i).filter fun x => inB o x.key) = MM at *
      go_wp2_with (at_builtin; refine wpList_append_rw HOw.out Tryz.underlying50 hin0 hi0 hi1 hi2 rfl (by decide) (by decide) (.tmp 42) (.tmp 44) rfl rfl rfl rfl ?_)
      intro v' w5 hown hg hat
      have S5 : Hid (Sw W1 (MM ++ [x]) v' w5) := S3.out.push hown hg
      clear hown hg hat HOw S3 S2
      go_wp2_with fail
      go_roundw
      case rel => exact ⟨i + 1, hlt, by go_num, by rw [HM.out]; exact S5.out⟩
      case measure => simp [intOf]; omega
     ·rw [decide_eq_false cl] at HLt
      have HM : Hid ((ws.take (i + 1)).filter (fun x => inB o x.key) = (ws.take i).filter fun x => inB o x.key) := by
       show _ = _
       rw [take_filter_snoc _ _ dw hlt, HX.out, if_neg (by simp [inB, cl, ct]), List.append_nil]
      go_wp2_with fail
      go_roundw
      case rel => exact ⟨i + 1, hlt, by go_num, by rw [HM.out]; exact S2.out⟩
      case measure => simp [intOf]; omega
  ·have hie : i = ws.length := by omega
   have hlt' : ¬ (i : Int) < (ws.length : Int) := by omega
   have HS1 : Hid (Sw W1 (ws.filter fun x => inB o x.key) u7 wr) := by
    have q := HS.out
    rw [hie, List.take_of_length_le (Nat.le_refl _)] at q
    exact q
   have hm1 : (ws.filter fun x => inB o x.key).length ≤ 1000 := Nat.le_trans (List.length_filter_le _ _) hwl
   obtain ⟨M1, hM1⟩ := xj (ws.filter fun x => inB o x.key)
   rw [hM1] at HS1 hm1
   have HM1 : Hid _ := hM1
   clear hM1 HS HBw HWE p4
   go_wp2_with fail
   go_loopw [7, 49] (fun s t wr => ∃ j : Nat, j ≤ ps.length ∧ t = iw (j : Int) ∧ Hid (Sw W1 (M1 ++ ((ps.take j).filter fun p => wOk (mkW p)).map mkW) s wr)) (fun s t _ => ps.length - (intOf t).toNat)
   case atStart => exact ⟨0, Nat.zero_le _, rfl, (show Hid _ from by rw [List.take_zero, List.filter_nil, List.map_nil, List.append_nil]; exact HS1.out)⟩
   case round =>
    obtain ⟨j, hj, rfl, HS⟩ := hrel
    clear HS1
    have HBw : Hid (Below w.heap.size w wr) := HB0.out.trans (HS.out.bl.mono HB0.out.size)
    by_cases hlt : j < ps.length
    ·have hltj : (j : Int) < (ps.length : Int) := by omega
     obtain ⟨b, off, rfl, ⟨d0, d1⟩⟩ := HPE.out wr HBw.out j hlt
     obtain ⟨y, hy⟩ := xj (ps.getD j dp)
     rw [hy] at d0 d1
     have HY : Hid (ps.getD j dp = y) := hy
     clear hy
     go_upto_region 11 with fail
     have n2 : (wr.alloc (.cells #[sd y.key, sd y.val] 143)).heap[wr.heap.size]? = some (.cells #[sd y.key, sd y.val] 143 (0, 0)) := heap_alloc_new wr _
     have hb2 := al (W := wr) (.cells #[sd y.key, sd y.val] 143)
     generalize wr.alloc (.cells #[sd y.key, sd y.val] 143) = W2 at n2 hb2 ⊢
     have k0 : W2.cell? ⟨wr.heap.size, 0, none⟩ = some (sd y.key) := block_cell n2 rfl
     have k1 : W2.cell? ⟨wr.heap.size, 1, none⟩ = some (sd y.val) := block_cell n2 rfl
     have S2 : Hid (Sw W1 (M1 ++ ((ps.take j).filter fun p => wOk (mkW p)).map mkW) u7 W2) := HS.out.on hb2
     clear n2 hb2 HS d0 d1
     go_upto_region 12 with fail
     have n3 : (W2.alloc (.cells #[sd y.key, sd y.val, .bool false] 70)).heap[W2.heap.size]? = some (.cells (wrc (mkW y)).toArray 70 (0, 0)) := heap_alloc_new W2 _
     have hb3 := al (W := W2) (.cells #[sd y.key, sd y.val, .bool false] 70)
     generalize W2.alloc (.cells #[sd y.key, sd y.val, .bool false] 70) = W3 at n3 hb3 ⊢
     have e0 : W3.cell? ⟨W2.heap.size, 0, none⟩ = some (sd y.key) := block_cell n3 rfl
     have e1 : W3.cell? ⟨W2.heap.size, 1, none⟩ = some (sd y.val) := block_cell n3 rfl
     have e2 : W3.cell? ⟨W2.heap.size, 2, none⟩ = some (.bool false) := block_cell n3 rfl
     have S3 : Hid (Sw W1 (M1 ++ ((ps.take j).filter fun p => wOk (mkW p)).map mkW) u7 W3) := S2.out.on hb3
     clear hb3 S2 k0 k1
     have n4 : (W3.alloc (.cells #[sd y.key, sd y.val, .bool false] 70)).heap[W3.heap.size]? = some (.cells (wrc (mkW y)).toArray 70 (0, 0)) := heap_alloc_new W3 _
     have hb4 := al (W := W3) (.cells #[sd y.key, sd y.val, .bool false] 70)
     have C86 : Hid (1 = 1 → Calls Tryz.prog 86 #[.slice (some ⟨W3.heap.size, 0, none⟩) 1 1] (W3.alloc (.cells #[sd y.key, sd y.val, .bool false] 70)) fun r w' => r = .returned (.bool (wOk (mkW y))) ∧ Below W3.heap.size W3 w') := fun _ =>
      (right24 _ [mkW y] _ _ (ws_one (mkW y) n4) (Nat.le_refl _)).mono fun e w' q => ⟨by rw [q.1]; simp [rightW], hb4.trans (q.2.mono hb4.size)⟩
     have N3 : Hid _ := n3
     clear n3 n4 hb4
     obtain ⟨r, hr⟩ := xj (wOk (mkW y))
     have HR : Hid (wOk (mkW y) = r) := hr
     rw [hr] at C86
     clear hr
     cases r
     ·go_wp2_with fail
      refine (C86.out (by trivial)).mono ?_
      rintro e w5 ⟨rfl, h5⟩
      have S5 : Hid (Sw W1 (M1 ++ ((ps.take j).filter fun p => wOk (mkW p)).map mkW) u7 w5) := S3.out.on h5
      clear h5
      have HM : Hid (M1 ++ ((ps.take (j + 1)).filter fun p => wOk (mkW p)).map mkW = M1 ++ ((ps.take j).filter fun p => wOk (mkW p)).map mkW) := by
       show _ = _
       rw [take_filter_snoc _ _ dp hlt, HY.out, if_neg (by rw [HR.out]; decide), List.append_nil]
      go_wp2_with fail
      go_roundw
      case rel => exact ⟨j + 1, hlt, by go_num, by rw [HM.out]; exact S5.out⟩
      case measure => simp [intOf]; omega
     ·go_wp2_with fail
      refine (C86.out (by trivial)).mono ?_
      rintro e w5 ⟨rfl, h5⟩
      have S5 : Hid (Sw W1 (M1 ++ ((ps.take j).filter fun p => wOk (mkW p)).map mkW) u7 w5) := S3.out.on h5
      have n5 : w5.heap[W2.heap.size]? = some (.cells (wrc (mkW y)).toArray 70 (0, 0)) := (h5.block _ (lt_blk N3.out)).trans N3.out
      have g0 : w5.cell? ⟨W2.heap.size, 0, none⟩ = some (sd y.key) := block_cell n5 rfl
      have g1 : w5.cell? ⟨W2.heap.size, 1, none⟩ = some (sd y.val) := block_cell n5 rfl
      have g2 : w5.cell? ⟨W2.heap.size, 2, none⟩ = some (.bool false) := block_cell n5 rfl
      clear h5 n5 S3 C86 e0 e1 e2
      have HM : Hid (M1 ++ ((ps.take (j + 1)).filter fun p => wOk (mkW p)).map mkW = (M1 ++ ((ps.take j).filter fun p => wOk (mkW p)).map mkW) ++ [mkW y]) := by
       show _ = _
       rw [take_filter_snoc _ _ dp hlt, HY.out, if_pos HR.out, List.map_append, List.append_assoc]
       rfl
      have hml : (M1 ++ ((ps.take j).filter fun p => wOk (mkW p)).map mkW).length ≤ 100000 := by
       have q := List.length_filter_le (fun p : Pr => wOk (mkW p)) (ps.take j)
       rw [List.length_take] at q
       rw [List.length_append, List.length_map]
       omega
      have n6 : (w5.alloc (.cells #[sd y.key, sd y.val, .bool false] 70)).heap[w5.heap.size]? = some (.cells (wrc (mkW y)).toArray 70 (0, 0)) := heap_alloc_new w5 _
      have S6 : Hid (Sw W1 (M1 ++ ((ps.take j).filter fun p => wOk (mkW p)).map mkW) u7 (w5.alloc (.cells #[sd y.key, sd y.val, .bool false] 70))) := S5.out.on (al _)
      have HOw : Hid _ := S6.out.ow hml (mkW y) n6
      clear n6 hml
      generalize hMM : (M1 ++ ((ps.take j).filter fun p => wOk (mkW p)).map mkW) = MM at *
      go_wp2_with (at_builtin; refine wpList_append_rw HOw.out Tryz.underlying50 hin0 hi0 hi1 hi2 rfl (by decide) (by decide) (.tmp 61) (.tmp 63) rfl rfl rfl rfl ?_)
      intro v' w7 hown hg hat
      have S7 : Hid (Sw W1 (MM ++ [mkW y]) v' w7) := S6.out.push hown hg
      clear hown hg hat HOw S6 S5
      go_wp2_with fail
      go_roundw
      case rel => exact ⟨j + 1, hlt, by go_num, by rw [HM.out]; exact S7.out⟩
      case measure => simp [intOf]; omega
    ·have hje : j = ps.length := by omega
     have hltj : ¬ (j : Int) < (ps.length : Int) := by omega
     have HS2 : Hid (Sw W1 (M1 ++ (ps.filter fun p => wOk (mkW p)).map mkW) u7 wr) := by
      have q := HS.out
      rw [hje, List.take_of_length_le (Nat.le_refl _)] at q
      exact q
     have hm2 : (M1 ++ (ps.filter fun p => wOk (mkW p)).map mkW).length ≤ 2000 := by
      have q := List.length_filter_le (fun p : Pr => wOk (mkW p)) ps
      rw [List.length_append, List.length_map]
      omega
     obtain ⟨M2, hM2⟩ := xj (M1 ++ (ps.filter fun p => wOk (mkW p)).map mkW)
     rw [hM2] at HS2 hm2
     have HM2 : Hid _ := hM2
     clear hM2 HS HBw HPE
     have C121 : Hid (1 = 1 → Calls Tryz.prog 121 #[u7, .func (.func 122) #[] #[]] wr fun e w' => e = .returned (.tuple #[]) ∧ ∃ L, Sw W1 L u7 w' ∧ Srt L ∧ Eqk M2 L) := fun _ => (sorted121 (by omega) HS2.out.own).mono fun e w' ⟨q, L, q1, q2, q3, q4⟩ => ⟨q, L, HS2.out.kept q4 q1, q2, q3⟩
     clear HS2
     go_wp2_with fail
     refine (C121.out (by trivial)).mono ?_
     rintro e w3 ⟨rfl, L, l1, l2, l3⟩
     have HL : Hid (Srt L ∧ Eqk M2 L) := ⟨l2, l3⟩
     have hll : L.length ≤ 2000 := by rw [l3.len]; exact hm2
     have C123 : Hid (1 = 1 → Calls Tryz.prog 123 #[u7, .func (.func 124) #[] #[]] w3 fun e w' => ∃ v', e = .returned v' ∧ Sw W1 (cpt L) v' w') := fun _ => (compact123 (by omega) l1.own).mono fun e w' ⟨v', q, q1, q2, q3⟩ => ⟨v', q, l1.kept q3 q1⟩
     clear l1 l2 l3 C121
     go_wp2_with fail
     refine (C123.out (by trivial)).mono ?_
     rintro e w4 ⟨v4, rfl, l4⟩
     have C125 : Hid (1 = 1 → Calls Tryz.prog 125 #[v4, .func (.func 126) #[] #[]] w4 fun e w' => ∃ v', e = .returned v' ∧ Sw W1 ((cpt L).filter fun x => !x.dead) v' w') := fun _ => (alive125 l4.own).mono fun e w' ⟨v', q, q1, q2, q3⟩ => ⟨v', q, l4.kept q3 q1⟩
     clear l4 C123
     go_wp2_with fail
     refine (C125.out (by trivial)).mono ?_
     rintro e w5 ⟨v5, rfl, l5⟩
     have S5 : Hid _ := l5
     clear l5 C125
     go_upto_region 19 with fail
     obtain ⟨o1, -, o4⟩ := HO.out w5 S5.out.bl
     obtain ⟨T, hT⟩ := xj ((cpt L).filter fun x => !x.dead)
     rw [hT] at S5
     have HT : Hid _ := hT
     have htl : T.length ≤ 2000 := by rw [← hT]; exact Nat.le_trans (List.length_filter_le _ _) (by have := cpt_len L; omega)
     clear hT
     have FIN : Hid (∀ kk v W, min T.length (min (max o.lim 0) 16).toNat = kk → Sp w5 ((T.take kk).map toP) v W → ∃ v' L, Ending.returned v = Ending.returned v' ∧ Below w.heap.size w W ∧ Srt L ∧ Eqk ((ws.filter fun x => inB o x.key) ++ (ps.filter fun p => wOk (mkW p)).map mkW) L ∧ W.ownsRow w.heap.size 143 2 v' ((((cpt L).filter fun x => !x.dead).map toP).take (min (max o.lim 0) 16).toNat).length (rowC prc ((((cpt L).filter fun x => !x.dead).map toP).take (min (max o.lim 0) 16).toNat))) := fun kk v W hk k => by
      have hb5 : Below w.heap.size w w5 := HB0.out.trans (S5.out.bl.mono HB0.out.size)
      refine ⟨v, L, rfl, hb5.trans (k.bl.mono hb5.size), HL.out.1, by rw [HM1.out, HM2.out]; exact HL.out.2, ?_⟩
      have e1 : (((cpt L).filter fun x => !x.dead).map toP).take (min (max o.lim 0) 16).toNat = (T.take kk).map toP := by
       rw [HT.out, List.map_take, ← hk]
       rcases Nat.le_total T.length (min (max o.lim 0) 16).toNat with c | c
       ·rw [Nat.min_eq_left c, List.take_of_length_le (by rw [List.length_map]; exact c), List.take_of_length_le (by rw [List.length_map]; exact Nat.le_refl _)]
       ·rw [Nat.min_eq_right c]
      rw [e1]
      exact own_base k.own hb5.size
     rcases own_cases S5.out.own with ⟨rfl, rfl⟩ | ⟨g, gc, rfl⟩
     ·go_cut [79, 80, 81] (fun s79 s80 s81 wc => s79 = sy ∧ s80 = iw 0 ∧ s81 = iw 0 ∧ wc = w5)
      case first =>
       go_wp2_with fail
       all_goals first
        | (exfalso; omega)
        | (go_meet
           case rel => exact ⟨by first | rfl | (congr 1; omega), by first | rfl | (congr 1; omega), rfl, rfl⟩)
      case rest =>
       obtain ⟨rfl, rfl, rfl, rfl⟩ := hcut
       go_wp2_with fail
       go_loopw [13, 81] (fun s t wr => s = sy ∧ t = iw 0 ∧ wr = wc) (fun _ _ _ => 0)
       case atStart => exact ⟨rfl, rfl, rfl⟩
       case round =>
        obtain ⟨rfl, rfl, rfl⟩ := hrel
        go_wp2_with fail
        go_ret
        exact FIN.out 0 _ _ (by simp) ⟨Below.refl _ _, ⟨rfl, .inl ⟨rfl, rfl⟩⟩⟩
     ·obtain ⟨cur, q1, q2, q3, q4, q5, q6⟩ := own_there S5.out.own
      have hgc : T.length ≤ gc ∧ gc ≤ 9223372036854775807 := by unfold maxLen at q4; omega
      have hgc1 : (T.length : Int) ≤ (gc : Int) := by omega
      have hgc2 : ¬ (gc = 0 ∧ 0 < T.length) := by omega
      clear q1 q2 q3 q4 q5 q6 cur
      obtain ⟨kk, hkk⟩ := xj (min T.length (min (max o.lim 0) 16).toNat)
      have HKK : Hid _ := hkk
      have hk1 : kk ≤ T.length ∧ kk ≤ 16 := by omega
      go_cut [79, 80, 81] (fun s79 s80 s81 wc => s79 = .slice (some ⟨g, 0, none⟩) kk gc ∧ s80 = iw (kk : Int) ∧ s81 = iw 0 ∧ wc = w5)
      case first =>
       go_wp2_with fail
       all_goals first
        | (exfalso; omega)
        | (go_meet
           case rel => exact ⟨by congr 1; omega, by congr 1; omega, rfl, rfl⟩)
      case rest =>
       obtain ⟨rfl, rfl, rfl, rfl⟩ := hcut
       have HTE : Hid (∀ W, Below wc.heap.size wc W → ∀ i, i < T.length → WtAt W g (i * 3) (T.getD i dw)) := fun W hW i hi => by
        obtain ⟨b, off, e, c⟩ := WsAt.el (WsAt.on (rw_own S5.out.own) hW) hi
        cases e
        rw [Nat.zero_add] at c
        exact c
       obtain ⟨i1, hin1, hj0, hj1, hj2⟩ := info_parts info143
       go_wp2_with fail
       go_loopw [13, 81] (fun s t wr => ∃ i : Nat, i ≤ kk ∧ t = iw (i : Int) ∧ Hid (Sp wc ((T.take i).map toP) s wr)) (fun s t _ => kk - (intOf t).toNat)
       case atStart => exact ⟨0, Nat.zero_le _, rfl, (show Sp wc [] sy wc from ⟨Below.refl _ _, ⟨rfl, .inl ⟨rfl, rfl⟩⟩⟩)⟩
       case round =>
        obtain ⟨i, hik, rfl, HS⟩ := hrel
        by_cases hlt3 : i < kk
        ·have hlt3' : (i : Int) < (kk : Int) := by omega
         obtain ⟨c0, c1, c2⟩ := HTE.out wr HS.out.bl i (by omega)
         obtain ⟨x, hx⟩ := xj (T.getD i dw)
         rw [hx] at c0 c1 c2
         have HM : Hid ((T.take (i + 1)).map toP = (T.take i).map toP ++ [toP x]) := by show _ = _; rw [take_map_snoc T (by omega), hx]
         clear hx
         go_upto_region 22 with fail
         have n2 : (wr.alloc (.cells #[sd x.key, sd x.val, .bool x.dead] 70)).heap[wr.heap.size]? = some (.cells (wrc x).toArray 70 (0, 0)) := heap_alloc_new wr _
         have hb2 := al (W := wr) (.cells #[sd x.key, sd x.val, .bool x.dead] 70)
         generalize wr.alloc (.cells #[sd x.key, sd x.val, .bool x.dead] 70) = W2 at n2 hb2 ⊢
         have k0 : W2.cell? ⟨wr.heap.size, 0, none⟩ = some (sd x.key) := block_cell n2 rfl
         have k1 : W2.cell? ⟨wr.heap.size, 1, none⟩ = some (sd x.val) := block_cell n2 rfl
         have n3 : (W2.alloc (.cells #[sd x.key, sd x.val] 143)).heap[W2.heap.size]? = some (.cells (prc (toP x)).toArray 143 (0, 0)) := heap_alloc_new W2 _
         have S3 : Hid (Sp wc ((T.take i).map toP) u13 (W2.alloc (.cells #[sd x.key, sd x.val] 143))) := (HS.out.on hb2).on (al _)
         have HOw : Hid _ := S3.out.ow (by rw [List.length_map, List.length_take]; omega) (toP x) n3
         clear n2 n3 hb2 HS c0 c1 c2
         generalize hMM : (T.take i).map toP = MM at *
         go_wp2_with (at_builtin; refine wpList_append_rw HOw.out Tryz.underlying39 hin1 hj0 hj1 hj2 rfl (by decide) (by decide) (.tmp 85) (.tmp 91) rfl rfl rfl rfl ?_)
         intro v' w7 hown hg hat
         have S7 : Hid (Sp wc (MM ++ [toP x]) v' w7) := S3.out.push hown hg
         clear hown hg hat HOw S3
         go_wp2_with fail
         go_roundw
         case rel => exact ⟨i + 1, hlt3, by go_num, by rw [HM.out]; exact S7.out⟩
         case measure => simp [intOf]; omega
        ·have hlt3' : ¬ (i : Int) < (kk : Int) := by omega
         have hik2 : i = kk := by omega
         subst hik2
         go_wp2_with fail
         go_ret
         obtain ⟨v', L', e, r1, r2, r3, r4⟩ := FIN.out i _ _ HKK.out HS.out
         rw [List.length_take, List.length_map] at r4
         exact ⟨v', e, r1, L', r2, r3, r4⟩
end Go.Proofs.YtkdkgdollmmcnaaGreat
namespace Go.Proofs.YtkdkgdollmmcnaaGreat
open Go.RowKit Go.Sort Go.Shelf
variable {w : World}
theorem wOk_pair {p : Pr} (h : p.val.length ≤ 256) : wOk (mkW p) = bt.key p.key := by
 have e : wOk (mkW p) = kOk p.key := by simp [wOk, mkW, h]
 rw [e]
 rfl
theorem pairs_bt {ps : List Pr} (h : ∀ p ∈ ps, p.val.length ≤ 256) : (ps.filter fun p => wOk (mkW p)) = ps.filter fun p => bt.key p.key :=
 List.filter_congr fun p hp => wOk_pair (h p hp)
theorem sees_scan (tb : Nat) (ct : Array Value) (hct : w.heap[tb]? = some (.cells ct 79 (0, 0))) (X : Ss) (vw : Value) (h4 : ct[4]? = some vw) (hw : WsAt w.heap.size vw X.ws w) (hwl : X.ws.length ≤ 1000) (vp : Value) (hp : PsAt w.heap.size vp X.ps w) (hpl : X.ps.length ≤ 1000) (hv : ∀ p ∈ X.ps, p.val.length ≤ 256) :
  Calls Tryz.prog 85 #[pz tb, .agg #[iw X.op.k, sd X.op.key, sd X.op.val, sd X.op.to, iw X.op.lim], vp] w fun e w' => ∃ v', e = .returned v' ∧ Below w.heap.size w w' ∧ w'.ownsRow w.heap.size 143 2 v' (scanF bt X).length (rowC prc (scanF bt X)) :=
 (sees85 tb ct hct X.ws vw h4 hw hwl X.op X.ps vp hp hpl).mono fun e w' ⟨v', L, h1, h2, h3, h5, h6⟩ => ⟨v', h1, h2, by
  rw [pairs_bt hv] at h5
  rw [scan_plain bt X h3 h5]
  exact h6⟩
end Go.Proofs.YtkdkgdollmmcnaaGreat
namespace Go.Proofs.YtkdkgdollmmcnaaGreat
open Go.RowKit Go.Sort
variable {M M' G N : Nat → Prop} {W W' w : World} {f f' : Fo} {X X' : Ss}
theorem do11w (h : SC f N X w) (hn : Nok N f X.act w) (d : Dn f X) (hs : ∀ i j, i < j → j < X.ws.length → (X.ws.getD i dw).key < (X.ws.getD j dw).key) (ph : Nat) (o : Op) :
  Calls Tryz.prog 11 #[pz f.sb, uw ph, .agg #[iw o.k, sd o.key, sd o.val, sd o.to, iw o.lim]] w (Got f N X w (doF bt X ph o).1 (doF bt X ph o).2) := by
 by_cases hk : o.k ≠ 4 ∧ o.k ≠ 5 ∧ o.k ≠ 6
 ·exact do11 h hn d ph o hk
 ·by_cases ho : X.op.k = 0
  ·have h1 : o.k ≠ 1 := fun e => hk ⟨by omega, by omega, by omega⟩
   cases ha : X.act
   ·have e : doF bt X ph o = (X, badF X 41) := by unfold doF; rw [if_neg (fun e => e ho), if_neg h1, if_pos ha]
    rw [e]
    exact do11_none h hn ph o ho ha h1 _ _ fun N' W h' hn' => refuseG 41 h' d.bd
   ·have na : ¬ X.act = false := by rw [ha]; decide
    by_cases h4 : o.k = 4
    ·refine do11_4 h hn ph o ho ha h4 _ _ fun N' W h' hn' => ?_
     unfold doF
     rw [if_neg (fun e => e ho), if_neg h1, if_neg na, if_pos h4]
     exact write32 (d.un ha h' hn') hs ⟨o.key, o.val, false⟩
    ·by_cases h5 : o.k = 5
     ·refine do11_5 h hn ph o ho ha h5 _ _ fun N' W h' hn' => ?_
      unfold doF
      rw [if_neg (fun e => e ho), if_neg h1, if_neg na, if_neg h4, if_pos h5]
      exact write32 (d.un ha h' hn') hs ⟨o.key, [], true⟩
     ·have h6 : o.k = 6 := by
       by_cases h6 : o.k = 6
       ·exact h6
       ·exact absurd ⟨h4, h5, h6⟩ hk
      refine do11_6 h hn ph o ho ha h6 _ _ fun N' W h' hn' => ?_
      unfold doF
      rw [if_neg (fun e => e ho), if_neg h1, if_neg na, if_neg h4, if_neg h5, if_neg (by omega), if_neg (by omega), if_pos h6]
      unfold commitF
      cases hw : X.ws with
      | nil =>
       have k := commit33a (d.un ha h' hn') hw
       rw [hw] at *
       exact k
      | cons x l =>
       have k := commit33b (d.un ha h' hn') (d.ch ho) o h6 (by rw [hw]; simp)
       rw [hw] at k
       exact k
  ·have e : doF bt X ph o = (X, badF X 40) := by unfold doF; rw [if_pos ho]
   rw [e]
   exact do11_busy h hn ph o ho _ _ fun N' W h' hn' => refuseG 40 h' d.bd
end Go.Proofs.YtkdkgdollmmcnaaGreat
