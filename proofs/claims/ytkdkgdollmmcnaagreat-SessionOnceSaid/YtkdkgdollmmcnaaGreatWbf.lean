import Derived.Test.YtkdkgdollmmcnaaGreatWbe
set_option maxHeartbeats 4000000
set_option maxRecDepth 100000
set_option linter.unusedVariables false
set_option linter.unusedSimpArgs false
namespace Go.Proofs.YtkdkgdollmmcnaaGreat
open Go.RowKit Go.Sort Go.Shelf
variable {M M' G N : Nat → Prop} {W W' w : World} {f f' : Fo} {X X' : Ss}
theorem scan31b (u : Un f N X 9 w) (hc : ∀ a ∈ X.asks, a.ch = true) (o : Op) (ho : o.k = 3) (hl1 : ¬ 32 < o.key.length) (hl2 : ¬ 32 < o.to.length) : Calls Tryz.prog 31 #[pz f.sb, .agg #[iw o.k, sd o.key, sd o.val, sd o.to, iw o.lim]] w (Got f N X w (scanAsks X o X.nsh 0 { X with op := o, ps := [], left := (X.nsh : Int) }) zS) := by
 have X0 := (Cx.start (Lo := []) u.sc u.nk nb).box21 #[pz f.sb] 24 #[iw o.k, sd o.key, sd o.val, sd o.to, iw o.lim] 44 RZ 41
 obtain ⟨W1, hW1⟩ := xj (((w.alloc (.cells #[pz f.sb] 24)).alloc (.cells #[iw o.k, sd o.key, sd o.val, sd o.to, iw o.lim] 44)).alloc (.cells RZ 41))
 rw [hW1] at X0
 have c1 : W1.cell? ⟨w.heap.size, 0, none⟩ = some (pz f.sb) := X0.bc
 have ob := X0.bx (b := w.heap.size + 1) (cs := #[iw o.k, sd o.key, sd o.val, sd o.to, iw o.lim]) (ty := 44) (by simp)
 have o1 : W1.cell? ⟨w.heap.size + 1, 1, none⟩ = some (sd o.key) := block_cell ob rfl
 have o3 : W1.cell? ⟨w.heap.size + 1, 3, none⟩ = some (sd o.to) := block_cell ob rfl
 have zk := bs_size o.key
 have zt := bs_size o.to
 have h1i : ¬ (32 : Int) < (o.key.length : Int) := by omega
 have h2i : ¬ (32 : Int) < (o.to.length : Int) := by omega
 have p7 : W1.cell? ⟨f.sb, 7, none⟩ = some (vsV f.sb X.op.k X.stg) := block_cell X0.sc.blk rfl
 have g7 : W1.frozen? ⟨f.sb, 7, none⟩ = false := block_frozen X0.sc.blk 7
 have XA : Hid (Cx (f.In X.act) N w f { X with op := o } [(w.heap.size + 1, #[iw o.k, sd o.key, sd o.val, sd o.to, iw o.lim], 44), (w.heap.size, #[pz f.sb], 24)] [(w.heap.size + 2, RZ, 41)] (W1.setCell ⟨f.sb, 7, none⟩ (.func (.func 79) #[pz f.sb] #[]))) := X0.next (X0.sc.op o (set_kept' W1 f.sb 7 (.func (.func 79) #[pz f.sb] #[])) (by
  have e := block_set (j := 7) (.func (.func 79) #[pz f.sb] #[]) X0.sc.blk
  rw [e]
  simp [sbA, vsV, ho]))
 obtain ⟨W2, hW2⟩ := xj (W1.setCell ⟨f.sb, 7, none⟩ (.func (.func 79) #[pz f.sb] #[]))
 rw [hW2] at XA
 have HU : Hid (Un f N X 9 w) := u
 have HC : Hid (∀ a ∈ X.asks, a.ch = true) := hc
 have HO : Hid (o.k = 3) := ho
 have SN : Hid (∀ Lm W, Cx (f.In X.act) N w f { X with op := o } [(w.heap.size + 1, #[iw o.k, sd o.key, sd o.val, sd o.to, iw o.lim], 44), (w.heap.size, #[pz f.sb], 24)] Lm W → W.cell? ⟨w.heap.size, 0, none⟩ = some (pz f.sb) ∧ W.cell? ⟨f.sb, 6, none⟩ = some (pz f.tb) ∧ W.cell? ⟨f.tb, 0, none⟩ = some (uu X.cl) ∧ W.cell? ⟨f.tb, 1, none⟩ = some (uu X.n) ∧ W.cell? ⟨f.tb, 2, none⟩ = some (uw X.sp) ∧ W.cell? ⟨f.tb, 3, none⟩ = some (uu X.sl) ∧ W.cell? ⟨w.heap.size + 1, 1, none⟩ = some (sd o.key) ∧ W.cell? ⟨w.heap.size + 1, 3, none⟩ = some (sd o.to)) := fun Lm W c => ⟨c.bc, block_cell c.sc.blk (by simp [sbA, vtV, HU.out.act]), block_cell (c.sc.tx HU.out.act).1 rfl, block_cell (c.sc.tx HU.out.act).1 rfl, block_cell (c.sc.tx HU.out.act).1 rfl, block_cell (c.sc.tx HU.out.act).1 rfl, c.bc, c.bc⟩
 have HX : Hid (Cx (f.In X.act) N w f { X with op := o } [(w.heap.size + 1, #[iw o.k, sd o.key, sd o.val, sd o.to, iw o.lim], 44), (w.heap.size, #[pz f.sb], 24)] [(w.heap.size + 2, RZ, 41)] W2.drew) := XA.out.drew
 have HA : Hid (Cx (f.In X.act) N w f { X with op := o } [(w.heap.size + 1, #[iw o.k, sd o.key, sd o.val, sd o.to, iw o.lim], 44), (w.heap.size, #[pz f.sb], 24)] ((W2.heap.size, #[iw 0, .int .u32 0, .int .u32 0, .int .u64 0, .int .u32 0, .int .u64 0, .int .u32 0, su, su, iw 0, .int .u8 0, sy, sy], 53) :: [(w.heap.size + 2, RZ, 41)]) ((W2.alloc (.cells #[iw 0, .int .u32 0, .int .u32 0, .int .u64 0, .int .u32 0, .int .u64 0, .int .u32 0, su, su, iw 0, .int .u8 0, sy, sy] 53)).drew)) := (XA.out.newm _ _).drew
 have hlt : w.heap.size + 2 < W2.heap.size := lt_blk (XA.out.bm mc)
 have HP : Hid (Cx (f.In X.act) N w f { X with op := o } [(w.heap.size + 1, #[iw o.k, sd o.key, sd o.val, sd o.to, iw o.lim], 44), (w.heap.size, #[pz f.sb], 24)] [(W2.heap.size, #[iw 2, uu X.cl, uu X.n, uw X.sp, uu X.sl, .int .u64 0, .int .u32 0, sd o.key, sd o.to, iw 32, .int .u8 0, sy, sy], 53), (w.heap.size + 2, RZ, 41)] (((W2.alloc (.cells #[iw 0, .int .u32 0, .int .u32 0, .int .u64 0, .int .u32 0, .int .u64 0, .int .u32 0, su, su, iw 0, .int .u8 0, sy, sy] 53)).drew).setRow W2.heap.size #[iw 2, uu X.cl, uu X.n, uw X.sp, uu X.sl, .int .u64 0, .int .u32 0, sd o.key, sd o.to, iw 32, .int .u8 0, sy, sy])) := HA.out.poke (setRow_kept _ _ #[iw 2, uu X.cl, uu X.n, uw X.sp, uu X.sl, .int .u64 0, .int .u32 0, sd o.key, sd o.to, iw 32, .int .u8 0, sy, sy]) (setRow_at (HA.out.bm mc)) (fun pp hp => by rw [List.mem_singleton] at hp; subst hp; exact Nat.ne_of_lt hlt)
 generalize vsV f.sb X.op.k X.stg = v7 at *
 clear u X0 hc ob ho XA
 go_enter Tryz.func31, Tryz.ntmps31
 go_upto_region 4 with fail
 clear c1 o1 o3 p7 g7 hW1
 refine wp_region_held_drew (S := (fun W => W.cell? ⟨w.heap.size, 0, none⟩ = some (pz f.sb) ∧ W.cell? ⟨f.sb, 6, none⟩ = some (pz f.tb) ∧ W.cell? ⟨f.tb, 0, none⟩ = some (uu X.cl) ∧ W.cell? ⟨f.tb, 1, none⟩ = some (uu X.n) ∧ W.cell? ⟨f.tb, 2, none⟩ = some (uw X.sp) ∧ W.cell? ⟨f.tb, 3, none⟩ = some (uu X.sl) ∧ W.cell? ⟨w.heap.size + 1, 1, none⟩ = some (sd o.key) ∧ W.cell? ⟨w.heap.size + 1, 3, none⟩ = some (sd o.to))) (by kernel_rfl) (SN.out _ _ HX.out) (fun hHeld => ?_)
 refine tw 0 ?_
 refine tq 1 ?_
 refine tq 2 ?_
 refine tw 3 ?_
 refine tq 4 ?_
 refine tq 5 ?_
 refine tw 6 ?_
 refine tw 7 ?_
 refine tq 8 ?_
 refine tq 9 ?_
 refine tw 10 ?_
 refine tq 11 ?_
 refine tq 12 ?_
 refine tw 13 ?_
 refine tq 14 ?_
 refine tw 15 ?_
 refine tq 16 ?_
 refine tw 17 ?_
 refine tq 18 ?_
 refine rd 19 (fun K hK => ?_)
 go_simp
 refine kj hK (SN.out _ _ HA.out) (fun hHeld => ?_)
 clear hK K
 refine rd 20 (fun K hK => ?_)
 rw [if_pos (by rfl)]
 refine wp_store_row 53 _ _ rfl W2.heap.size _ rfl rfl 53 _ (HA.out.bm mc) (by kernel_rfl) rfl (rqc_all (Rq.wt { zQ with k := 2, c := X.cl, n := X.n, sp := X.sp, sl := X.sl, key := o.key, lim := 32 } o.to) sy sy rfl rfl) ?_
 refine kj hK (SN.out _ _ HP.out) (fun hHeld => ?_)
 clear hK K
 refine wpAnyH_done (by kernel_rfl) ?_ _
 have HP2 : Hid _ := HP.out.swapm
 clear hHeld SN HX HA HP
 obtain ⟨bq, hbq⟩ := xj W2.heap.size
 rw [hbq] at HP2 ⊢
 obtain ⟨W3, hW3⟩ := xj (((W2.alloc (.cells #[iw 0, .int .u32 0, .int .u32 0, .int .u64 0, .int .u32 0, .int .u64 0, .int .u32 0, su, su, iw 0, .int .u8 0, sy, sy] 53)).drew).setRow bq #[iw 2, uu X.cl, uu X.n, uw X.sp, uu X.sl, .int .u64 0, .int .u32 0, sd o.key, sd o.to, iw 32, .int .u8 0, sy, sy])
 rw [hW3] at HP2
 rw [hW3]
 have HLT : Hid (w.heap.size + 2 < bq) := by show _ < _; rw [← hbq]; exact hlt
 clear hW3 hW2 hbq hlt
 have a1 := al (W := W3) (.cells #[sy] 39)
 have n1 := heap_alloc_new W3 (.cells #[sy] 39)
 have z1 := size_al W3 (.cells #[sy] 39)
 have HP4 : Hid _ := HP2.out.on a1
 obtain ⟨W4, hW4⟩ := xj (W3.alloc (.cells #[sy] 39))
 rw [hW4] at a1 n1 z1 HP4
 have a2 := al (W := W4) (.cells #[iw (X.nsh : Int)] 3)
 have n2 := heap_alloc_new W4 (.cells #[iw (X.nsh : Int)] 3)
 have n1' : (W4.alloc (.cells #[iw (X.nsh : Int)] 3)).heap[W3.heap.size]? = some (.cells #[sy] 39 (0, 0)) := by rw [a2.block _ (lt_blk n1)]; exact n1
 obtain ⟨W5, hW5⟩ := xj (W4.alloc (.cells #[iw (X.nsh : Int)] 3))
 rw [hW5] at a2 n2 n1'
 have d0 : W4.cell? ⟨w.heap.size, 0, none⟩ = some (pz f.sb) := HP4.out.bc
 have d1 : W4.cell? ⟨f.sb, 1, none⟩ = some (iw (X.nsh : Int)) := block_cell HP4.out.sc.blk rfl
 have XS : Hid (Cx (f.In X.act) N w { f with ok := 1, xb := W3.heap.size, lb := W4.heap.size, ob := w.heap.size + 1, oq := o, lv := (X.nsh : Int), vp := sy } { X with op := o, ps := [], left := (X.nsh : Int) } [(w.heap.size + 1, #[iw o.k, sd o.key, sd o.val, sd o.to, iw o.lim], 44), (w.heap.size, #[pz f.sb], 24)] [(w.heap.size + 2, RZ, 41), (bq, #[iw 2, uu X.cl, uu X.n, uw X.sp, uu X.sl, .int .u64 0, .int .u32 0, sd o.key, sd o.to, iw 32, .int .u8 0, sy, sy], 53)] W5) := HP2.out.scan (Y := { X with op := o }) HC.out W3.heap.size W4.heap.size (w.heap.size + 1) (a1.trans (a2.mono (by omega))) n1' n2 (Nat.le_refl _) (by omega) (by simp)
 obtain ⟨bx, hbx⟩ := xj W3.heap.size
 have hlt0 : w.heap.size < W4.heap.size := World.block_lt_of_cell? _ _ d0
 have hlt1 : f.sb < W4.heap.size := World.block_lt_of_cell? _ _ d1
 have f0 : W5.cell? ⟨w.heap.size, 0, none⟩ = some (pz f.sb) := XS.out.bc
 have f1 : W5.cell? ⟨f.sb, 1, none⟩ = some (iw (X.nsh : Int)) := block_cell XS.out.sc.blk rfl
 clear HP2 HP4 n1 n2 n1' a1 a2
 go_wp2_with fail
 rw [z1, hbx] at XS
 clear d0 d1 f0 f1 hlt0 hlt1 hW4 hW5 hbx z1
 obtain ⟨X2, hX2⟩ : ∃ X2 : Ss, { X with op := o, ps := [], left := (X.nsh : Int) } = X2 := ⟨_, rfl⟩
 have HX2 : Hid ({ X with op := o, ps := [], left := (X.nsh : Int) } = X2) := hX2
 rw [hX2] at XS ⊢
 clear hX2
 have hns : X.nsh ≤ 8 := HU.out.ns.2
 obtain ⟨F2, hF2⟩ : ∃ F2 : Fo, { f with ok := 1, xb := bx, lb := bx + 1, ob := w.heap.size + 1, oq := o, lv := (X.nsh : Int), vp := sy } = F2 := ⟨_, rfl⟩
 have HF2 : Hid ({ f with ok := 1, xb := bx, lb := bx + 1, ob := w.heap.size + 1, oq := o, lv := (X.nsh : Int), vp := sy } = F2) := hF2
 rw [hF2] at XS
 clear hF2
 have HK2 : Hid (F2.sb = f.sb ∧ F2.xb = bx ∧ F2.lb = bx + 1 ∧ F2.ob = w.heap.size + 1 ∧ F2.ok = 1 ∧ F2.oq = o ∧ F2.lv = (X.nsh : Int) ∧ F2.gs = f.gs ∧ F2.gv = f.gv ∧ F2.la = f.la ∧ F2.lo = f.lo) := by show _ ∧ _; rw [← HF2.out]; exact ⟨rfl, rfl, rfl, rfl, rfl, rfl, rfl, rfl, rfl, rfl, rfl⟩
 have HY2 : Hid (X2.act = true ∧ X2.sq = X.sq ∧ X2.op = o ∧ X2.left = (X.nsh : Int) ∧ X2.asks = X.asks) := by show _ ∧ _; rw [← HX2.out]; exact ⟨HU.out.act, rfl, rfl, rfl, rfl⟩
 go_loopw [53] (fun i wr => ∃ (m : Nat) (f' : Fo), m ≤ X.nsh ∧ i = iw (m : Int) ∧ Hid (Cx (f.In X.act) N w f' (scanAsks X o m 0 X2) [(w.heap.size + 1, #[iw o.k, sd o.key, sd o.val, sd o.to, iw o.lim], 44), (w.heap.size, #[pz f.sb], 24)] [(w.heap.size + 2, RZ, 41), (bq, #[iw 2, uu X.cl, uu X.n, uw X.sp, uu X.sl, .int .u64 0, .int .u32 0, sd o.key, sd o.to, iw 32, .int .u8 0, sy, sy], 53)] wr) ∧ Hid (Lf F2 f' ∧ f'.la.length = f.la.length + m ∧ f'.lo.length = f.lo.length + m ∧ ∀ n, cntA (scanAsks X o m 0 X2).asks n = cntA X.asks n)) (fun i _ => X.nsh - (intOf i).toNat)
 case atStart => exact ⟨0, F2, Nat.zero_le _, rfl, XS, ⟨Lf.refl _, by rw [HK2.out.2.2.2.2.2.2.2.2.2.1]; rfl, by rw [HK2.out.2.2.2.2.2.2.2.2.2.2]; rfl, fun n => by show cntA X2.asks n = _; rw [HY2.out.2.2.2.2]⟩⟩
 case round =>
  obtain ⟨m, f', hmm, rfl, XM, GM⟩ := hrel
  clear XS
  obtain ⟨Xm, hXm⟩ := xj (scanAsks X o m 0 X2)
  have HXm : Hid (scanAsks X o m 0 X2 = Xm) := hXm
  rw [hXm] at XM GM
  have HKp : Hid (Xm.act = true ∧ Xm.sq = X.sq + m ∧ Xm.op = o ∧ Xm.left = (X.nsh : Int)) := by
   have k := scan_keep X o m 0 X2
   rw [hXm] at k
   exact ⟨k.1.trans HY2.out.1, by rw [k.2.1, HY2.out.2.1], k.2.2.2.1.trans HY2.out.2.2.1, k.2.2.2.2.1.trans HY2.out.2.2.2.1⟩
  clear hXm
  have hsb : f'.sb = f.sb := GM.out.1.sb.trans HK2.out.1
  by_cases hml : m < X.nsh
  ·have hmi : (m : Int) < X.nsh := by omega
   have e0 : wr.cell? ⟨w.heap.size, 0, none⟩ = some (pz f.sb) := XM.out.bc
   have eq : Hid (wr.heap[bq]? = some (.cells #[iw 2, uu X.cl, uu X.n, uw X.sp, uu X.sl, .int .u64 0, .int .u32 0, sd o.key, sd o.to, iw 32, .int .u8 0, sy, sy] 53 (0, 0))) := XM.out.bm (by simp)
   have C80 : Hid (1 = 1 → Calls Tryz.prog 80 #[pz f.sb, iw (m : Int), .agg #[iw 2, uu X.cl, uu X.n, uw X.sp, uu X.sl, .int .u64 0, .int .u32 0, sd o.key, sd o.to, iw 32, .int .u8 0, sy, sy], .func (.func 84) #[] #[pz w.heap.size, pz bx, .pointer (some ⟨bx + 1, 0, none⟩), .pointer (some ⟨w.heap.size + 1, 0, none⟩)]] wr fun e w' => e = .returned (.tuple #[]) ∧ ∃ f2, Cx (f.In X.act) N w f2 (scanAsks X o (m + 1) 0 X2) [(w.heap.size + 1, #[iw o.k, sd o.key, sd o.val, sd o.to, iw o.lim], 44), (w.heap.size, #[pz f.sb], 24)] [(w.heap.size + 2, RZ, 41), (bq, #[iw 2, uu X.cl, uu X.n, uw X.sp, uu X.sl, .int .u64 0, .int .u32 0, sd o.key, sd o.to, iw 32, .int .u8 0, sy, sy], 53)] w' ∧ (Lf F2 f2 ∧ f2.la.length = f.la.length + (m + 1) ∧ f2.lo.length = f.lo.length + (m + 1) ∧ ∀ n, cntA (scanAsks X o (m + 1) 0 X2).asks n = cntA X.asks n)) := fun _ => by
    obtain ⟨l1, l2, l3, l4⟩ := GM.out
    have hx2 : f'.xb = bx := l1.xb.trans HK2.out.2.1
    have hl2 : f'.lb = bx + 1 := l1.lb.trans HK2.out.2.2.1
    have ho2 : f'.ob = w.heap.size + 1 := l1.ob.trans HK2.out.2.2.2.1
    have s1 : Fx (f'.Ex (Nm N [(w.heap.size + 2, RZ, 41), (bq, #[iw 2, uu X.cl, uu X.n, uw X.sp, uu X.sl, .int .u64 0, .int .u32 0, sd o.key, sd o.to, iw 32, .int .u8 0, sy, sy], 53)]) Xm.act) wr w.heap.size #[pz f'.sb] 24 := by rw [hsb]; exact XM.out.fx (by simp)
    have hd : DoAt (f'.Ex (Nm N [(w.heap.size + 2, RZ, 41), (bq, #[iw 2, uu X.cl, uu X.n, uw X.sp, uu X.sl, .int .u64 0, .int .u32 0, sd o.key, sd o.to, iw 32, .int .u8 0, sy, sy], 53)]) Xm.act) f' wr 2 (.func (.func 84) #[] #[pz w.heap.size, pz bx, .pointer (some ⟨bx + 1, 0, none⟩), .pointer (some ⟨w.heap.size + 1, 0, none⟩)]) := ⟨w.heap.size, s1, (fun e => absurd e (by decide)), (fun _ => by rw [hx2, hl2, ho2]), (fun e => absurd e (by decide))⟩
    have hrm : Room f' Xm := ⟨by rw [HKp.out.2.1]; have := HU.out.rm.sq; omega, by rw [l2]; have := HU.out.rm.la; omega, by rw [l3]; have := HU.out.rm.lo; omega⟩
    have k := try80 XM.out.sc (fun k hk => (XM.out.nok k hk).1) hrm m (Rq.wt { zQ with k := 2, c := X.cl, n := X.n, sp := X.sp, sl := X.sl, key := o.key, lim := 32 } o.to) sy sy rfl rfl (.func 84) #[] _ #[iw 2, uu X.cl, uu X.n, uw X.sp, uu X.sl, .int .u64 0, .int .u32 0, sd o.key, sd o.to, iw 32, .int .u8 0, sy, sy] rfl (by omega) (qf_nil _ _ _ rfl rfl) (show (2 : Int) ≤ 3 by decide) hd
    rw [hsb] at k
    have hsn : scanAsks X o (m + 1) 0 X2 = askF Xm (akF m (Rq.wt { zQ with k := 2, c := X.cl, n := X.n, sp := X.sp, sl := X.sl, key := o.key, lim := 32 } o.to)) := by rw [scan_snoc, HXm.out, Nat.zero_add]
    rw [hsn]
    exact k.mono fun e w' ⟨fv, h1, va, vo, h2⟩ => ⟨h1, _, XM.out.next h2, l1.trans (Lf.ask ..), by simp [Fo.ask, l2]; omega, by simp [Fo.ask, l3]; omega, fun n => by rw [cnt_ask rfl]; exact l4 n⟩
   have HM : Hid (m + 1 ≤ X.nsh) := hml
   clear XM GM hsb
   go_wp2_with (refine wpList_load_row rfl 53 _ rfl bq rfl 53 _ (0, 0) _ eq.out Tryz.underlying53 rfl (by kernel_rfl) ?_)
   refine (C80.out (by trivial)).mono ?_
   rintro e w6 ⟨rfl, f2, x6, g6⟩
   have X6 : Hid _ := x6
   have G6 : Hid _ := g6
   clear x6 g6 C80 e0 eq
   go_wp2_with fail
   go_roundw
   case measure =>
    show X.nsh - ((m : Int) + 1).toNat < X.nsh - ((m : Int)).toNat
    omega
   case rel => exact ⟨m + 1, f2, HM.out, by simp, X6, G6⟩
  ·have hme : m = X.nsh := by omega
   have hmi : ¬ (m : Int) < X.nsh := by omega
   have HD : Hid (scanAsks X o X.nsh 0 X2 = Xm) := by show _ = _; rw [← hme]; exact HXm.out
   have HB : Hid (Bd f' Xm) := by
    obtain ⟨l1, l2, l3, l4⟩ := GM.out
    refine ⟨fun _ => ⟨l1.ok.trans HK2.out.2.2.2.2.1, ?_, ?_⟩, fun e => ?_, fun n hn => ?_⟩
    ·rw [l1.lv, HK2.out.2.2.2.2.2.2.1, HKp.out.2.2.2]
    ·rw [l1.oq, HK2.out.2.2.2.2.2.1, HKp.out.2.2.1]
    ·rw [HKp.out.2.2.1, HO.out] at e
     exact absurd e (by decide)
    ·rw [l1.gs, HK2.out.2.2.2.2.2.2.2.1] at hn
     rw [l1.gv, HK2.out.2.2.2.2.2.2.2.2.1, l4]
     exact HU.out.bd.gs n hn
   have HS : Hid (f'.sb = f.sb) := hsb
   have hr := rsc_all zS sy rfl
   clear GM hme
   go_wp2_with (refine wpList_store_row rfl 41 _ _ rfl (w.heap.size + 2) (rsc zS sy).toArray rfl rfl 41 _ (XM.out.bm mc) (by kernel_rfl) rfl hr ?_)
   refine bj XM.out ?_
   rw [HX2.out, HD.out]
   exact ⟨rfl, _, (XM.out.poke (setRow_kept _ _ _) (setRow_at (XM.out.bm mc)) (fun pp hp => by rw [List.mem_singleton] at hp; subst hp; exact Nat.ne_of_gt HLT.out)).to, HS.out, HB.out⟩
theorem To.on (h : SC f N X W) (hb : Below W.heap.size W W') : To f N X.act W f X W' := ⟨h.on hb, Kept.of_below hb, fun i hi => .inl hi⟩
theorem refuseG (e : Int) (h : SC f N X w) (b : Bd f X) : Calls Tryz.prog 28 #[pz f.sb, iw e] w (Got f N X w X (badF X e)) :=
 (refuse28 e h).mono fun r w' ⟨h1, h2⟩ => ⟨h1, f, To.on h h2, rfl, b⟩
theorem tick_bt (p l ph : Nat) : Clk.tickF (p : Int) (l : Int) (ph : Int) = (((bt.tick p l ph).1 : Int), ((bt.tick p l ph).2.1 : Int), (bt.tick p l ph).2.2) := by
 show Clk.tickF (p : Int) (l : Int) (ph : Int) = (((Clk.tickF (p : Int) (l : Int) (ph : Int)).1.toNat : Int), ((Clk.tickF (p : Int) (l : Int) (ph : Int)).2.1.toNat : Int), (Clk.tickF (p : Int) (l : Int) (ph : Int)).2.2)
 rcases ht : Clk.tickF (p : Int) (l : Int) (ph : Int) with ⟨a, b, c⟩
 have h := Clk.tickF_ok (p : Int) (l : Int) (ph : Int) a b c ht (by omega) (by omega)
 have h1 : 0 ≤ a := by omega
 have h2 : 0 ≤ b := by omega
 rw [Int.toNat_of_nonneg h1, Int.toNat_of_nonneg h2]
structure Dn (f : Fo) (X : Ss) : Prop where
 bd : Bd f X
 ns : 1 ≤ X.nsh ∧ X.nsh ≤ 8
 ws : X.ws.length ≤ 1000
 rm : Rm f X 9
 so : ∀ i j, i ≤ j → j < X.ws.length → ¬ (X.ws.getD j dw).key < (X.ws.getD i dw).key
 n : X.n + 1 < 4294967296
 ch : X.op.k = 0 → ∀ a ∈ X.asks, a.ch = true
theorem Dn.un (d : Dn f X) (ha : X.act = true) (h : SC f N X W) (hn : Nok N f X.act W) : Un f N X 9 W := ⟨h, hn, d.bd, ha, d.ns, d.ws, d.rm⟩
theorem begin29 (h : SC f N X w) (hn : Nok N f X.act w) (d : Dn f X) (ph : Nat) (o : Op) (ho : X.op.k = 0) (hk : o.k = 1) : Calls Tryz.prog 29 #[pz f.sb, uw ph] w (Got f N X w (doF bt X ph o).1 (doF bt X ph o).2) := by
 unfold doF
 rw [if_neg (fun e => e ho), if_pos hk]
 cases ha : X.act
 ·simp only [Bool.false_eq_true, if_false]
  have ht := tick_bt X.np X.nl ph
  by_cases he : (bt.tick X.np X.nl ph).2.2 = 0
  ·rw [if_neg (fun e => e he)]
   rw [he] at ht
   exact begin29c h hn d.bd ph ha _ _ ht d.n
  ·rw [if_pos he]
   exact begin29b h hn d.bd ph ha _ _ _ ht he
 ·simp only [if_true]
  exact begin29a h hn d.bd ph ha
theorem do11 (h : SC f N X w) (hn : Nok N f X.act w) (d : Dn f X) (ph : Nat) (o : Op) (hk : o.k ≠ 4 ∧ o.k ≠ 5 ∧ o.k ≠ 6) : Calls Tryz.prog 11 #[pz f.sb, uw ph, .agg #[iw o.k, sd o.key, sd o.val, sd o.to, iw o.lim]] w (Got f N X w (doF bt X ph o).1 (doF bt X ph o).2) := by
 by_cases ho : X.op.k = 0
 ·by_cases h1 : o.k = 1
  ·exact do11_1 h hn ph o ho h1 _ _ fun N' W h' hn' => begin29 h' hn' d ph o ho h1
  ·cases ha : X.act
   ·have e : doF bt X ph o = (X, badF X 41) := by unfold doF; rw [if_neg (fun e => e ho), if_neg h1, if_pos ha]
    rw [e]
    exact do11_none h hn ph o ho ha h1 _ _ fun N' W h' hn' => refuseG 41 h' d.bd
   ·by_cases h2 : o.k = 2
    ·refine do11_2 h hn ph o ho ha h2 _ _ fun N' W h' hn' => ?_
     have u := d.un ha h' hn'
     unfold doF
     rw [if_neg (fun e => e ho), if_neg h1, if_neg (by rw [ha]; decide), if_neg hk.1, if_neg hk.2.1, if_pos h2]
     cases hko : kOk o.key
     ·rw [if_pos (show bt.key o.key = false from hko)]
      exact get30a u o.key hko
     ·rw [if_neg (show ¬ bt.key o.key = false from fun e => by rw [show bt.key o.key = kOk o.key from rfl, hko] at e; cases e)]
      cases hlk : lookF o.key X.ws with
      | none => exact get30c u o.key hko d.so hlk o h2
      | some x => exact get30b u o.key hko d.so x hlk
    ·by_cases h3 : o.k = 3
     ·refine do11_3 h hn ph o ho ha h3 _ _ fun N' W h' hn' => ?_
      have u := d.un ha h' hn'
      unfold doF
      rw [if_neg (fun e => e ho), if_neg h1, if_neg (by rw [ha]; decide), if_neg hk.1, if_neg hk.2.1, if_neg h2, if_pos h3]
      by_cases hl : 32 < o.key.length ∨ 32 < o.to.length
      ·rw [if_pos hl]
       exact scan31a u o hl
      ·rw [if_neg hl]
       exact scan31b u (d.ch ho) o h3 (fun e => hl (.inl e)) (fun e => hl (.inr e))
     ·by_cases h7 : o.k = 7
      ·refine do11_7 h hn ph o ho ha h7 _ _ fun N' W h' hn' => ?_
       unfold doF
       rw [if_neg (fun e => e ho), if_neg h1, if_neg (by rw [ha]; decide), if_neg hk.1, if_neg hk.2.1, if_neg h2, if_neg h3, if_neg hk.2.2, if_pos h7]
       exact abort34 h' hn' d.bd
      ·have e : doF bt X ph o = (X, badF X 1) := by
        unfold doF
        rw [if_neg (fun e => e ho), if_neg h1, if_neg (by rw [ha]; decide), if_neg hk.1, if_neg hk.2.1, if_neg h2, if_neg h3, if_neg hk.2.2, if_neg h7]
       rw [e]
       exact do11_bad h hn ph o ho ha (by obtain ⟨h4, h5, h6⟩ := hk; omega) _ _ fun N' W h' hn' => refuseG 1 h' d.bd
 ·have e : doF bt X ph o = (X, badF X 40) := by unfold doF; rw [if_pos ho]
  rw [e]
  exact do11_busy h hn ph o ho _ _ fun N' W h' hn' => refuseG 40 h' d.bd
theorem commit33a (u : Un f N X 9 w) (hw : X.ws = []) : Calls Tryz.prog 33 #[pz f.sb] w (Got f N X w { X with act := false } { resF X 4 with ap := X.sp, al := X.sl }) := by
 have X0 := (Cx.start (Lo := []) u.sc u.nk nb).box11 #[pz f.sb] 24 RZ 41
 obtain ⟨W1, hW1⟩ := xj ((w.alloc (.cells #[pz f.sb] 24)).alloc (.cells RZ 41))
 rw [hW1] at X0
 obtain ⟨ao, cap, hv, -, -⟩ := WsAt.shape (rw_own (u.sc.tx u.act).2)
 rw [hw] at hv
 have hv0 : f.vw = .slice ao 0 cap := hv
 have c1 : W1.cell? ⟨w.heap.size, 0, none⟩ = some (pz f.sb) := X0.bc
 have p6 : W1.cell? ⟨f.sb, 6, none⟩ = some (pz f.tb) := block_cell X0.sc.blk (by simp [sbA, vtV, u.act])
 have p4 : W1.cell? ⟨f.tb, 4, none⟩ = some (.slice ao 0 cap) := by rw [← hv0]; exact block_cell (X0.sc.tx u.act).1 rfl
 have HA : Hid (X.act = true) := u.act
 have HB : Hid (Bd f X) := u.bd
 have hz : (resF X 4).er = 0 := by unfold resF; split <;> rfl
 have SN : Hid (∀ Lm W, Cx (f.In X.act) N w f X [(w.heap.size, #[pz f.sb], 24)] Lm W → W.cell? ⟨w.heap.size, 0, none⟩ = some (pz f.sb) ∧ W.cell? ⟨f.tb, 2, none⟩ = some (uw X.sp) ∧ W.cell? ⟨f.tb, 3, none⟩ = some (uu X.sl)) := fun Lm W c => ⟨c.bc, block_cell (c.sc.tx HA.out).1 rfl, block_cell (c.sc.tx HA.out).1 rfl⟩
 have C76 : Hid (∀ Lm W, Cx (f.In X.act) N w f X [(w.heap.size, #[pz f.sb], 24)] Lm W → Calls Tryz.prog 76 #[pz f.sb, iw 4, .agg #[uw X.sp, uu X.sl]] W fun e w' => e = .returned (rsV { resF X 4 with ap := X.sp, al := X.sl }) ∧ Cx (f.In X.act) N w f X [(w.heap.size, #[pz f.sb], 24)] Lm w') := fun Lm W c => (toldAt76 4 X.sp X.sl c.sc).mono fun e w' ⟨h1, h2⟩ => ⟨h1, c.on h2⟩
 have HX : Hid (Cx (f.In X.act) N w f X [(w.heap.size, #[pz f.sb], 24)] [(w.heap.size + 1, RZ, 41)] W1.drew) := X0.drew
 clear u X0 hw hv hv0 hz
 go_enter Tryz.func33, Tryz.ntmps33
 go_upto_region 3 with fail
 go_cut [4] (fun s4 wc => ∃ bt', s4 = .pointer (some ⟨bt', 0, none⟩) ∧ Hid (w.heap.size + 1 < bt') ∧ Hid (Cx (f.In X.act) N w f X [(w.heap.size, #[pz f.sb], 24)] ((bt', (rsc { resF X 4 with ap := X.sp, al := X.sl } sy).toArray, 41) :: [(w.heap.size + 1, RZ, 41)]) wc))
 case first =>
  refine wp_region_held_drew (S := (fun W => W.cell? ⟨w.heap.size, 0, none⟩ = some (pz f.sb) ∧ W.cell? ⟨f.tb, 2, none⟩ = some (uw X.sp) ∧ W.cell? ⟨f.tb, 3, none⟩ = some (uu X.sl))) (by kernel_rfl) (SN.out _ _ HX.out) (fun hHeld => ?_)
  refine tw 0 ?_
  refine tq 1 ?_
  refine tq 2 ?_
  refine tq 3 ?_
  refine tw 4 ?_
  refine wpAnyH_ready (rs := [5, 6]) (by kernel_rfl) (by simp) ?_
  refine AllReadyH.cons rfl (fun K hK => ?_) (AllReadyH.cons rfl (fun K hK => ?_) AllReadyH.nil)
  ·go_simp
   refine (C76.out _ _ HX.out).mono ?_
   rintro e w3 ⟨rfl, h3⟩
   have HY : Hid _ := h3
   clear h3 HX
   have HX := HY
   clear HY
   unfold rsV
   go_wp2_with fail
   refine kj hK (SN.out _ _ HX.out) (fun hHeld => ?_)
   clear hK K
   refine rd 6 (fun K hK => ?_)
   ·go_simp
    have HL : Hid _ := lt_blk (HX.out.bm mc)
    have HY : Hid _ := HX.out.newm RZ 41
    clear HX
    have HX := HY
    clear HY
    refine kj hK (SN.out _ _ HX.out) (fun hHeld => ?_)
    clear hK K
    refine rd 7 (fun K hK => ?_)
    rw [if_pos (by rfl)]
    refine wp_store_row 41 _ _ rfl _ _ rfl rfl 41 _ (HX.out.bm mc) (by kernel_rfl) rfl (rsc_all _ _ rfl) ?_
    have HY : Hid _ := HX.out.poke (setRow_kept _ _ (rsc { resF X 4 with ap := X.sp, al := X.sl } sy).toArray) (setRow_at (HX.out.bm mc)) (fun pp hp => by rw [List.mem_singleton] at hp; subst hp; exact Nat.ne_of_lt HL.out)
    clear HX
    have HX := HY
    clear HY
    refine kj hK (SN.out _ _ HX.out) (fun hHeld => ?_)
    clear hK K
    refine wpAnyH_done (by kernel_rfl) ?_ _
    go_wp2_with fail
    go_meet
    case rel => exact ⟨_, rfl, HL, HX⟩
  ·go_simp
   have HL : Hid _ := lt_blk (HX.out.bm mc)
   have HY : Hid _ := HX.out.newm RZ 41
   clear HX
   have HX := HY
   clear HY
   refine kj hK (SN.out _ _ HX.out) (fun hHeld => ?_)
   clear hK K
   refine rd 5 (fun K hK => ?_)
   ·go_simp
    refine (C76.out _ _ HX.out).mono ?_
    rintro e w3 ⟨rfl, h3⟩
    have HY : Hid _ := h3
    clear h3 HX
    have HX := HY
    clear HY
    unfold rsV
    go_wp2_with fail
    refine kj hK (SN.out _ _ HX.out) (fun hHeld => ?_)
    clear hK K
    refine rd 7 (fun K hK => ?_)
    rw [if_pos (by rfl)]
    refine wp_store_row 41 _ _ rfl _ _ rfl rfl 41 _ (HX.out.bm mc) (by kernel_rfl) rfl (rsc_all _ _ rfl) ?_
    have HY : Hid _ := HX.out.poke (setRow_kept _ _ (rsc { resF X 4 with ap := X.sp, al := X.sl } sy).toArray) (setRow_at (HX.out.bm mc)) (fun pp hp => by rw [List.mem_singleton] at hp; subst hp; exact Nat.ne_of_lt HL.out)
    clear HX
    have HX := HY
    clear HY
    refine kj hK (SN.out _ _ HX.out) (fun hHeld => ?_)
    clear hK K
    refine wpAnyH_done (by kernel_rfl) ?_ _
    go_wp2_with fail
    go_meet
    case rel => exact ⟨_, rfl, HL, HX⟩
 case rest =>
  obtain ⟨bt', rfl, HL, HQ⟩ := hcut
  clear HX SN C76 c1 p6 p4 hW1
  have d1 : wc.cell? ⟨w.heap.size, 0, none⟩ = some (pz f.sb) := HQ.out.bc
  have d6 : wc.cell? ⟨f.sb, 6, none⟩ = some (vtV f.tb X.act) := block_cell HQ.out.sc.blk rfl
  have g6 : wc.frozen? ⟨f.sb, 6, none⟩ = false := block_frozen HQ.out.sc.blk 6
  have X5 : Hid (Cx (f.In X.act) N w f { X with act := false } [(w.heap.size, #[pz f.sb], 24)] ((bt', (rsc { resF X 4 with ap := X.sp, al := X.sl } sy).toArray, 41) :: [(w.heap.size + 1, RZ, 41)]) (wc.setCell ⟨f.sb, 6, none⟩ (.pointer none))) := HQ.out.next (HQ.out.sc.end (set_kept' wc f.sb 6 _) (block_set (j := 6) (.pointer none) HQ.out.sc.blk))
  obtain ⟨W5, hW5⟩ := xj (wc.setCell ⟨f.sb, 6, none⟩ (.pointer none))
  rw [hW5] at X5
  have X6 : Hid _ := X5.out.swapm
  have HBd : Hid (Bd f { X with act := false }) := ⟨HB.out.sc, HB.out.co, HB.out.gs⟩
  generalize vtV f.tb X.act = v6 at *
  clear HQ
  go_wp2_with (first
   | (refine wpList_load_row rfl 41 _ rfl bt' rfl 41 _ (0, 0) _ (X5.out.bm mc) Tryz.underlying41 rfl (by kernel_rfl) ?_)
   | (refine sr X6.out ?_))
  refine bj X6.out ?_
  exact ⟨rfl, _, (X6.out.poke (setRow_kept _ _ _) (setRow_at (X6.out.bm mc)) (fun p hp => by rw [List.mem_singleton] at hp; subst hp; exact Nat.ne_of_gt HL.out)).to, rfl, HBd.out⟩
theorem hear48 (cl : Nat) (x : Ax) (bl sh sq : Nat) (w : World) (h1 : w.cell? ⟨bl, 1, none⟩ = some (.int .u32 (sh : Int))) (h2 : w.cell? ⟨bl, 2, none⟩ = some (.int .u32 (sq : Int))) : Calls Tryz.prog 48 (#[.agg (axc cl x).toArray] ++ #[pz bl]) w fun e w' => e = .returned (.bool (x.a.sq == sq && x.a.sh == sh)) ∧ Below w.heap.size w w' := by
 obtain ⟨z, hz⟩ := xj (axc cl x).toArray
 have z1 : z[1]? = some (.int .u32 (x.a.sh : Int)) := by rw [← hz]; rfl
 have z2 : z[2]? = some (.int .u32 (x.a.sq : Int)) := by rw [← hz]; rfl
 rw [hz]
 have HX : Hid ((w.alloc (.cells z 99)).heap[w.heap.size]? = some (.cells z 99 (0, 0))) := heap_alloc_new w _
 have p1 : (w.alloc (.cells z 99)).cell? ⟨w.heap.size, 1, none⟩ = some (.int .u32 (x.a.sh : Int)) := block_cell HX.out z1
 have p2 : (w.alloc (.cells z 99)).cell? ⟨w.heap.size, 2, none⟩ = some (.int .u32 (x.a.sq : Int)) := block_cell HX.out z2
 have HB : Hid (Below w.heap.size w (w.alloc (.cells z 99))) := al _
 have hl : bl < w.heap.size := World.block_lt_of_cell? _ _ h1
 have e1 : ((x.a.sq : Int) == (sq : Int)) = (x.a.sq == sq) := by rw [Bool.eq_iff_iff]; simp only [beq_iff_eq]; omega
 have e2 : ((x.a.sh : Int) == (sh : Int)) = (x.a.sh == sh) := by rw [Bool.eq_iff_iff]; simp only [beq_iff_eq]; omega
 rw [← e1, ← e2]
 generalize (x.a.sh : Int) = a at *
 generalize (x.a.sq : Int) = b at *
 clear hz z1 z2 HX e1 e2
 show Calls Tryz.prog 48 #[.agg z, pz bl] w _
 cases hb : (b == (sq : Int))
 ·go_enter Tryz.func48, Tryz.ntmps48
  go_wp2_with fail
  go_ret
  exact ⟨rfl, HB.out⟩
 ·go_enter Tryz.func48, Tryz.ntmps48
  go_wp2_with fail
  go_ret
  exact ⟨rfl, HB.out⟩
theorem new8 (cl nsh : Nat) (hc : cl < 4) (hs : 1 ≤ nsh ∧ nsh ≤ 8) (w : World) : Calls Tryz.prog 8 #[iw (cl : Int), iw (nsh : Int)] w fun e w' => e = .returned (.tuple #[pz w.heap.size, iw 0]) ∧ Below w.heap.size w w' ∧ w'.heap[w.heap.size]? = some (.cells #[.int .u32 (cl : Int), iw (nsh : Int), .int .u64 0, .int .u32 0, .int .u32 0, .int .u32 0, .pointer none, .nilFunc, .slice none 0 0, .slice none 0 0] 77 (0, 0)) := by
 have a1 : ¬ (cl : Int) < 0 := by omega
 have a2 : ¬ (4 : Int) ≤ (cl : Int) := by omega
 have a3 : ¬ (nsh : Int) < 1 := by omega
 have a4 : ¬ (8 : Int) < (nsh : Int) := by omega
 have a5 : (cl : Int) < 4294967296 := by omega
 have HB : Hid (Below w.heap.size w (w.alloc (.cells #[.int .u32 (cl : Int), iw (nsh : Int), .int .u64 0, .int .u32 0, .int .u32 0, .int .u32 0, .pointer none, .nilFunc, .slice none 0 0, .slice none 0 0] 77))) := al _
 have HX : Hid ((w.alloc (.cells #[.int .u32 (cl : Int), iw (nsh : Int), .int .u64 0, .int .u32 0, .int .u32 0, .int .u32 0, .pointer none, .nilFunc, .slice none 0 0, .slice none 0 0] 77)).heap[w.heap.size]? = some (.cells #[.int .u32 (cl : Int), iw (nsh : Int), .int .u64 0, .int .u32 0, .int .u32 0, .int .u32 0, .pointer none, .nilFunc, .slice none 0 0, .slice none 0 0] 77 (0, 0))) := heap_alloc_new w _
 clear hc hs
 go_enter Tryz.func8, Tryz.ntmps8
 go_wp2_with fail
 go_ret2
 exact ⟨rfl, HB.out, HX.out⟩
theorem SC.fresh0 (cl nsh : Nat) (w : World) (h : W.heap[w.heap.size]? = some (.cells #[.int .u32 (cl : Int), iw (nsh : Int), .int .u64 0, .int .u32 0, .int .u32 0, .int .u32 0, .pointer none, .nilFunc, .slice none 0 0, .slice none 0 0] 77 (0, 0))) : SC ⟨w.heap.size, 0, .slice none 0 0, .slice none 0 0, .slice none 0 0, 0, 0, 0, 0, zO, 0, .slice none 0 0, [], fun _ => 0, fun _ => 0, [], []⟩ N (Ss.new cl nsh) W :=
 ⟨h, (fun e => by cases e), own_nil _ _ _ _, own_nil _ _ _ _, rfl, rfl, ⟨fun e => absurd rfl e, (fun e => by cases e), (fun e => by cases e), Nat.zero_le _⟩, (fun n e => by cases e), (fun n e => by cases e), (fun x e => by cases e), (fun x e => by cases e)⟩
theorem res_ps (k : Int) : (resF X k).ps = [] := by unfold resF; split <;> rfl
theorem stopF_ps (e : Int) : (stopF bt X e).2.ps = [] := by
 unfold stopF
 split
 ·exact res_ps 5
 ·show (badF (dropF X) e).ps = []
  exact res_ps 6
theorem lock_ps (a : Ak) (r : Rp) : (lockF bt X a r).2.ps = [] := by
 unfold lockF
 split
 ·exact stopF_ps 1
 ·rfl
theorem ans_get (u : Un f N X 9 w) (ho : X.op.k ≠ 0) (ht : X.op.k ≠ 6) (a : Ak) (ha : a.q.k = 1) (hsp : a.q.sp = X.sp ∧ a.q.sl = X.sl) (bs' bn bq bd : Nat) (hb : Bq (f.Ex N X.act) f w bs' bn bq bd a.sh a.q) (r : Rp) (vp : Value) :
  Calls Tryz.prog 117 #[.agg (rpc r vp).toArray, pz bs', pz bn, pz bq, pz bd] w (GotP f N X w (ansF bt X a r).1 (ansF bt X a r).2) := by
 have hk : 1 ≤ a.q.k ∧ a.q.k ≤ 3 := by omega
 by_cases h3 : r.k = 3
 ·have e : ansF bt X a r = lockF bt X a r := by unfold ansF; rw [if_pos h3]
  rw [e]
  exact (try117a u a.sh a.q hk bs' bn bq bd hb r vp ho (fun e => absurd e ht) (fun _ => hsp) a rfl rfl h3).mono fun e w' g => g.p (lock_ps a r)
 ·have hps : (ansF bt X a r).2.ps = [] := by
   unfold ansF
   rw [if_neg h3, ha]
   by_cases h1 : r.k = 1
   ·rw [if_pos ⟨rfl, h1⟩]
    exact res_ps 2
   ·rw [if_neg (fun e => h1 e.2), if_neg (fun e => absurd e.1 (by decide)), if_neg (fun e => absurd e.1 (by decide)), if_neg (fun e => absurd e.1 (by decide)), if_neg (fun e => absurd e.1 (by decide))]
    exact stopF_ps _
  refine try117b u a.sh a.q hk bs' bn bq bd hb r vp _ _ (fun fnum cp N' W u' hd _ => ?_) h3
  obtain ⟨b, hb', h1, -, -⟩ := hd
  have e := h1 ha
  injection e with e1 e2 e3
  injection e1 with e1
  subst e1
  subst e3
  exact (get81 u' b hb' r vp ho ht a ha h3).mono fun e w' g => g.p hps
theorem ans_lay (u : Un f N X 9 w) (ho : X.op.k = 6) (hs : X.stg = 1) (hl : 1 ≤ X.left ∧ X.left ≤ 8) (hne : X.ws ≠ []) (a : Ak) (ha : a.q.k = 3) (bs' bn bq bd : Nat) (hb : Bq (f.Ex N X.act) f w bs' bn bq bd a.sh a.q) (r : Rp) (vp : Value) :
  Calls Tryz.prog 117 #[.agg (rpc r vp).toArray, pz bs', pz bn, pz bq, pz bd] w (GotP f N X w (ansF bt X a r).1 (ansF bt X a r).2) := by
 have hk : 1 ≤ a.q.k ∧ a.q.k ≤ 3 := by omega
 by_cases h3 : r.k = 3
 ·have e : ansF bt X a r = lockF bt X a r := by unfold ansF; rw [if_pos h3]
  rw [e]
  exact (try117a u a.sh a.q hk bs' bn bq bd hb r vp (by rw [ho]; decide) (fun _ => hs) (fun e => absurd ha e) a rfl rfl h3).mono fun e w' g => g.p (lock_ps a r)
 ·have hps : (ansF bt X a r).2.ps = [] := by
   unfold ansF
   rw [if_neg h3, ha, if_neg (fun e => absurd e.1 (by decide)), if_neg (fun e => absurd e.1 (by decide))]
   split
   ·rfl
   ·split
    ·exact res_ps 5
    ·split
     ·exact res_ps 5
     ·exact stopF_ps _
  refine try117b u a.sh a.q hk bs' bn bq bd hb r vp _ _ (fun fnum cp N' W u' hd _ => ?_) h3
  obtain ⟨b, hb', -, -, h1⟩ := hd
  have e := h1 ha
  injection e with e1 e2 e3
  injection e1 with e1
  subst e1
  subst e3
  exact (com92 u' b hb' r vp ho hs hl hne a ha h3).mono fun e w' g => g.p hps
def Then (fv : Value) (rc : Array Value) (w : World) (Q : Ending → World → Prop) : Prop := ∃ fnum cp, fv = .func (.func fnum) #[] cp ∧ (∀ args w, (callFunc fnum args).run Tryz.prog w = .ok (.enter fnum args) w) ∧ Calls Tryz.prog fnum (#[.agg rc] ++ cp) w Q
theorem ent117 : ∀ args w, (callFunc 117 args).run Tryz.prog w = .ok (.enter 117 args) w := enters_of Tryz.func117 (by kernel_rfl) rfl
theorem ent148 : ∀ args w, (callFunc 148 args).run Tryz.prog w = .ok (.enter 148 args) w := enters_of Tryz.func148 (by kernel_rfl) rfl
theorem ent162 : ∀ args w, (callFunc 162 args).run Tryz.prog w = .ok (.enter 162 args) w := enters_of Tryz.func162 (by kernel_rfl) rfl
theorem ent134 : ∀ args w, (callFunc 134 args).run Tryz.prog w = .ok (.enter 134 args) w := enters_of Tryz.func134 (by kernel_rfl) rfl
theorem ent156 : ∀ args w, (callFunc 156 args).run Tryz.prog w = .ok (.enter 156 args) w := enters_of Tryz.func156 (by kernel_rfl) rfl
theorem then_get (u : Un f N X 9 w) (ho : X.op.k ≠ 0) (ht : X.op.k ≠ 6) (x : Ax) (hx : AkIs (f.Ex N X.act) f X w x) (hc : x.a.ch = false) (hst : x.a.st = 0) (ha : x.a.q.k = 1) (hsp : x.a.q.sp = X.sp ∧ x.a.q.sl = X.sl) (r : Rp) (vp : Value) : Then x.fv (rpc r vp).toArray w (GotP f N X w (ansF bt X x.a r).1 (ansF bt X x.a r).2) := by
 obtain ⟨bs', bn, bq, bd, h1, h2⟩ := hx.tr hc hst (by omega)
 exact ⟨117, _, h1, ent117, ans_get u ho ht x.a ha hsp bs' bn bq bd h2 r vp⟩
theorem then_lay (u : Un f N X 9 w) (ho : X.op.k = 6) (hs : X.stg = 1) (hl : 1 ≤ X.left ∧ X.left ≤ 8) (hne : X.ws ≠ []) (x : Ax) (hx : AkIs (f.Ex N X.act) f X w x) (hc : x.a.ch = false) (hst : x.a.st = 0) (ha : x.a.q.k = 3) (r : Rp) (vp : Value) : Then x.fv (rpc r vp).toArray w (GotP f N X w (ansF bt X x.a r).1 (ansF bt X x.a r).2) := by
 obtain ⟨bs', bn, bq, bd, h1, h2⟩ := hx.tr hc hst (by omega)
 exact ⟨117, _, h1, ent117, ans_lay u ho hs hl hne x.a ha bs' bn bq bd h2 r vp⟩
theorem push_ps (a : Ak) (r : Rp) : (pushF bt X a r).2.ps = [] := by
 unfold pushF
 split
 ·rfl
 ·split
  ·rfl
  ·split
   ·split
    ·exact res_ps 5
    ·split
     ·exact res_ps 6
     ·rfl
   ·exact stopF_ps _
theorem then_push (u : Un f N X 9 w) (ho : X.op.k ≠ 0) (x : Ax) (hx : AkIs (f.Ex N X.act) f X w x) (hc : x.a.ch = false) (hst : x.a.st = 1) (hm : x.a.hm < 4294967296) (hk : 1 ≤ x.a.was.k ∧ x.a.was.k ≤ 3) (ht3 : x.a.was.k = 3 → X.op.k = 6 ∧ X.stg = 1) (hn3 : x.a.was.k ≠ 3 → X.op.k ≠ 6) (r : Rp) (vp : Value) : Then x.fv (rpc r vp).toArray w (GotP f N X w (pushF bt X x.a r).1 (pushF bt X x.a r).2) := by
 obtain ⟨bs', bn, bq, bd, bw, bt', h1, h2, h3, h4⟩ := hx.pu hc hst
 exact ⟨148, _, h1, ent148, (push148 u x.a.hm hm x.a.was hk bs' bn bq bd bw bt' x.a.lk h2 h3 h4 r vp ho ht3 hn3 x.a rfl rfl rfl).mono fun e w' g => g.p (push_ps x.a r)⟩
theorem then_unl (u : Un f N X 9 w) (ho : X.op.k ≠ 0) (hs : X.op.k = 6 → X.stg = 1) (x : Ax) (hx : AkIs (f.Ex N X.act) f X w x) (hc : x.a.ch = false) (hst : x.a.st = 2) (hm : x.a.hm < 4294967296) (hk : 1 ≤ x.a.was.k ∧ x.a.was.k ≤ 3) (r : Rp) (vp : Value) : Then x.fv (rpc r vp).toArray w (GotP f N X w (if r.k = 0 then stopF bt X (wrongF r) else (askF X (akF x.a.hm x.a.was), zS)).1 (if r.k = 0 then stopF bt X (wrongF r) else (askF X (akF x.a.hm x.a.was), zS)).2) := by
 obtain ⟨bs', bn, bq, bd, h1, h2⟩ := hx.un hc hst
 refine ⟨162, _, h1, ent162, (unl162 u ho hs x.a.hm hm x.a.was hk bs' bn bq bd h2 r vp).mono fun e w' g => g.p ?_⟩
 split
 ·exact stopF_ps _
 ·rfl
theorem then_c0 (h : SC f N X w) (b : Bd f X) (x : Ax) (hx : AkIs (f.Ex N X.act) f X w x) (hc : x.a.ch = true) (hk : x.a.q.k ≠ 5) (r : Rp) (vp : Value) : Then x.fv (rpc r vp).toArray w (GotP f N X w X zS) :=
 ⟨134, #[], hx.c0 hc hk, ent134, (not134 (rpc r vp).toArray w).mono fun e w' ⟨h1, h2⟩ => Got.p ⟨h1, f, To.on h h2, rfl, b⟩ rfl⟩
theorem cnt_any (L : List Ak) (c n : Nat) (h : ∀ y ∈ L, y.ch = true → y.oc = c) : (L.any fun x => x.ch && x.oc == c && x.on == n && x.q.k == 5) = decide (cntA L n ≠ 0) := by
 rw [Bool.eq_iff_iff, decide_eq_true_iff, List.any_eq_true]
 unfold cntA
 constructor
 ·rintro ⟨y, hy, h1⟩
  simp only [Bool.and_eq_true, beq_iff_eq] at h1
  have hm : y ∈ L.filter fun a => a.ch && a.q.k == 5 && a.on == n := List.mem_filter.2 ⟨hy, by simp [h1.1.1.1, h1.2, h1.1.2]⟩
  intro e
  rw [List.length_eq_zero_iff] at e
  rw [e] at hm
  cases hm
 ·intro h0
  obtain ⟨y, hy⟩ := List.exists_mem_of_length_pos (Nat.pos_of_ne_zero h0)
  obtain ⟨h1, h2⟩ := List.mem_filter.1 hy
  simp only [Bool.and_eq_true, beq_iff_eq] at h2
  exact ⟨y, h1, by simp [h2.1.1, h2.1.2, h2.2, h y h1 h2.1.1]⟩
theorem then_c5 (h : SC f N X w) (hn : Nok N f X.act w) (rm : Room f X) (x : Ax) (hx : AkIs (f.Ex N X.act) f X w x) (hc : x.a.ch = true) (hk5 : x.a.q.k = 5) (hfi : x.a.fi < 4294967296) (hoc : x.a.oc = X.cl) (hos : ∀ y ∈ X.asks, y.ch = true → y.oc = X.cl)
  (hsc : X.op.k = 3 → f.ok = 1 ∧ f.lv = X.left ∧ f.oq = X.op) (hco : X.op.k = 6 → X.stg = 1 → f.ok = 2 ∧ f.lv = X.left) (hg : ∀ m ∈ f.gs, f.gv m = (cntA X.asks m : Int) + if m = x.a.on then 1 else 0) (hcnt : cntA X.asks x.a.on < 1048576) (r : Rp) (vp : Value) (hr0 : r.k ≠ 0) : Then x.fv (rpc r vp).toArray w (GotP f N X w (choreF X x.a r) zS) := by
 obtain ⟨bf, bs', bh, bt', g1, g2, g3, g4, g5, g6⟩ := hx.c5 hc hk5
 have hL : f.gv x.a.on = (cntA X.asks x.a.on : Int) + 1 := by rw [hg _ g1, if_pos rfl]
 have hbd : Bd { f with gv := fun m => if m = x.a.on then (cntA X.asks x.a.on : Int) else f.gv m } X := ⟨hsc, hco, fun m hm => by
  by_cases e : m = x.a.on
  ·subst e
   simp
  ·have := hg m hm
   rw [if_neg e] at this
   simp only [e, if_false]
   rw [this]
   omega⟩
 refine ⟨156, _, g2, ent156, ?_⟩
 unfold choreF
 rw [if_neg hr0]
 by_cases hz : (cntA X.asks x.a.on : Int) = 0 ∧ r.k = 9
 ·rw [if_neg (fun e => e.elim (fun e => e hk5) (fun e => e hz.2)), hoc, cnt_any X.asks X.cl x.a.on hos, if_neg (by simp; omega)]
  exact (suc156b h hn rm x.a.on X.cl x.a.fi hfi bf bs' bh bt' g1 g3 g4 g5 g6 r vp _ _ hL (by omega) (by omega) hbd hz.1 hz.2).mono fun e w' g => g.p rfl
 ·have e : (if x.a.q.k ≠ 5 ∨ r.k ≠ 9 then X else if (X.asks.any fun x_1 => x_1.ch && x_1.oc == x.a.oc && x_1.on == x.a.on && x_1.q.k == 5) = true then X else doneF X x.a.oc x.a.on x.a.fi) = X := by
   by_cases h9 : r.k = 9
   ·rw [if_neg (fun e => e.elim (fun e => e hk5) (fun e => e h9)), hoc, cnt_any X.asks X.cl x.a.on hos, if_pos (by simp; omega)]
   ·rw [if_pos (.inr h9)]
  rw [e]
  exact (suc156a h hn rm x.a.on X.cl x.a.fi hfi bf bs' bh bt' g1 g3 g4 g5 g6 r vp _ _ hL (by omega) (by omega) hbd hz).mono fun e w' g => g.p rfl
end Go.Proofs.YtkdkgdollmmcnaaGreat
