import Derived.Test.YtkdkgdollmmcnaaGreatWbf
set_option maxHeartbeats 4000000
set_option maxRecDepth 100000
set_option linter.unusedVariables false
set_option linter.unusedSimpArgs false
namespace Go.Proofs.YtkdkgdollmmcnaaGreat
open Go.RowKit Go.Sort Go.Shelf
variable {M M' G N : Nat → Prop} {W W' w : World} {f f' : Fo} {X X' : Ss}
theorem rev157a (u : Un f N X 9 w) (b be : Nat) (er : Int) (hb : Fx (f.Ex N X.act) w b #[pz f.sb] 24) (he : Fx (f.Ex N X.act) w be #[iw er] 25) (r : Rp) (vp : Value) (hsu : ∀ N' W, Un f N' X 9 W → Calls Tryz.prog 139 #[pz f.sb, .agg #[uw r.ap, uu r.al]] W (Got f N' X W (commF bt X r.ap r.al).1 (commF bt X r.ap r.al).2)) (hr : r.k = 5) : Calls Tryz.prog 157 #[.agg (rpc r vp).toArray, pz b, pz be] w (Got f N X w (commF bt X r.ap r.al).1 (commF bt X r.ap r.al).2) := by
 obtain ⟨W1, hW1⟩ := xj ((w.alloc (.cells (rpc r vp).toArray 49)).alloc (.cells RZ 41))
 have X0 := nq (Cx.start u.sc u.nk (fc he (fc hb nb))) hW1
 have rb := X0.out.bx (b := w.heap.size) (cs := (rpc r vp).toArray) (ty := 49) (by simp)
 have k0 : W1.cell? ⟨w.heap.size, 0, none⟩ = some (iw r.k) := block_cell rb rfl
 have k9 : W1.cell? ⟨w.heap.size, 9, none⟩ = some (uw r.ap) := block_cell rb rfl
 have k10 : W1.cell? ⟨w.heap.size, 10, none⟩ = some (uu r.al) := block_cell rb rfl
 have c1 : W1.cell? ⟨b, 0, none⟩ = some (pz f.sb) := X0.out.bc
 have c2 : W1.cell? ⟨be, 0, none⟩ = some (iw er) := X0.out.bc
 have hr5 : (r.k == 5) = true := by rw [hr]; rfl
 have HC := gh (hsu _ _ (u.of X0.out)) X0.out
 clear u X0 hb he rb hr hsu
 go_enter Tryz.func157, Tryz.ntmps157
 go_wp2_with fail
 refine (HC.out (by trivial)).mono ?_
 clear k0 k9 k10 c1 c2 hW1
 rintro e w2 ⟨rfl, f', x2, hsb, hbd⟩
 have X2 : Hid _ := x2
 have HF : Hid _ := And.intro hsb hbd
 clear x2 hsb hbd HC
 unfold rsV
 go_wp2_with (refine sr X2.out ?_)
 refine bj X2.out ?_
 exact ej X2.out HF.out
theorem rev157b (u : Un f N X 9 w) (b be : Nat) (er : Int) (hb : Fx (f.Ex N X.act) w b #[pz f.sb] 24) (he : Fx (f.Ex N X.act) w be #[iw er] 25) (r : Rp) (vp : Value) (hr : r.k = 6) : Calls Tryz.prog 157 #[.agg (rpc r vp).toArray, pz b, pz be] w (Got f N X w (givenF bt X er).1 (givenF bt X er).2) := by
 obtain ⟨W1, hW1⟩ := xj ((w.alloc (.cells (rpc r vp).toArray 49)).alloc (.cells RZ 41))
 have X0 := nq (Cx.start u.sc u.nk (fc he (fc hb nb))) hW1
 have rb := X0.out.bx (b := w.heap.size) (cs := (rpc r vp).toArray) (ty := 49) (by simp)
 have k0 : W1.cell? ⟨w.heap.size, 0, none⟩ = some (iw r.k) := block_cell rb rfl
 have k9 : W1.cell? ⟨w.heap.size, 9, none⟩ = some (uw r.ap) := block_cell rb rfl
 have k10 : W1.cell? ⟨w.heap.size, 10, none⟩ = some (uu r.al) := block_cell rb rfl
 have c1 : W1.cell? ⟨b, 0, none⟩ = some (pz f.sb) := X0.out.bc
 have c2 : W1.cell? ⟨be, 0, none⟩ = some (iw er) := X0.out.bc
 have hr5 : (r.k == 5) = false := by rw [hr]; rfl
 have hr6 : (r.k == 6) = true := by rw [hr]; rfl
 have HC := gh (giveUp88 X0.out.sc X0.out.nok u.bd u.act u.ns u.ws (u.le (by decide)).rm er) X0.out
 clear u X0 hb he rb hr
 go_enter Tryz.func157, Tryz.ntmps157
 go_wp2_with fail
 refine (HC.out (by trivial)).mono ?_
 clear k0 k9 k10 c1 c2 hW1
 rintro e w2 ⟨rfl, f', x2, hsb, hbd⟩
 have X2 : Hid _ := x2
 have HF : Hid _ := And.intro hsb hbd
 clear x2 hsb hbd HC
 unfold rsV
 go_wp2_with (refine sr X2.out ?_)
 refine bj X2.out ?_
 exact ej X2.out HF.out
theorem rev157c (u : Un f N X 9 w) (b be : Nat) (er : Int) (hb : Fx (f.Ex N X.act) w b #[pz f.sb] 24) (he : Fx (f.Ex N X.act) w be #[iw er] 25) (r : Rp) (vp : Value) (hne : X.ws ≠ []) (hy : X.why = er) (hr5 : r.k ≠ 5) (hr6 : r.k ≠ 6) : Calls Tryz.prog 157 #[.agg (rpc r vp).toArray, pz b, pz be] w (Got f N X w (undoF bt X) zS) := by
 obtain ⟨W1, hW1⟩ := xj ((w.alloc (.cells (rpc r vp).toArray 49)).alloc (.cells RZ 41))
 have X0 := nq (Cx.start u.sc u.nk (fc he (fc hb nb))) hW1
 have rb := X0.out.bx (b := w.heap.size) (cs := (rpc r vp).toArray) (ty := 49) (by simp)
 have k0 : W1.cell? ⟨w.heap.size, 0, none⟩ = some (iw r.k) := block_cell rb rfl
 have k9 : W1.cell? ⟨w.heap.size, 9, none⟩ = some (uw r.ap) := block_cell rb rfl
 have k10 : W1.cell? ⟨w.heap.size, 10, none⟩ = some (uu r.al) := block_cell rb rfl
 have c1 : W1.cell? ⟨b, 0, none⟩ = some (pz f.sb) := X0.out.bc
 have c2 : W1.cell? ⟨be, 0, none⟩ = some (iw er) := X0.out.bc
 have h5b : (r.k == 5) = false := by simp [hr5]
 have h6b : (r.k == 6) = false := by simp [hr6]
 have HC := gh (revoke140 (u.of X0.out) hne er hy) X0.out
 clear u X0 hb he rb hr5 hr6 hne hy
 go_enter Tryz.func157, Tryz.ntmps157
 go_wp2_with fail
 refine (HC.out (by trivial)).mono ?_
 clear k0 k9 k10 c1 c2 hW1
 rintro e w2 ⟨rfl, f', x2, hsb, hbd⟩
 have X2 : Hid _ := x2
 have HF : Hid _ := And.intro hsb hbd
 clear x2 hsb hbd HC
 unfold rsV
 go_wp2_with (refine sr X2.out ?_)
 refine bj X2.out ?_
 exact ej X2.out HF.out
theorem rev157 (u : Un f N X 9 w) (b be : Nat) (er : Int) (hb : Fx (f.Ex N X.act) w b #[pz f.sb] 24) (he : Fx (f.Ex N X.act) w be #[iw er] 25) (r : Rp) (vp : Value) (hsu : ∀ N' W, Un f N' X 9 W → Calls Tryz.prog 139 #[pz f.sb, .agg #[uw r.ap, uu r.al]] W (Got f N' X W (commF bt X r.ap r.al).1 (commF bt X r.ap r.al).2)) (hne : X.ws ≠ []) (hy : X.why = er) (hs : X.stg ≠ 2) : Calls Tryz.prog 157 #[.agg (rpc r vp).toArray, pz b, pz be] w (Got f N X w (decF bt X r).1 (decF bt X r).2) := by
 unfold decF
 by_cases h5 : r.k = 5
 ·rw [if_pos h5]
  exact rev157a u b be er hb he r vp hsu h5
 ·rw [if_neg h5, if_neg (fun e => hs e.2)]
  by_cases h6 : r.k = 6
  ·rw [if_pos h6, hy]
   exact rev157b u b be er hb he r vp h6
  ·rw [if_neg h6, if_neg (fun e => hs e.2), if_neg hs]
   exact rev157c u b be er hb he r vp hne hy h5 h6
theorem dec138a (u : Un f N X 9 w) (b be p l : Nat) (hb : Fx (f.Ex N X.act) w b #[pz f.sb] 24) (he : Fx (f.Ex N X.act) w be #[uw p, uu l] 34) (r : Rp) (vp : Value) (hsu : ∀ N' W, Un f N' X 9 W → Calls Tryz.prog 139 #[pz f.sb, .agg #[uw r.ap, uu r.al]] W (Got f N' X W (commF bt X r.ap r.al).1 (commF bt X r.ap r.al).2)) (hr : r.k = 5) : Calls Tryz.prog 138 #[.agg (rpc r vp).toArray, pz b, pz be] w (Got f N X w (commF bt X r.ap r.al).1 (commF bt X r.ap r.al).2) := by
 obtain ⟨W1, hW1⟩ := xj ((w.alloc (.cells (rpc r vp).toArray 49)).alloc (.cells RZ 41))
 have X0 := nq (Cx.start u.sc u.nk (fc he (fc hb nb))) hW1
 have rb := X0.out.bx (b := w.heap.size) (cs := (rpc r vp).toArray) (ty := 49) (by simp)
 have k0 : W1.cell? ⟨w.heap.size, 0, none⟩ = some (iw r.k) := block_cell rb rfl
 have k9 : W1.cell? ⟨w.heap.size, 9, none⟩ = some (uw r.ap) := block_cell rb rfl
 have k10 : W1.cell? ⟨w.heap.size, 10, none⟩ = some (uu r.al) := block_cell rb rfl
 have c1 : W1.cell? ⟨b, 0, none⟩ = some (pz f.sb) := X0.out.bc
 have c2 : W1.cell? ⟨be, 0, none⟩ = some (uw p) := X0.out.bc
 have c3 : W1.cell? ⟨be, 1, none⟩ = some (uu l) := X0.out.bc
 have hr5 : (r.k == 5) = true := by rw [hr]; rfl
 have HC := gh (hsu _ _ (u.of X0.out)) X0.out
 clear u X0 hb he rb hr hsu
 go_enter Tryz.func138, Tryz.ntmps138
 go_wp2_with fail
 refine (HC.out (by trivial)).mono ?_
 clear k0 k9 k10 c1 c2 c3 hW1
 rintro e w2 ⟨rfl, f', x2, hsb, hbd⟩
 have X2 : Hid _ := x2
 have HF : Hid _ := And.intro hsb hbd
 clear x2 hsb hbd HC
 unfold rsV
 go_wp2_with (refine sr X2.out ?_)
 refine bj X2.out ?_
 exact ej X2.out HF.out
theorem dec138b (u : Un f N X 9 w) (b be p l : Nat) (hb : Fx (f.Ex N X.act) w b #[pz f.sb] 24) (he : Fx (f.Ex N X.act) w be #[uw p, uu l] 34) (r : Rp) (vp : Value) (hr : r.k = 6) : Calls Tryz.prog 138 #[.agg (rpc r vp).toArray, pz b, pz be] w (Got f N X w (givenF bt X 12).1 (givenF bt X 12).2) := by
 obtain ⟨W1, hW1⟩ := xj ((w.alloc (.cells (rpc r vp).toArray 49)).alloc (.cells RZ 41))
 have X0 := nq (Cx.start u.sc u.nk (fc he (fc hb nb))) hW1
 have rb := X0.out.bx (b := w.heap.size) (cs := (rpc r vp).toArray) (ty := 49) (by simp)
 have k0 : W1.cell? ⟨w.heap.size, 0, none⟩ = some (iw r.k) := block_cell rb rfl
 have k9 : W1.cell? ⟨w.heap.size, 9, none⟩ = some (uw r.ap) := block_cell rb rfl
 have k10 : W1.cell? ⟨w.heap.size, 10, none⟩ = some (uu r.al) := block_cell rb rfl
 have c1 : W1.cell? ⟨b, 0, none⟩ = some (pz f.sb) := X0.out.bc
 have c2 : W1.cell? ⟨be, 0, none⟩ = some (uw p) := X0.out.bc
 have c3 : W1.cell? ⟨be, 1, none⟩ = some (uu l) := X0.out.bc
 have hr5 : (r.k == 5) = false := by rw [hr]; rfl
 have hr7 : (r.k == 7) = false := by rw [hr]; rfl
 have hr6 : (r.k == 6) = true := by rw [hr]; rfl
 have HC := gh (giveUp88 X0.out.sc X0.out.nok u.bd u.act u.ns u.ws (u.le (by decide)).rm 12) X0.out
 clear u X0 hb he rb hr
 go_enter Tryz.func138, Tryz.ntmps138
 go_wp2_with fail
 refine (HC.out (by trivial)).mono ?_
 clear k0 k9 k10 c1 c2 c3 hW1
 rintro e w2 ⟨rfl, f', x2, hsb, hbd⟩
 have X2 : Hid _ := x2
 have HF : Hid _ := And.intro hsb hbd
 clear x2 hsb hbd HC
 unfold rsV
 go_wp2_with (refine sr X2.out ?_)
 refine bj X2.out ?_
 exact ej X2.out HF.out
theorem dec138c (u : Un f N X 9 w) (b be p l : Nat) (hb : Fx (f.Ex N X.act) w b #[pz f.sb] 24) (he : Fx (f.Ex N X.act) w be #[uw p, uu l] 34) (r : Rp) (vp : Value) (ho : X.op.k = 6) (hne : X.ws ≠ []) (mp ml : Nat) (hmp : (maxT (p, l) (r.ap, r.al)).1 = mp) (hml : (maxT (p, l) (r.ap, r.al)).2 = ml) (hr : r.k = 7) : Calls Tryz.prog 138 #[.agg (rpc r vp).toArray, pz b, pz be] w (Got f N X w (decideF bt { X with stg := 2, cp := mp, cll := ml }) zS) := by
 obtain ⟨W1, hW1⟩ := xj ((w.alloc (.cells (rpc r vp).toArray 49)).alloc (.cells RZ 41))
 have X0 := nq (Cx.start u.sc u.nk (fc he (fc hb nb))) hW1
 have rb := X0.out.bx (b := w.heap.size) (cs := (rpc r vp).toArray) (ty := 49) (by simp)
 have k0 : W1.cell? ⟨w.heap.size, 0, none⟩ = some (iw r.k) := block_cell rb rfl
 have k9 : W1.cell? ⟨w.heap.size, 9, none⟩ = some (uw r.ap) := block_cell rb rfl
 have k10 : W1.cell? ⟨w.heap.size, 10, none⟩ = some (uu r.al) := block_cell rb rfl
 have c1 : W1.cell? ⟨b, 0, none⟩ = some (pz f.sb) := X0.out.bc
 have c2 : W1.cell? ⟨be, 0, none⟩ = some (uw p) := X0.out.bc
 have c3 : W1.cell? ⟨be, 1, none⟩ = some (uu l) := X0.out.bc
 have hr5 : (r.k == 5) = false := by rw [hr]; rfl
 have hr7 : (r.k == 7) = true := by rw [hr]; rfl
 have HX : Hid (Cx (f.In X.act) N w f X ((w.heap.size, (rpc r vp).toArray, 49) :: [(be, #[uw p, uu l], 34), (b, #[pz f.sb], 24)]) [(w.heap.size + 1, RZ, 41)] W1.drew) := X0.out.drew
 have SN : Hid (∀ f' X' W, Cx (f.In X.act) N w f' X' ((w.heap.size, (rpc r vp).toArray, 49) :: [(be, #[uw p, uu l], 34), (b, #[pz f.sb], 24)]) [(w.heap.size + 1, RZ, 41)] W → W.cell? ⟨b, 0, none⟩ = some (pz f.sb) ∧ W.cell? ⟨be, 0, none⟩ = some (uw p) ∧ W.cell? ⟨be, 1, none⟩ = some (uu l) ∧ W.cell? ⟨w.heap.size, 9, none⟩ = some (uw r.ap) ∧ W.cell? ⟨w.heap.size, 10, none⟩ = some (uu r.al)) := fun f' X' W c => ⟨c.bc, c.bc, c.bc, c.bc, c.bc⟩
 have C49 : Hid (∀ W, Cx (f.In X.act) N w f X ((w.heap.size, (rpc r vp).toArray, 49) :: [(be, #[uw p, uu l], 34), (b, #[pz f.sb], 24)]) [(w.heap.size + 1, RZ, 41)] W → ∀ bk, W.heap[bk]? = some (.cells #[uw p, uu l, uw r.ap, uu r.al] 34 (0, 0)) → Calls Tryz.prog 49 #[.slice (some ⟨bk, 0, none⟩) 2 2] W fun e w' => e = .returned (.agg #[uw mp, uu ml]) ∧ Cx (f.In X.act) N w f X ((w.heap.size, (rpc r vp).toArray, 49) :: [(be, #[uw p, uu l], 34), (b, #[pz f.sb], 24)]) [(w.heap.size + 1, RZ, 41)] w') := fun W c bk hk => by
  have k := max49 p l r.ap r.al bk 34 W hk
  rw [hmp, hml] at k
  exact k.mono fun e w' ⟨h1, h2⟩ => ⟨h1, c.on h2⟩
 have C93 : Hid (∀ W, Cx (f.In X.act) N w f X ((w.heap.size, (rpc r vp).toArray, 49) :: [(be, #[uw p, uu l], 34), (b, #[pz f.sb], 24)]) [(w.heap.size + 1, RZ, 41)] W → Calls Tryz.prog 93 #[pz f.sb, .agg #[uw mp, uu ml]] W fun e w' => e = .returned (rsV zS) ∧ ∃ f', Cx (f.In X.act) N w f' (decideF bt { X with stg := 2, cp := mp, cll := ml }) ((w.heap.size, (rpc r vp).toArray, 49) :: [(be, #[uw p, uu l], 34), (b, #[pz f.sb], 24)]) [(w.heap.size + 1, RZ, 41)] w' ∧ f'.sb = f.sb ∧ Bd f' (decideF bt { X with stg := 2, cp := mp, cll := ml })) := fun W c => (decide93 (u.of c) ho hne mp ml).mono fun e w' g => Got.next (N0 := N) c g
 generalize decideF bt { X with stg := 2, cp := mp, cll := ml } = XR at *
 have HA : Hid (Cx (f.In X.act) N w f X ((w.heap.size, (rpc r vp).toArray, 49) :: [(be, #[uw p, uu l], 34), (b, #[pz f.sb], 24)]) [(w.heap.size + 1, RZ, 41)] ((W1.alloc (.cells #[uw p, uu l, uw r.ap, uu r.al] 34)).drew)) := (X0.out.on (al _)).drew
 have HN : Hid (((W1.alloc (.cells #[uw p, uu l, uw r.ap, uu r.al] 34)).drew).heap[W1.heap.size]? = some (.cells #[uw p, uu l, uw r.ap, uu r.al] 34 (0, 0))) := heap_alloc_new W1 _
 clear u hb he hr ho hne hmp hml X0 rb
 go_enter Tryz.func138, Tryz.ntmps138
 go_upto_region 5 with fail
 clear k0 k9 k10 c1 c2 c3
 refine wp_region_held_drew (S := (fun W => W.cell? ⟨b, 0, none⟩ = some (pz f.sb) ∧ W.cell? ⟨be, 0, none⟩ = some (uw p) ∧ W.cell? ⟨be, 1, none⟩ = some (uu l) ∧ W.cell? ⟨w.heap.size, 9, none⟩ = some (uw r.ap) ∧ W.cell? ⟨w.heap.size, 10, none⟩ = some (uu r.al))) (by kernel_rfl) (SN.out _ _ _ HX.out) (fun hHeld => ?_)
 refine tw 0 ?_
 refine tw 1 ?_
 refine tq 2 ?_
 refine tw 3 ?_
 refine rd 4 (fun K hK => ?_)
 go_simp
 refine kj hK (SN.out _ _ _ HA.out) (fun hHeld => ?_)
 clear hK K
 refine rd 5 (fun K hK => ?_)
 go_simp
 refine (C49.out _ HA.out _ HN.out).mono ?_
 rintro e w3 ⟨rfl, h3⟩
 have HY : Hid _ := h3
 clear h3 HX
 have HX := HY
 clear HY
 go_wp2_with fail
 refine kj hK (SN.out _ _ _ HX.out) (fun hHeld => ?_)
 clear hK K
 refine rd 6 (fun K hK => ?_)
 go_simp
 refine (C93.out _ HX.out).mono ?_
 rintro e w4 ⟨rfl, f', h3, hsb, hbd⟩
 have HF : Hid _ := And.intro hsb hbd
 have HY : Hid _ := h3
 clear h3 HX
 have HX := HY
 clear HY
 clear hsb hbd
 unfold rsV
 go_wp2_with fail
 refine kj hK (SN.out _ _ _ HX.out) (fun hHeld => ?_)
 clear hK K
 refine rd 7 (fun K hK => ?_)
 rw [if_pos (by rfl)]
 refine wp_store_row 41 _ _ rfl (w.heap.size + 1) _ rfl rfl 41 _ (HX.out.bm mc) (by kernel_rfl) rfl (rsc_all _ _ rfl) ?_
 have X5 : Hid _ := HX.out.poke (setRow_kept _ _ (rsc zS sy).toArray) (setRow_at (HX.out.bm mc)) nb
 refine kj hK ⟨X5.out.bc, X5.out.bc, X5.out.bc, X5.out.bc, X5.out.bc⟩ (fun hHeld => ?_)
 clear hK K
 refine wpAnyH_done (by kernel_rfl) ?_ _
 clear hHeld SN C49 C93 HA HN
 go_wp2_with fail
 refine bodyPost_ret (res11 rfl rfl rfl (X5.out.bm mc)) rfl ?_
 exact ⟨rfl, _, X5.out.to, HF.out.1, HF.out.2⟩
theorem dec138d (u : Un f N X 9 w) (b be p l : Nat) (hb : Fx (f.Ex N X.act) w b #[pz f.sb] 24) (he : Fx (f.Ex N X.act) w be #[uw p, uu l] 34) (r : Rp) (vp : Value) (ho : X.op.k = 6) (hs : X.stg = 2) (hne : X.ws ≠ []) (hc : ∀ a ∈ X.asks, a.ch = true) (hr5 : r.k ≠ 5) (hr6 : r.k ≠ 6) (hr7 : r.k ≠ 7) : Calls Tryz.prog 138 #[.agg (rpc r vp).toArray, pz b, pz be] w (Got f N X w (undoF bt { X with stg := 3, why := wrongF r }) zS) := by
 obtain ⟨W1, hW1⟩ := xj ((w.alloc (.cells (rpc r vp).toArray 49)).alloc (.cells RZ 41))
 have X0 := nq (Cx.start u.sc u.nk (fc he (fc hb nb))) hW1
 have rb := X0.out.bx (b := w.heap.size) (cs := (rpc r vp).toArray) (ty := 49) (by simp)
 have k0 : W1.cell? ⟨w.heap.size, 0, none⟩ = some (iw r.k) := block_cell rb rfl
 have k9 : W1.cell? ⟨w.heap.size, 9, none⟩ = some (uw r.ap) := block_cell rb rfl
 have k10 : W1.cell? ⟨w.heap.size, 10, none⟩ = some (uu r.al) := block_cell rb rfl
 have c1 : W1.cell? ⟨b, 0, none⟩ = some (pz f.sb) := X0.out.bc
 have c2 : W1.cell? ⟨be, 0, none⟩ = some (uw p) := X0.out.bc
 have c3 : W1.cell? ⟨be, 1, none⟩ = some (uu l) := X0.out.bc
 have HX : Hid (Cx (f.In X.act) N w f X ((w.heap.size, (rpc r vp).toArray, 49) :: [(be, #[uw p, uu l], 34), (b, #[pz f.sb], 24)]) [(w.heap.size + 1, RZ, 41)] W1.drew) := X0.out.drew
 have h5b : (r.k == 5) = false := by simp [hr5]
 have h6b : (r.k == 6) = false := by simp [hr6]
 have h7b : (r.k == 7) = false := by simp [hr7]
 have SN : Hid (∀ f' X' Lm W, Cx (f.In X.act) N w f' X' ((w.heap.size, (rpc r vp).toArray, 49) :: [(be, #[uw p, uu l], 34), (b, #[pz f.sb], 24)]) Lm W → W.cell? ⟨b, 0, none⟩ = some (pz f.sb) ∧ W.rangeAt w.heap.size 0 (rpc r vp)) := fun f' X' Lm W c => ⟨c.bc, range_box (n := 14) (c.bx (b := w.heap.size) (cs := (rpc r vp).toArray) (ty := 49) (by simp))⟩
 have C82 : Hid (∀ W, Cx (f.In X.act) N w f X ((w.heap.size, (rpc r vp).toArray, 49) :: [(be, #[uw p, uu l], 34), (b, #[pz f.sb], 24)]) [(w.heap.size + 1, RZ, 41)] W → Calls Tryz.prog 82 #[.agg (rpc r vp).toArray] W fun e w' => e = .returned (iw (wrongF r)) ∧ Cx (f.In X.act) N w f X ((w.heap.size, (rpc r vp).toArray, 49) :: [(be, #[uw p, uu l], 34), (b, #[pz f.sb], 24)]) [(w.heap.size + 1, RZ, 41)] w') := fun W c => (errorOf82 r vp W).mono fun e w' ⟨h1, h2⟩ => ⟨h1, c.on h2⟩
 have C140 : Hid (∀ W, Cx (f.In X.act) N w f X ((w.heap.size, (rpc r vp).toArray, 49) :: [(be, #[uw p, uu l], 34), (b, #[pz f.sb], 24)]) [(w.heap.size + 1, RZ, 41)] W → Calls Tryz.prog 140 #[pz f.sb, iw (wrongF r)] W fun e w' => e = .returned (rsV zS) ∧ ∃ f', Cx (f.In X.act) N w f' (undoF bt { X with stg := 3, why := wrongF r }) ((w.heap.size, (rpc r vp).toArray, 49) :: [(be, #[uw p, uu l], 34), (b, #[pz f.sb], 24)]) [(w.heap.size + 1, RZ, 41)] w' ∧ f'.sb = f.sb ∧ Bd f' (undoF bt { X with stg := 3, why := wrongF r })) := fun W c => by
  have c3 : Cx (f.In X.act) N w f { X with stg := 3, why := wrongF r } ((w.heap.size, (rpc r vp).toArray, 49) :: [(be, #[uw p, uu l], 34), (b, #[pz f.sb], 24)]) [(w.heap.size + 1, RZ, 41)] W := ⟨c.sc.why (wrongF r) ho hs hc, c.sub, c.kp, c.has, c.hasm, c.nl⟩
  have hb3 : Bd f { X with stg := 3, why := wrongF r } := ⟨fun e => absurd (ho.symm.trans e) (by decide), (fun _ e => by cases e), u.bd.gs⟩
  have u3 : Un f (Nm N [(w.heap.size + 1, RZ, 41)]) { X with stg := 3, why := wrongF r } 9 W := ⟨c3.sc, c3.nok, hb3, u.act, u.ns, u.ws, ⟨u.rm.sq, u.rm.la, u.rm.lo⟩⟩
  exact (revoke140 u3 hne (wrongF r) rfl).mono fun e w' g => Got.next (N0 := N) c3 g
 generalize undoF bt { X with stg := 3, why := wrongF r } = XR at *
 generalize wrongF r = er at *
 clear u hb he hr5 hr6 hr7 ho hs hne hc X0 rb
 go_enter Tryz.func138, Tryz.ntmps138
 go_upto_region 8 with fail
 clear k0 k9 k10 c1 c2 c3
 refine wp_region_held_drew (S := (fun W => W.cell? ⟨b, 0, none⟩ = some (pz f.sb) ∧ W.rangeAt w.heap.size 0 (rpc r vp))) (by kernel_rfl) (SN.out _ _ _ _ HX.out) (fun hHeld => ?_)
 refine tw 0 ?_
 refine tl 1 49 w.heap.size 0 (rpc r vp) (fun W hW => hW.2) Tryz.underlying49 ?_
 refine rd 2 (fun K hK => ?_)
 go_simp
 refine (C82.out _ HX.out).mono ?_
 rintro e w3 ⟨rfl, h3⟩
 have HY : Hid _ := h3
 clear h3 HX
 have HX := HY
 clear HY
 go_wp2_with fail
 refine kj hK (SN.out _ _ _ _ HX.out) (fun hHeld => ?_)
 clear hK K
 refine rd 3 (fun K hK => ?_)
 go_simp
 refine (C140.out _ HX.out).mono ?_
 rintro e w4 ⟨rfl, f', h3, hsb, hbd⟩
 have HF : Hid _ := And.intro hsb hbd
 have HY : Hid _ := h3
 clear h3 HX
 have HX := HY
 clear HY
 clear hsb hbd
 unfold rsV
 go_wp2_with fail
 refine kj hK (SN.out _ _ _ _ HX.out) (fun hHeld => ?_)
 clear hK K
 refine rd 4 (fun K hK => ?_)
 rw [if_pos (by rfl)]
 refine wp_store_row 41 _ _ rfl (w.heap.size + 1) _ rfl rfl 41 _ (HX.out.bm mc) (by kernel_rfl) rfl (rsc_all _ _ rfl) ?_
 have X5 : Hid _ := HX.out.poke (setRow_kept _ _ (rsc zS sy).toArray) (setRow_at (HX.out.bm mc)) nb
 refine kj hK (SN.out _ _ _ _ X5.out) (fun hHeld => ?_)
 clear hK K
 refine wpAnyH_done (by kernel_rfl) ?_ _
 clear hHeld SN C82 C140
 go_wp2_with fail
 refine bodyPost_ret (res11 rfl rfl rfl (X5.out.bm mc)) rfl ?_
 exact ⟨rfl, _, X5.out.to, HF.out.1, HF.out.2⟩
theorem dec138 (u : Un f N X 9 w) (b be p l : Nat) (hb : Fx (f.Ex N X.act) w b #[pz f.sb] 24) (he : Fx (f.Ex N X.act) w be #[uw p, uu l] 34) (r : Rp) (vp : Value) (hsu : ∀ N' W, Un f N' X 9 W → Calls Tryz.prog 139 #[pz f.sb, .agg #[uw r.ap, uu r.al]] W (Got f N' X W (commF bt X r.ap r.al).1 (commF bt X r.ap r.al).2)) (ho : X.op.k = 6) (hs : X.stg = 2) (hne : X.ws ≠ []) (hc : ∀ a ∈ X.asks, a.ch = true) (hp : X.cp = p ∧ X.cll = l) : Calls Tryz.prog 138 #[.agg (rpc r vp).toArray, pz b, pz be] w (Got f N X w (decF bt X r).1 (decF bt X r).2) := by
 unfold decF
 by_cases h5 : r.k = 5
 ·rw [if_pos h5]
  exact dec138a u b be p l hb he r vp hsu h5
 ·rw [if_neg h5]
  by_cases h6 : r.k = 6
  ·rw [if_pos ⟨h6, hs⟩]
   exact dec138b u b be p l hb he r vp h6
  ·rw [if_neg (fun e => h6 e.1), if_neg h6]
   by_cases h7 : r.k = 7
   ·rw [if_pos ⟨h7, hs⟩, hp.1, hp.2]
    have c := dec138c u b be p l hb he r vp ho hne _ _ rfl rfl h7
    rw [← hs] at c
    exact c
   ·rw [if_neg (fun e => h7 e.1), if_pos hs]
    exact dec138d u b be p l hb he r vp ho hs hne hc h5 h6 h7
theorem SC.now (h : SC f N X W) (p l : Nat) (hk : Kept (fun k => k = f.sb) W W') (hb : W'.heap[f.sb]? = some (.cells (sbA f { X with np := p, nl := l }) 77 (0, 0))) : To f N X.act W f { X with np := p, nl := l } W' := by
 have s : Stay (fun k => k = f.sb) (f.Ex N X.act) (f.Ex N X.act) W W' := ⟨hk, fun k e => .inr (.inl e), fun k _ e => e⟩
 have B : ∀ {b : Nat} {cs : Array Value} {ty : TypeId}, W.heap[b]? = some (.cells cs ty (0, 0)) → ty ≠ 77 → W'.heap[b]? = some (.cells cs ty (0, 0)) := fun {b cs ty} e h1 => by rw [hk.block b (lt_blk e) (ne_tag e h.blk h1)]; exact e
 have O : ∀ {base e size : Nat} {v : Value} {n : Nat} {cs : List Value}, W.ownsRow base e size v n cs → e ≠ 77 → W'.ownsRow base e size v n cs := fun h0 h1 => own_kept h0 hk fun k hv e => by
  subst e
  exact own_ne h0 h.blk h1 hv
 exact ⟨⟨hb, fun a => ⟨B (h.tx a).1 (by decide), O (h.tx a).2 (by decide)⟩, O h.ra (by decide), O h.ro (by decide), h.ea, h.eo, ⟨fun a => B (h.bx.l a) (by decide), fun a => ⟨B (h.bx.p a).1 (by decide), O (h.bx.p a).2.1 (by decide), (h.bx.p a).2.2.stay s⟩, fun a => ⟨B (h.bx.c a).1 (by decide), (h.bx.c a).2⟩, h.bx.le⟩, fun n a => B (h.gb n a) (by decide), h.gd, fun x hx => (h.ak x hx).stay s (SameF.refl f) rfl (fun _ _ => rfl), fun x hx => ⟨(h.lk x hx).1.stay s, (h.lk x hx).2⟩⟩, hk.mono (fun k e => .inl e), fun i hi => .inl hi⟩
theorem Then.dec (u : Un f N X 9 w) (x : Ax) (hx : AkIs (f.Ex N X.act) f X w x) (hc : x.a.ch = false) (hst : x.a.st = 0) (ha : x.a.q.k = 4) (ho : X.op.k = 6) (hs : X.stg = 2) (hne : X.ws ≠ []) (hch : ∀ a ∈ X.asks, a.ch = true) (hp : X.cp = x.a.q.ap ∧ X.cll = x.a.q.al) (r : Rp) (vp : Value)
  (hsu : ∀ N' W, Un f N' X 9 W → Calls Tryz.prog 139 #[pz f.sb, .agg #[uw r.ap, uu r.al]] W (Got f N' X W (commF bt X r.ap r.al).1 (commF bt X r.ap r.al).2)) : Then x.fv (rpc r vp).toArray w (Got f N X w (decF bt X r).1 (decF bt X r).2) := by
 obtain ⟨bs', bt', h1, h2, h3⟩ := hx.de hc hst ha
 exact ⟨138, _, h1, enters_of Tryz.func138 (by kernel_rfl) rfl, dec138 u bs' bt' x.a.q.ap x.a.q.al h2 h3 r vp hsu ho hs hne hch hp⟩
theorem Then.rev (u : Un f N X 9 w) (x : Ax) (hx : AkIs (f.Ex N X.act) f X w x) (hc : x.a.ch = false) (hst : x.a.st = 0) (ha : x.a.q.k = 6) (hs : X.stg ≠ 2) (hne : X.ws ≠ []) (r : Rp) (vp : Value)
  (hsu : ∀ N' W, Un f N' X 9 W → Calls Tryz.prog 139 #[pz f.sb, .agg #[uw r.ap, uu r.al]] W (Got f N' X W (commF bt X r.ap r.al).1 (commF bt X r.ap r.al).2)) : Then x.fv (rpc r vp).toArray w (Got f N X w (decF bt X r).1 (decF bt X r).2) := by
 obtain ⟨bs', be, h1, h2, h3⟩ := hx.re hc hst ha
 exact ⟨157, _, h1, enters_of Tryz.func157 (by kernel_rfl) rfl, rev157 u bs' be X.why h2 h3 r vp hsu hne rfl hs⟩
def Bxs (W : World) (base : Nat) (Lr : List Bo) : Prop := ∀ p ∈ Lr, W.heap[p.1]? = some (.cells p.2.1 p.2.2 (0, 0)) ∧ base ≤ p.1
def Fxs (M : Nat → Prop) (W : World) (Lr : List Bo) : Prop := ∀ p ∈ Lr, Fx M W p.1 p.2.1 p.2.2
theorem own_boxes {base e size n : Nat} {v : Value} {cs : List Value} (h : W.ownsRow base e size v n cs) : ∃ Lr : List Bo, Bxs W base Lr ∧ ∀ (M : Nat → Prop) (W' : World), Fxs M W' Lr → RwF M size v n cs W' := by
 rcases h.2 with ⟨rfl, h0⟩ | ⟨g, cap, cur, rfl, hb, hg, hnc, hcm, hcs, ht⟩
 ·refine ⟨[], (fun p hp => by cases hp), fun M W' _ => ?_⟩
  subst h0
  have : cs = [] := List.eq_nil_of_length_eq_zero (by simpa using h.1)
  subst this
  exact RwF.nil _ _ _
 ·refine ⟨[(g, cur, e)], fun p hp => ?_, fun M W' hl => ?_⟩
  ·rw [List.mem_singleton] at hp
   subst hp
   exact ⟨hg, hb⟩
  ·have hx := hl _ (List.mem_singleton.2 rfl)
   refine ⟨_, cap, rfl, h.1, hnc, by unfold maxLen at hcm; omega, fun _ => ⟨g, 0, rfl, fun _ => hx.2, fun j u hj => ?_⟩⟩
   rw [Nat.zero_add]
   refine block_cell hx.1 ?_
   rw [← ht, List.getElem?_take] at hj
   split at hj
   ·simpa using hj
   ·cases hj
theorem own_boxesN {base n : Nat} {ao : Option Addr} {cap : Nat} {ns : List Nat} (h : W.ownsRow base 3 1 (.slice ao ns.length cap) ns.length (rowC inc ns)) : ∃ Lr : List Bo, Bxs W base Lr ∧ ∀ (M : Nat → Prop) (W' : World), Fxs M W' Lr → ∀ m, m < ns.length → ∃ g, ao = some ⟨g, 0, none⟩ ∧ W'.cell? ⟨g, m, none⟩ = some (iw ((ns.getD m 0 : Nat) : Int)) := by
 rcases h.2 with ⟨e, h0⟩ | ⟨g, cap', cur, e, hb, hg, hnc, hcm, hcs, ht⟩
 ·exact ⟨[], (fun p hp => by cases hp), fun M W' _ m hm => by omega⟩
 ·injection e with e
  subst e
  refine ⟨[(g, cur, 3)], fun p hp => ?_, fun M W' hl m hm => ?_⟩
  ·rw [List.mem_singleton] at hp
   subst hp
   exact ⟨hg, hb⟩
  ·have hx := hl _ (List.mem_singleton.2 rfl)
   refine ⟨g, rfl, block_cell hx.1 ?_⟩
   have hj := rowC_get inc_len 0 ns m 0 hm (by decide)
   rw [Nat.mul_one, Nat.add_zero, ← ht, List.getElem?_take] at hj
   rw [if_pos (by omega)] at hj
   simpa [inc] using hj
theorem boxes_all {base : Nat} {Q : Nat → (Nat → Prop) → World → Prop} : ∀ (n : Nat), (∀ i, i < n → ∃ Lr : List Bo, Bxs W base Lr ∧ ∀ (M : Nat → Prop) (W' : World), Fxs M W' Lr → Q i M W') → ∃ Lr : List Bo, Bxs W base Lr ∧ ∀ (M : Nat → Prop) (W' : World), Fxs M W' Lr → ∀ i, i < n → Q i M W'
 | 0, _ => ⟨[], (fun p hp => by cases hp), fun M W' _ i hi => by omega⟩
 | n + 1, h => by
  obtain ⟨L1, h1, h2⟩ := boxes_all n fun i hi => h i (by omega)
  obtain ⟨L2, h3, h4⟩ := h n (by omega)
  refine ⟨L1 ++ L2, fun p hp => ?_, fun M W' hf i hi => ?_⟩
  ·rcases List.mem_append.1 hp with e | e
   ·exact h1 p e
   ·exact h3 p e
  ·by_cases e : i = n
   ·subst e
    exact h4 M W' fun p hp => hf p (List.mem_append_right _ hp)
   ·exact h2 M W' (fun p hp => hf p (List.mem_append_left _ hp)) i (by omega)
theorem sm_boxes {B g : Nat} {vs : List Value} {L : List (List Wr)} (h : Pla.Sm B g vs L W) : ∃ Lr : List Bo, Bxs W B Lr ∧ (g, vs.toArray, 50) ∈ Lr ∧ ∀ (M : Nat → Prop) (W' : World), Fxs M W' Lr → ∀ i, i < L.length → W'.cell? ⟨g, i, none⟩ = some (vs.getD i Pla.nv) ∧ RwF M 3 (vs.getD i Pla.nv) (L.getD i []).length (rowC wrc (L.getD i [])) W' := by
 obtain ⟨Lr, h1, h2⟩ := boxes_all (W := W) (base := B) (Q := fun i M W' => RwF M 3 (vs.getD i Pla.nv) (L.getD i []).length (rowC wrc (L.getD i [])) W') L.length fun i hi => own_boxes (h.ins i hi)
 refine ⟨(g, vs.toArray, 50) :: Lr, fun p hp => ?_, List.mem_cons_self .., fun M W' hf i hi => ⟨?_, h2 M W' (fun p hp => hf p (List.mem_cons_of_mem _ hp)) i hi⟩⟩
 ·rcases List.mem_cons.1 hp with rfl | e
  ·exact ⟨h.x, h.gB⟩
  ·exact h1 p e
 ·exact block_cell (hf _ mc).1 (by have := h.len; simp [List.getD, show i < vs.length by omega])
theorem Cx.adds {Lo Lm Lr : List Bo} (c : Cx M N w f X Lo Lm W) (hb : Below W.heap.size W W') (hr : Bxs W' W.heap.size Lr) : Cx M N w f X (Lr ++ Lo) Lm W' := by
 have c2 := c.on hb
 refine ⟨c2.sc, c2.sub, c2.kp, fun p hp => ?_, c2.hasm, c2.nl⟩
 rcases List.mem_append.1 hp with h | h
 ·exact ⟨(hr p h).1, fun e => absurd (c.sc.lt e) (by have := (hr p h).2; omega), fun e => absurd (c.lt e) (by have := (hr p h).2; omega)⟩
 ·exact c2.has p h
theorem Cx.fxs {Lo Lm Lr : List Bo} (c : Cx M N w f X Lo Lm W) (hl : ∀ p ∈ Lr, p ∈ Lo) : Fxs (f.Ex (Nm N Lm) X.act) W Lr := fun p hp => c.fx (hl p hp)
theorem Cx.lessm {Lo Lm Lm' : List Bo} (h : Cx M N w f X Lo Lm W) (hl : ∀ p ∈ Lm', p ∈ Lm) : Cx M N w f X Lo Lm' W := by
 have hN : ∀ k, Nm N Lm' k → Nm N Lm k := fun k e => e.elim .inl fun ⟨p, hp, e⟩ => .inr ⟨p, hl p hp, e⟩
 exact ⟨h.sc.less hN, h.sub, h.kp, fun p hp => ⟨(h.has p hp).1, (h.has p hp).2.1, fun e => (h.has p hp).2.2 (hN _ e)⟩, fun p hp => h.hasm p (hl p hp), h.nl⟩
theorem SC.op6 (h : SC f N X W) (o : Op) (hk : Kept (fun k => k = f.sb) W W') (hb : W'.heap[f.sb]? = some (.cells (sbA f { X with op := o, stg := 1 }) 77 (0, 0))) : To f N X.act W f { X with op := o, stg := 1 } W' := by
 have s : Stay (fun k => k = f.sb) (f.Ex N X.act) (f.Ex N X.act) W W' := ⟨hk, fun k e => .inr (.inl e), fun k _ e => e⟩
 have B : ∀ {b : Nat} {cs : Array Value} {ty : TypeId}, W.heap[b]? = some (.cells cs ty (0, 0)) → ty ≠ 77 → W'.heap[b]? = some (.cells cs ty (0, 0)) := fun {b cs ty} e h1 => by rw [hk.block b (lt_blk e) (ne_tag e h.blk h1)]; exact e
 have O : ∀ {base e size : Nat} {v : Value} {n : Nat} {cs : List Value}, W.ownsRow base e size v n cs → e ≠ 77 → W'.ownsRow base e size v n cs := fun h0 h1 => own_kept h0 hk fun k hv e => by
  subst e
  exact own_ne h0 h.blk h1 hv
 exact ⟨⟨hb, fun a => ⟨B (h.tx a).1 (by decide), O (h.tx a).2 (by decide)⟩, O h.ra (by decide), O h.ro (by decide), h.ea, h.eo, ⟨fun a => B (h.bx.l a) (by decide), fun a => ⟨B (h.bx.p a).1 (by decide), O (h.bx.p a).2.1 (by decide), (h.bx.p a).2.2.stay s⟩, fun a => ⟨B (h.bx.c a).1 (by decide), (h.bx.c a).2⟩, h.bx.le⟩, fun n a => B (h.gb n a) (by decide), h.gd, fun x hx => (h.ak x hx).stay s (SameF.refl f) rfl (fun _ _ => rfl), fun x hx => ⟨(h.lk x hx).1.stay s, (h.lk x hx).2⟩⟩, hk.mono (fun k e => .inl e), fun i hi => .inl hi⟩
theorem SC.commit {Y : Ss} (h : SC f N Y W) (hc : ∀ a ∈ Y.asks, a.ch = true) (n : Int) (bx bl : Nat) (hb : Below W.heap.size W W') (h1 : W'.heap[bx]? = some (.cells #[.int .u64 0, .int .u32 0] 34 (0, 0))) (h2 : W'.heap[bl]? = some (.cells #[iw n] 3 (0, 0))) (s1 : W.heap.size ≤ bx) (s2 : W.heap.size ≤ bl) : SC { f with ok := 2, xb := bx, lb := bl, lv := n, vp := sy } N { Y with cp := 0, cll := 0, left := n } W' ∧ ∀ i, i < W.heap.size → ({ f with ok := 2, xb := bx, lb := bl, lv := n, vp := sy } : Fo).In Y.act i → f.In Y.act i := by
 have B : ∀ {b : Nat} {o : Obj}, W.heap[b]? = some o → W'.heap[b]? = some o := fun {b o} e => by rw [hb.block b (lt_blk e)]; exact e
 have hin : ∀ i, i < W.heap.size → ({ f with ok := 2, xb := bx, lb := bl, lv := n, vp := sy } : Fo).In Y.act i → f.In Y.act i := fun i hi e => by
  rcases e with e | e | e | e | ⟨-, e | e | e⟩ | e
  ·exact .inl e
  ·exact .inr (.inl e)
  ·exact .inr (.inr (.inl e))
  ·exact .inr (.inr (.inr (.inl e)))
  ·exact absurd hi (by rw [show i = bx from e]; omega)
  ·exact absurd hi (by rw [show i = bl from e]; omega)
  ·cases e
  ·exact .inr (.inr (.inr (.inr (.inr e))))
 have s : Stay (fun _ => False) (f.Ex N Y.act) (({ f with ok := 2, xb := bx, lb := bl, lv := n, vp := sy } : Fo).Ex N Y.act) W W' := ⟨Kept.of_below hb, fun _ e => e.elim, fun k hk e => e.elim .inl (fun e => .inr (hin k hk e))⟩
 refine ⟨⟨B h.blk, fun a => ⟨B (h.tx a).1, own_on (h.tx a).2 hb⟩, own_on h.ra hb, own_on h.ro hb, h.ea, h.eo, ⟨fun _ => h2, (fun e => by cases e), fun _ => ⟨h1, rfl⟩, Nat.le_refl 2⟩, fun n a => B (h.gb n a), fun n a => ⟨fun _ e => absurd (lt_blk (h.gb n a)) (by rw [show f.gl n = bl from e]; omega), (h.gd n a).2⟩, fun x hx => ?_, fun x hx => ⟨(h.lk x hx).1.stay s, (h.lk x hx).2⟩⟩, hin⟩
 have hch : x.a.ch = true := hc _ (by rw [h.ea]; exact List.mem_map_of_mem hx)
 have k := h.ak x hx
 refine ⟨k.q.stay s, k.one, (fun e => by rw [hch] at e; cases e), (fun e => by rw [hch] at e; cases e), (fun e => by rw [hch] at e; cases e), (fun e => by rw [hch] at e; cases e), (fun e => by rw [hch] at e; cases e), fun e1 e2 => ?_, k.c0⟩
 obtain ⟨bf, b1, b2, b3, g1, g2, g3, g4, g5, g6⟩ := k.c5 e1 e2
 exact ⟨bf, b1, b2, b3, g1, g2, g3.stay s, g4.stay s, g5.stay s, g6.stay s⟩
theorem Cx.commit {Y : Ss} {Lo Lm : List Bo} (c : Cx M N w f Y Lo Lm W) (hc : ∀ a ∈ Y.asks, a.ch = true) (n : Int) (bx bl : Nat) (hb : Below W.heap.size W W') (h1 : W'.heap[bx]? = some (.cells #[.int .u64 0, .int .u32 0] 34 (0, 0))) (h2 : W'.heap[bl]? = some (.cells #[iw n] 3 (0, 0))) (s1 : W.heap.size ≤ bx) (s2 : W.heap.size ≤ bl) : Cx M N w { f with ok := 2, xb := bx, lb := bl, lv := n, vp := sy } { Y with cp := 0, cll := 0, left := n } Lo Lm W' := by
 obtain ⟨k1, k2⟩ := c.sc.commit hc n bx bl hb h1 h2 s1 s2
 have hin : ∀ i, ({ f with ok := 2, xb := bx, lb := bl, lv := n, vp := sy } : Fo).In Y.act i → f.In Y.act i ∨ W.heap.size ≤ i := fun i hi => by
  by_cases e : i < W.heap.size
  ·exact .inl (k2 i e hi)
  ·exact .inr (by omega)
 refine ⟨k1, fun i hi => (hin i hi).elim (c.sub i) (fun e => .inr (Nat.le_trans c.kp.size e)), c.kp.trans (Kept.of_below (F := M) hb) (fun i e => .inl e), fun p hp => ⟨by rw [hb.block _ (lt_blk (c.has p hp).1)]; exact (c.has p hp).1, fun e => (c.has p hp).2.1 (k2 _ (lt_blk (c.has p hp).1) e), (c.has p hp).2.2⟩, fun p hp => ⟨by rw [hb.block _ (lt_blk (c.hasm p hp).1)]; exact (c.hasm p hp).1, fun e => (c.hasm p hp).2.1 (k2 _ (lt_blk (c.hasm p hp).1) e), (c.hasm p hp).2.2⟩, c.nl⟩
def layQ (s : Ss) (p : List Wr) : Rq := { zQ with k := 3, c := s.cl, n := s.n, sp := s.sp, sl := s.sl, key := priF s, ws := p }
def layN (L : List (List Wr)) (ns : List Nat) (s : Ss) : Ss := ns.foldl (fun t n => askF t (akF n (layQ t (L.getD n [])))) s
theorem layN_snoc (L : List (List Wr)) (ns : List Nat) (n : Nat) (s : Ss) : layN L (ns ++ [n]) s = askF (layN L ns s) (akF n (layQ (layN L ns s) (L.getD n []))) := by simp [layN]
theorem layN_left (L : List (List Wr)) : ∀ (ns : List Nat) (s : Ss) (x : Int), layN L ns { s with left := x } = { layN L ns s with left := x }
 | [], s, x => rfl
 | n :: ns, s, x => layN_left L ns (askF s (akF n (layQ s (L.getD n [])))) x
theorem layN_keep (L : List (List Wr)) : ∀ (ns : List Nat) (s : Ss), (layN L ns s).cl = s.cl ∧ (layN L ns s).n = s.n ∧ (layN L ns s).sp = s.sp ∧ (layN L ns s).sl = s.sl ∧ (layN L ns s).act = s.act ∧ (layN L ns s).ws = s.ws ∧ (layN L ns s).nsh = s.nsh ∧ (layN L ns s).op = s.op ∧ (layN L ns s).sq = s.sq + ns.length ∧ (layN L ns s).left = s.left ∧ (layN L ns s).stg = s.stg
 | [], s => ⟨rfl, rfl, rfl, rfl, rfl, rfl, rfl, rfl, rfl, rfl, rfl⟩
 | n :: ns, s => by
  obtain ⟨a, b, c, d, e, g, i, j, k, l, m⟩ := layN_keep L ns (askF s (akF n (layQ s (L.getD n []))))
  refine ⟨a, b, c, d, e, g, i, j, ?_, l, m⟩
  show (layN L ns _).sq = _
  rw [k]
  simp [askF]
  omega
theorem lay_all (L : List (List Wr)) : ∀ (l : List (List Wr)) (i : Nat) (s : Ss), (∀ j, j < l.length → L.getD (i + j) [] = l.getD j []) → layAsks l i s = { layN L (pN l i) s with left := s.left + ((pN l i).length : Int) }
 | [], i, s, _ => by simp [layAsks, pN, layN]
 | p :: l, i, s, h => by
  have ih := fun t => lay_all L l (i + 1) t fun j hj => by
   have := h (j + 1) (by simp; omega)
   rw [show i + (j + 1) = i + 1 + j by omega] at this
   simpa using this
  have h0 : L.getD i [] = p := by simpa using h 0 (by simp)
  unfold layAsks pN
  cases hp : p.isEmpty
  ·simp only [Bool.false_eq_true, if_false]
   rw [ih]
   rw [show layN L (i :: pN l (i + 1)) s = layN L (pN l (i + 1)) (askF s (akF i (layQ s p))) from by rw [← h0]; rfl]
   rw [layN_left]
   simp only [List.length_cons]
   show _ = _
   congr 1
   push_cast
   omega
  ·simp only [if_true]
   exact ih s
theorem lay_parts (L : List (List Wr)) (s : Ss) : layAsks L 0 { s with left := 0 } = layN L (partsN L L.length) { s with left := ((partsN L L.length).length : Int) } := by
 rw [lay_all L L 0 _ (fun j _ => by rw [Nat.zero_add]), parts_all, layN_left L _ s 0]
 simp only [Int.zero_add]
 exact (layN_left L (partsN L L.length) s ((partsN L L.length).length : Int)).symm
end Go.Proofs.YtkdkgdollmmcnaaGreat
