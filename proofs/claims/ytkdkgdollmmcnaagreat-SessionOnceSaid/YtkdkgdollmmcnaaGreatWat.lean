import Derived.Test.YtkdkgdollmmcnaaGreatWas
set_option maxHeartbeats 4000000
set_option maxRecDepth 100000
set_option linter.unusedVariables false
set_option linter.unusedSimpArgs false
namespace Go.Proofs.YtkdkgdollmmcnaaGreat
open Go.RowKit Go.Sort Go.Shelf
variable {M M' G N : Nat → Prop} {W W' w : World} {f f' : Fo} {X X' : Ss}
def passR (X : Ss) (n : Nat) (q : Rq) (lk : Rp) : Ss × Rs := if q.k = 3 then stopR X 40 else if 16 ≤ q.sk.length then stopR X 3 else (askF X (akF n { q with sk := q.sk ++ [⟨lk.c, lk.n⟩] }), zS)
theorem push148a (u : Un f N X 9 w) (n : Nat) (hn : n < 4294967296) (q : Rq) (hk : 1 ≤ q.k ∧ q.k ≤ 3) (bs' bn bq bd bw bt' : Nat) (lk : Rp) (hb : Bq (f.Ex N X.act) f w bs' bn bq bd n q) (hw : Fx (f.Ex N X.act) w bw #[uu lk.c, uu lk.n] 38) (ht : Fx (f.Ex N X.act) w bt' #[uw lk.sp, uu lk.sl] 34) (r : Rp) (vp : Value) (hr : r.k = 5) : Calls Tryz.prog 148 #[.agg (rpc r vp).toArray, pz bs', pz bn, pz bq, pz bw, pz bd, pz bt'] w (Got f N X w (askF X { akF n { zQ with k := 5, c := lk.c, n := lk.n, ap := r.ap, al := r.al } with st := 2, was := q, hm := n }) zS) := by
 obtain ⟨vw, vs, dv, h1, h2, h3, h4, h5, h6⟩ := hb.of
 obtain ⟨fn, fi, cp, rfl⟩ := h6.func hk
 obtain ⟨wa, wc, rfl⟩ := h4.ws.shape
 obtain ⟨sa, sc, rfl⟩ := h4.sk.shape
 obtain ⟨W1, hW1⟩ := xj ((w.alloc (.cells (rpc r vp).toArray 49)).alloc (.cells RZ 41))
 obtain ⟨qc, hqc⟩ := xj (rqc q (.slice wa q.ws.length wc) (.slice sa q.sk.length sc)).toArray
 rw [hqc] at h3
 have X0 := nq (Cx.start u.sc u.nk (fc ht (fc h5 (fc hw (fc h3 (fc h2 (fc h1 nb))))))) hW1
 have k0 : W1.cell? ⟨w.heap.size, 0, none⟩ = some (iw r.k) := X0.out.bc
 have k9 : W1.cell? ⟨w.heap.size, 9, none⟩ = some (uw r.ap) := X0.out.bc
 have k10 : W1.cell? ⟨w.heap.size, 10, none⟩ = some (uu r.al) := X0.out.bc
 have c1 : W1.cell? ⟨bs', 0, none⟩ = some (pz f.sb) := X0.out.bc
 have c2 : W1.cell? ⟨bn, 0, none⟩ = some (iw (n : Int)) := X0.out.bc
 have c3 : Hid (W1.heap[bq]? = some (.cells qc 53 (0, 0))) := X0.out.bx (by simp)
 have c4 : W1.cell? ⟨bd, 0, none⟩ = some (.func fn fi cp) := X0.out.bc
 have c5 : W1.cell? ⟨bw, 0, none⟩ = some (uu lk.c) := X0.out.bc
 have c6 : W1.cell? ⟨bw, 1, none⟩ = some (uu lk.n) := X0.out.bc
 have c7 : W1.cell? ⟨bt', 0, none⟩ = some (uw lk.sp) := X0.out.bc
 have c8 : W1.cell? ⟨bt', 1, none⟩ = some (uu lk.sl) := X0.out.bc
 have hs : (Tryz.prog.info? 53).map (·.size) = some qc.size := by rw [← hqc]; kernel_rfl
 have hr5 : (r.k == 5) = true := by rw [hr]; rfl
 have CU := gh (unlock149 (u.of X0.out) n hn q { zQ with k := 5, c := lk.c, n := lk.n, ap := r.ap, al := r.al } _ _ fn fi cp qc _ hqc.symm rfl rfl rfl (h4.stay X0.out.stay0) (h6.stay X0.out.stay0 (SameF.refl f))) (X0.out.less (Lo' := []) nb)
 clear u hb hw ht h1 h2 h3 h4 h5 h6 hqc hr
 go_enter Tryz.func148, Tryz.ntmps148
 go_wp2_with (refine wpList_load_row rfl 53 _ rfl bq rfl 53 _ (0, 0) _ c3.out Tryz.underlying53 rfl hs ?_)
 refine (CU.out (by trivial)).mono ?_
 rintro e w2 ⟨rfl, f', x2, hsb, hbd⟩
 have X2 : Hid _ := x2
 have HF : Hid _ := And.intro hsb hbd
 clear x2 hsb hbd CU X0 hW1 k0 k9 k10 c1 c2 c3 c4 c5 c6 c7 c8
 unfold rsV
 go_wp2_with (refine sr X2.out ?_)
 refine bj X2.out ?_
 exact ej X2.out HF.out
theorem push148b (u : Un f N X 9 w) (n : Nat) (hn : n < 4294967296) (q : Rq) (hk : 1 ≤ q.k ∧ q.k ≤ 3) (bs' bn bq bd bw bt' : Nat) (lk : Rp) (hb : Bq (f.Ex N X.act) f w bs' bn bq bd n q) (hw : Fx (f.Ex N X.act) w bw #[uu lk.c, uu lk.n] 38) (ht : Fx (f.Ex N X.act) w bt' #[uw lk.sp, uu lk.sl] 34) (r : Rp) (vp : Value) (hr : r.k = 6) : Calls Tryz.prog 148 #[.agg (rpc r vp).toArray, pz bs', pz bn, pz bq, pz bw, pz bd, pz bt'] w (Got f N X w (askF X { akF n { zQ with k := 6, c := lk.c, n := lk.n, sp := lk.sp, sl := lk.sl } with st := 2, was := q, hm := n }) zS) := by
 obtain ⟨vw, vs, dv, h1, h2, h3, h4, h5, h6⟩ := hb.of
 obtain ⟨fn, fi, cp, rfl⟩ := h6.func hk
 obtain ⟨wa, wc, rfl⟩ := h4.ws.shape
 obtain ⟨sa, sc, rfl⟩ := h4.sk.shape
 obtain ⟨W1, hW1⟩ := xj ((w.alloc (.cells (rpc r vp).toArray 49)).alloc (.cells RZ 41))
 obtain ⟨qc, hqc⟩ := xj (rqc q (.slice wa q.ws.length wc) (.slice sa q.sk.length sc)).toArray
 rw [hqc] at h3
 have X0 := nq (Cx.start u.sc u.nk (fc ht (fc h5 (fc hw (fc h3 (fc h2 (fc h1 nb))))))) hW1
 have k0 : W1.cell? ⟨w.heap.size, 0, none⟩ = some (iw r.k) := X0.out.bc
 have k9 : W1.cell? ⟨w.heap.size, 9, none⟩ = some (uw r.ap) := X0.out.bc
 have k10 : W1.cell? ⟨w.heap.size, 10, none⟩ = some (uu r.al) := X0.out.bc
 have c1 : W1.cell? ⟨bs', 0, none⟩ = some (pz f.sb) := X0.out.bc
 have c2 : W1.cell? ⟨bn, 0, none⟩ = some (iw (n : Int)) := X0.out.bc
 have c3 : Hid (W1.heap[bq]? = some (.cells qc 53 (0, 0))) := X0.out.bx (by simp)
 have c4 : W1.cell? ⟨bd, 0, none⟩ = some (.func fn fi cp) := X0.out.bc
 have c5 : W1.cell? ⟨bw, 0, none⟩ = some (uu lk.c) := X0.out.bc
 have c6 : W1.cell? ⟨bw, 1, none⟩ = some (uu lk.n) := X0.out.bc
 have c7 : W1.cell? ⟨bt', 0, none⟩ = some (uw lk.sp) := X0.out.bc
 have c8 : W1.cell? ⟨bt', 1, none⟩ = some (uu lk.sl) := X0.out.bc
 have hs : (Tryz.prog.info? 53).map (·.size) = some qc.size := by rw [← hqc]; kernel_rfl
 have hr5 : (r.k == 5) = false := by rw [hr]; rfl
 have hr6 : (r.k == 6) = true := by rw [hr]; rfl
 have CU := gh (unlock149 (u.of X0.out) n hn q { zQ with k := 6, c := lk.c, n := lk.n, sp := lk.sp, sl := lk.sl } _ _ fn fi cp qc _ hqc.symm rfl rfl rfl (h4.stay X0.out.stay0) (h6.stay X0.out.stay0 (SameF.refl f))) (X0.out.less (Lo' := []) nb)
 clear u hb hw ht h1 h2 h3 h4 h5 h6 hqc hr
 go_enter Tryz.func148, Tryz.ntmps148
 go_wp2_with (refine wpList_load_row rfl 53 _ rfl bq rfl 53 _ (0, 0) _ c3.out Tryz.underlying53 rfl hs ?_)
 refine (CU.out (by trivial)).mono ?_
 rintro e w2 ⟨rfl, f', x2, hsb, hbd⟩
 have X2 : Hid _ := x2
 have HF : Hid _ := And.intro hsb hbd
 clear x2 hsb hbd CU X0 hW1 k0 k9 k10 c1 c2 c3 c4 c5 c6 c7 c8
 unfold rsV
 go_wp2_with (refine sr X2.out ?_)
 refine bj X2.out ?_
 exact ej X2.out HF.out
theorem pass150 (u : Un f N X 9 w) (ho : X.op.k ≠ 0) (n : Nat) (hn : n < 4294967296) (q : Rq) (lk : Rp) (vw : Value) (sa : Option Addr) (sc : Nat) (o1 : vw.oneCell' = true) (fn : Fn) (fi cp qc : Array Value) (hqc : qc = (rqc q vw (.slice sa q.sk.length sc)).toArray) (hq : QF (f.Ex N X.act) q vw (.slice sa q.sk.length sc) w) (hd : DoAt (f.Ex N X.act) f w q.k (.func fn fi cp)) (hk : q.k ≤ 3) :
  Calls Tryz.prog 150 #[pz f.sb, iw (n : Int), .agg qc, .agg #[uu lk.c, uu lk.n], .func fn fi cp] w (Got f N X w (passR X n q lk).1 (passR X n q lk).2) := by
 unfold passR
 by_cases h3 : q.k = 3
 ·rw [if_pos h3]
  exact pass150a u ho n q ⟨lk.c, lk.n⟩ vw sa sc fn fi cp qc hqc h3
 ·rw [if_neg h3]
  by_cases h16 : 16 ≤ q.sk.length
  ·rw [if_pos h16]
   exact pass150b u ho n q ⟨lk.c, lk.n⟩ vw sa sc fn fi cp qc hqc h3 h16
  ·rw [if_neg h16]
   exact pass150c u n hn q ⟨lk.c, lk.n⟩ vw sa sc o1 fn fi cp qc hqc hq hd hk h3 h16
theorem push148c (u : Un f N X 9 w) (n : Nat) (hn : n < 4294967296) (q : Rq) (hk : 1 ≤ q.k ∧ q.k ≤ 3) (bs' bn bq bd bw bt' : Nat) (lk : Rp) (hb : Bq (f.Ex N X.act) f w bs' bn bq bd n q) (hw : Fx (f.Ex N X.act) w bw #[uu lk.c, uu lk.n] 38) (ht : Fx (f.Ex N X.act) w bt' #[uw lk.sp, uu lk.sl] 34) (r : Rp) (vp : Value) (ho : X.op.k ≠ 0) (hr : r.k = 8) : Calls Tryz.prog 148 #[.agg (rpc r vp).toArray, pz bs', pz bn, pz bq, pz bw, pz bd, pz bt'] w (Got f N X w (passR X n q lk).1 (passR X n q lk).2) := by
 obtain ⟨vw, vs, dv, h1, h2, h3, h4, h5, h6⟩ := hb.of
 obtain ⟨fn, fi, cp, rfl⟩ := h6.func hk
 obtain ⟨wa, wc, rfl⟩ := h4.ws.shape
 obtain ⟨sa, sc, rfl⟩ := h4.sk.shape
 obtain ⟨W1, hW1⟩ := xj ((w.alloc (.cells (rpc r vp).toArray 49)).alloc (.cells RZ 41))
 obtain ⟨qc, hqc⟩ := xj (rqc q (.slice wa q.ws.length wc) (.slice sa q.sk.length sc)).toArray
 rw [hqc] at h3
 have X0 := nq (Cx.start u.sc u.nk (fc ht (fc h5 (fc hw (fc h3 (fc h2 (fc h1 nb))))))) hW1
 have k0 : W1.cell? ⟨w.heap.size, 0, none⟩ = some (iw r.k) := X0.out.bc
 have k9 : W1.cell? ⟨w.heap.size, 9, none⟩ = some (uw r.ap) := X0.out.bc
 have k10 : W1.cell? ⟨w.heap.size, 10, none⟩ = some (uu r.al) := X0.out.bc
 have c1 : W1.cell? ⟨bs', 0, none⟩ = some (pz f.sb) := X0.out.bc
 have c2 : W1.cell? ⟨bn, 0, none⟩ = some (iw (n : Int)) := X0.out.bc
 have c3 : Hid (W1.heap[bq]? = some (.cells qc 53 (0, 0))) := X0.out.bx (by simp)
 have c4 : W1.cell? ⟨bd, 0, none⟩ = some (.func fn fi cp) := X0.out.bc
 have c5 : W1.cell? ⟨bw, 0, none⟩ = some (uu lk.c) := X0.out.bc
 have c6 : W1.cell? ⟨bw, 1, none⟩ = some (uu lk.n) := X0.out.bc
 have c7 : W1.cell? ⟨bt', 0, none⟩ = some (uw lk.sp) := X0.out.bc
 have c8 : W1.cell? ⟨bt', 1, none⟩ = some (uu lk.sl) := X0.out.bc
 have hs : (Tryz.prog.info? 53).map (·.size) = some qc.size := by rw [← hqc]; kernel_rfl
 have hr5 : (r.k == 5) = false := by rw [hr]; rfl
 have hr6 : (r.k == 6) = false := by rw [hr]; rfl
 have hr8 : (r.k == 8) = true := by rw [hr]; rfl
 have CU := gh (pass150 (u.of X0.out) ho n hn q lk _ sa sc rfl fn fi cp qc hqc.symm (h4.stay X0.out.stay0) (h6.stay X0.out.stay0 (SameF.refl f)) hk.2) (X0.out.less (Lo' := []) nb)
 clear u hb hw ht h1 h2 h3 h4 h5 h6 hqc hr
 go_enter Tryz.func148, Tryz.ntmps148
 go_wp2_with (refine wpList_load_row rfl 53 _ rfl bq rfl 53 _ (0, 0) _ c3.out Tryz.underlying53 rfl hs ?_)
 refine (CU.out (by trivial)).mono ?_
 rintro e w2 ⟨rfl, f', x2, hsb, hbd⟩
 have X2 : Hid _ := x2
 have HF : Hid _ := And.intro hsb hbd
 clear x2 hsb hbd CU X0 hW1 k0 k9 k10 c1 c2 c3 c4 c5 c6 c7 c8
 unfold rsV
 go_wp2_with (refine sr X2.out ?_)
 refine bj X2.out ?_
 exact ej X2.out HF.out
theorem push148d (u : Un f N X 9 w) (n : Nat) (hn : n < 4294967296) (q : Rq) (hk : 1 ≤ q.k ∧ q.k ≤ 3) (bs' bn bq bd bw bt' : Nat) (lk : Rp) (hb : Bq (f.Ex N X.act) f w bs' bn bq bd n q) (hw : Fx (f.Ex N X.act) w bw #[uu lk.c, uu lk.n] 38) (ht : Fx (f.Ex N X.act) w bt' #[uw lk.sp, uu lk.sl] 34) (r : Rp) (vp : Value) (ho : X.op.k ≠ 0) (hr5 : r.k ≠ 5) (hr6 : r.k ≠ 6) (hr8 : r.k ≠ 8) : Calls Tryz.prog 148 #[.agg (rpc r vp).toArray, pz bs', pz bn, pz bq, pz bw, pz bd, pz bt'] w (Got f N X w (stopR X (wrongF r)).1 (stopR X (wrongF r)).2) := by
 obtain ⟨sf, hsf, ent, hcs⟩ := stop_fn f.sb X ho
 obtain ⟨vw, vs, dv, h1, h2, h3, h4, h5, h6⟩ := hb.of
 obtain ⟨fn, fi, cp, rfl⟩ := h6.func hk
 obtain ⟨wa, wc, rfl⟩ := h4.ws.shape
 obtain ⟨sa, sc, rfl⟩ := h4.sk.shape
 obtain ⟨W1, hW1⟩ := xj ((w.alloc (.cells (rpc r vp).toArray 49)).alloc (.cells RZ 41))
 obtain ⟨qc, hqc⟩ := xj (rqc q (.slice wa q.ws.length wc) (.slice sa q.sk.length sc)).toArray
 rw [hqc] at h3
 have X0 := nq (Cx.start u.sc u.nk (fc ht (fc h5 (fc hw (fc h3 (fc h2 (fc h1 nb))))))) hW1
 have k0 : W1.cell? ⟨w.heap.size, 0, none⟩ = some (iw r.k) := X0.out.bc
 have XD : Hid _ := X0.out.drew
 have HU : Hid (Un f N X 9 w) := u
 have h5b : (r.k == 5) = false := by simp [hr5]
 have h6b : (r.k == 6) = false := by simp [hr6]
 have h8b : (r.k == 8) = false := by simp [hr8]
 clear u hb hw ht h1 h2 h3 h4 h5 h6 hqc hr5 hr6 hr8 ho X0
 go_enter Tryz.func148, Tryz.ntmps148
 go_upto_region 8 with fail
 have SN : Hid (∀ (f2 : Fo) (X2 : Ss) W, Cx (f.In X.act) N w f2 X2 ((w.heap.size, (rpc r vp).toArray, 49) :: [(bt', #[uw lk.sp, uu lk.sl], 34), (bd, #[.func fn fi cp], 97), (bw, #[uu lk.c, uu lk.n], 38), (bq, qc, 53), (bn, #[iw (n : Int)], 3), (bs', #[pz f.sb], 24)]) [(w.heap.size + 1, RZ, 41)] W → W.cell? ⟨bs', 0, none⟩ = some (pz f.sb) ∧ W.rangeAt w.heap.size 0 (rpc r vp)) := fun f2 X2 W c => ⟨c.bc, range_box (n := 14) (c.bx (b := w.heap.size) (cs := (rpc r vp).toArray) (ty := 49) (by simp))⟩
 have C82 : Hid (∀ W, Cx (f.In X.act) N w f X ((w.heap.size, (rpc r vp).toArray, 49) :: [(bt', #[uw lk.sp, uu lk.sl], 34), (bd, #[.func fn fi cp], 97), (bw, #[uu lk.c, uu lk.n], 38), (bq, qc, 53), (bn, #[iw (n : Int)], 3), (bs', #[pz f.sb], 24)]) [(w.heap.size + 1, RZ, 41)] W → Calls Tryz.prog 82 #[.agg (rpc r vp).toArray] W fun e w' => e = .returned (iw (wrongF r)) ∧ Cx (f.In X.act) N w f X ((w.heap.size, (rpc r vp).toArray, 49) :: [(bt', #[uw lk.sp, uu lk.sl], 34), (bd, #[.func fn fi cp], 97), (bw, #[uu lk.c, uu lk.n], 38), (bq, qc, 53), (bn, #[iw (n : Int)], 3), (bs', #[pz f.sb], 24)]) [(w.heap.size + 1, RZ, 41)] w') := fun W c => (errorOf82 r vp W).mono fun e w' ⟨h1, h2⟩ => ⟨h1, c.on h2⟩
 have CS : Hid (∀ W, Cx (f.In X.act) N w f X ((w.heap.size, (rpc r vp).toArray, 49) :: [(bt', #[uw lk.sp, uu lk.sl], 34), (bd, #[.func fn fi cp], 97), (bw, #[uu lk.c, uu lk.n], 38), (bq, qc, 53), (bn, #[iw (n : Int)], 3), (bs', #[pz f.sb], 24)]) [(w.heap.size + 1, RZ, 41)] W → Calls Tryz.prog sf #[pz f.sb, iw (wrongF r)] W fun e w' => e = .returned (rsV (stopR X (wrongF r)).2) ∧ ∃ f', Cx (f.In X.act) N w f' (stopR X (wrongF r)).1 ((w.heap.size, (rpc r vp).toArray, 49) :: [(bt', #[uw lk.sp, uu lk.sl], 34), (bd, #[.func fn fi cp], 97), (bw, #[uu lk.c, uu lk.n], 38), (bq, qc, 53), (bn, #[iw (n : Int)], 3), (bs', #[pz f.sb], 24)]) [(w.heap.size + 1, RZ, 41)] w' ∧ f'.sb = f.sb ∧ Bd f' (stopR X (wrongF r)).1) := fun W c => (hcs f _ W (wrongF r) rfl ((HU.out.of c).le (by decide))).mono fun e w' g => Got.next (N0 := N) c g
 have S7 : Hid (∀ W, Cx (f.In X.act) N w f X ((w.heap.size, (rpc r vp).toArray, 49) :: [(bt', #[uw lk.sp, uu lk.sl], 34), (bd, #[.func fn fi cp], 97), (bw, #[uu lk.c, uu lk.n], 38), (bq, qc, 53), (bn, #[iw (n : Int)], 3), (bs', #[pz f.sb], 24)]) [(w.heap.size + 1, RZ, 41)] W → W.cell? ⟨f.sb, 7, none⟩ = some (.func (.func sf) #[pz f.sb] #[])) := fun W c => block_cell c.sc.blk (by rw [← hsf]; rfl)
 have p7 := S7.out _ XD.out
 generalize wrongF r = er at *
 refine wp_region_held_drew (S := (fun W => W.cell? ⟨bs', 0, none⟩ = some (pz f.sb) ∧ W.rangeAt w.heap.size 0 (rpc r vp))) (by kernel_rfl) (SN.out _ _ _ XD.out) (fun hHeld => ?_)
 refine tw 0 ?_
 refine tq 1 ?_
 refine tq 2 ?_
 refine tl 4 49 w.heap.size 0 (rpc r vp) (fun W hW => hW.2) Tryz.underlying49 ?_
 refine wpAnyH_ready (rs := [3, 5]) (by kernel_rfl) (by simp) ?_
 refine AllReadyH.cons rfl (fun K hK => ?_) (AllReadyH.cons rfl (fun K hK => ?_) AllReadyH.nil)
 go_simp
 refine kj hK (SN.out _ _ _ XD.out) (fun hHeld => ?_)
 clear hK K
 refine rd 5 (fun K hK => ?_)
 go_simp
 refine (C82.out _ XD.out).mono ?_
 rintro e w3 ⟨rfl, h3⟩
 have X3 : Hid _ := h3
 clear h3
 go_wp2_with fail
 refine kj hK (SN.out _ _ _ X3.out) (fun hHeld => ?_)
 clear hK K
 rotate_left 1
 go_simp
 refine (C82.out _ XD.out).mono ?_
 rintro e w3 ⟨rfl, h3⟩
 have X3 : Hid _ := h3
 clear h3
 go_wp2_with fail
 refine kj hK (SN.out _ _ _ X3.out) (fun hHeld => ?_)
 clear hK K
 refine rd 3 (fun K hK => ?_)
 have z7 := S7.out _ X3.out
 go_simp
 refine kj hK (SN.out _ _ _ X3.out) (fun hHeld => ?_)
 clear hK K
 all_goals
  refine rd 6 (fun K hK => ?_)
  go_simp
  refine (CS.out _ X3.out).mono ?_
  rintro e w4 ⟨rfl, f', x4, hsb, hbd⟩
  have X4 : Hid _ := x4
  have HF : Hid _ := And.intro hsb hbd
  clear x4 hsb hbd
  unfold rsV
  go_wp2_with fail
  refine kj hK (SN.out _ _ _ X4.out) (fun hHeld => ?_)
  clear hK K
  refine rd 7 (fun K hK => ?_)
  rw [if_pos (by rfl)]
  refine wp_store_row 41 _ _ rfl (w.heap.size + 1) _ rfl rfl 41 _ (X4.out.bm mc) (by kernel_rfl) rfl (rsc_all _ _ rfl) ?_
  have X5 : Hid _ := X4.out.poke (setRow_kept _ _ (rsc (stopR X er).2 sy).toArray) (setRow_at (X4.out.bm mc)) nb
  have S5 : Hid _ := X5.out.less (Lo' := ((w.heap.size, (rpc r vp).toArray, 49) :: [(bt', #[uw lk.sp, uu lk.sl], 34), (bd, #[.func fn fi cp], 97), (bw, #[uu lk.c, uu lk.n], 38), (bq, qc, 53), (bn, #[iw (n : Int)], 3), (bs', #[pz f.sb], 24)])) (fun _ e => e)
  refine kj hK ⟨X5.out.bc, range_box (n := 14) (X5.out.bx (b := w.heap.size) (cs := (rpc r vp).toArray) (ty := 49) (by simp))⟩ (fun hHeld => ?_)
  clear hK K
  refine wpAnyH_done (by kernel_rfl) ?_ _
  clear hHeld SN C82 CS S7 p7 X3
  go_wp2_with fail
  refine bodyPost_ret (res11 rfl rfl rfl (X5.out.bm mc)) rfl ?_
  exact ⟨rfl, _, X5.out.to, HF.out.1, HF.out.2⟩
theorem push148 (u : Un f N X 9 w) (n : Nat) (hn : n < 4294967296) (q : Rq) (hk : 1 ≤ q.k ∧ q.k ≤ 3) (bs' bn bq bd bw bt' : Nat) (lk : Rp) (hb : Bq (f.Ex N X.act) f w bs' bn bq bd n q) (hw : Fx (f.Ex N X.act) w bw #[uu lk.c, uu lk.n] 38) (ht : Fx (f.Ex N X.act) w bt' #[uw lk.sp, uu lk.sl] 34) (r : Rp) (vp : Value) (ho : X.op.k ≠ 0) (ht3 : q.k = 3 → X.op.k = 6 ∧ X.stg = 1) (hn3 : q.k ≠ 3 → X.op.k ≠ 6) (a : Ak) (h1 : a.hm = n) (h2 : a.was = q) (h3 : a.lk = lk) : Calls Tryz.prog 148 #[.agg (rpc r vp).toArray, pz bs', pz bn, pz bq, pz bw, pz bd, pz bt'] w (Got f N X w (pushF bt X a r).1 (pushF bt X a r).2) := by
 unfold pushF
 rw [h1, h2, h3]
 have hst : X.op.k = 6 → X.stg = 1 := fun e => by
  by_cases h : q.k = 3
  ·exact (ht3 h).2
  ·exact absurd e (hn3 h)
 by_cases h5 : r.k = 5
 ·rw [if_pos h5]
  exact push148a u n hn q hk bs' bn bq bd bw bt' lk hb hw ht r vp h5
 ·rw [if_neg h5]
  by_cases h6 : r.k = 6
  ·rw [if_pos h6]
   exact push148b u n hn q hk bs' bn bq bd bw bt' lk hb hw ht r vp h6
  ·rw [if_neg h6]
   by_cases h8 : r.k = 8
   ·rw [if_pos h8]
    have c := push148c u n hn q hk bs' bn bq bd bw bt' lk hb hw ht r vp ho h8
    unfold passR at c
    by_cases h : q.k = 3
    ·rw [if_pos h] at c ⊢
     rw [stop_eq hst, stopF, if_pos (ht3 h).1] at c
     exact c
    ·rw [if_neg h] at c ⊢
     by_cases h16 : 16 ≤ q.sk.length
     ·rw [if_pos h16] at c ⊢
      rw [stop_eq hst, stopF, if_neg (hn3 h)] at c
      exact c
     ·rw [if_neg h16] at c ⊢
      exact c
   ·rw [if_neg h8, ← stop_eq hst]
    exact push148d u n hn q hk bs' bn bq bd bw bt' lk hb hw ht r vp ho h5 h6 h8
theorem get81a (u : Un f N X 9 w) (b : Nat) (hb : Fx (f.Ex N X.act) w b #[pz f.sb] 24) (r : Rp) (vp : Value) (hr : r.k = 1) : Calls Tryz.prog 81 #[.agg (rpc r vp).toArray, pz b] w (Got f N X w (dropF X) { resF X 2 with fd := r.fd, val := r.val }) := by
 obtain ⟨W1, hW1⟩ := xj ((w.alloc (.cells (rpc r vp).toArray 49)).alloc (.cells RZ 41))
 have X0 := nq (Cx.start u.sc u.nk (fc hb nb)) hW1
 have k0 : W1.cell? ⟨w.heap.size, 0, none⟩ = some (iw r.k) := X0.out.bc
 have c1 : W1.cell? ⟨b, 0, none⟩ = some (pz f.sb) := X0.out.bc
 have h1 : (r.k == 1) = true := by rw [hr]; rfl
 have C : Hid (1 = 1 → Calls Tryz.prog 83 #[pz f.sb] W1 fun e w' => e = .returned (.tuple #[]) ∧ ∃ va, Cx (f.In X.act) N w (f.drop va) (dropF X) ((w.heap.size, (rpc r vp).toArray, 49) :: [(b, #[pz f.sb], 24)]) [(w.heap.size + 1, RZ, 41)] w') := fun _ => (settle83 X0.out.sc).mono fun e w' ⟨h1, va, h2⟩ => ⟨h1, va, X0.out.next h2⟩
 have HBd : Hid (∀ va, Bd (f.drop va) (dropF X)) := fun va => u.bd.drop
 clear u hb hr
 go_enter Tryz.func81, Tryz.ntmps81
 go_wp2_with fail
 refine (C.out (by trivial)).mono ?_
 rintro e w2 ⟨rfl, va, h2⟩
 have X2 : Hid _ := h2
 clear h2 C k0 c1 hW1 X0
 have c1 : w2.cell? ⟨b, 0, none⟩ = some (pz f.sb) := X2.out.bc
 have k2 : w2.cell? ⟨w.heap.size, 2, none⟩ = some (.bool r.fd) := X2.out.bc
 have k3 : w2.cell? ⟨w.heap.size, 3, none⟩ = some (sd r.val) := X2.out.bc
 have C2 : Hid (1 = 1 → Calls Tryz.prog 78 #[pz f.sb, .bool r.fd, sd r.val] w2 fun e w' => e = .returned (rsV { resF X 2 with fd := r.fd, val := r.val }) ∧ Cx (f.In X.act) N w (f.drop va) (dropF X) ((w.heap.size, (rpc r vp).toArray, 49) :: [(b, #[pz f.sb], 24)]) [(w.heap.size + 1, RZ, 41)] w') := fun _ => (toldValue78 r.fd r.val X2.out.sc).mono fun e w' ⟨h1, h2⟩ => ⟨h1, X2.out.on h2⟩
 clear X2
 go_wp2_with fail
 refine (C2.out (by trivial)).mono ?_
 rintro r' w3 ⟨rfl, h3⟩
 have X3 : Hid _ := h3
 clear h3 C2 c1 k2 k3
 unfold rsV
 go_wp2_with (refine sr X3.out ?_)
 refine bj X3.out ?_
 exact ⟨rfl, _, (X3.out.poke (setRow_kept _ _ _) (setRow_at (X3.out.bm mc)) nb).to, rfl, HBd.out va⟩
theorem get81b (u : Un f N X 9 w) (b : Nat) (hb : Fx (f.Ex N X.act) w b #[pz f.sb] 24) (r : Rp) (vp : Value) (ho : X.op.k ≠ 0) (hr : r.k ≠ 1) : Calls Tryz.prog 81 #[.agg (rpc r vp).toArray, pz b] w (Got f N X w (stopR X (wrongF r)).1 (stopR X (wrongF r)).2) := by
 obtain ⟨sf, hsf, ent, hcs⟩ := stop_fn f.sb X ho
 obtain ⟨W1, hW1⟩ := xj ((w.alloc (.cells (rpc r vp).toArray 49)).alloc (.cells RZ 41))
 have X0 := nq (Cx.start u.sc u.nk (fc hb nb)) hW1
 have k0 : W1.cell? ⟨w.heap.size, 0, none⟩ = some (iw r.k) := X0.out.bc
 have XD : Hid _ := X0.out.drew
 have HU : Hid (Un f N X 9 w) := u
 have h1b : (r.k == 1) = false := by simp [hr]
 clear u hb hr ho X0
 go_enter Tryz.func81, Tryz.ntmps81
 go_upto_region 2 with fail
 have SN : Hid (∀ (f2 : Fo) (X2 : Ss) W, Cx (f.In X.act) N w f2 X2 ((w.heap.size, (rpc r vp).toArray, 49) :: [(b, #[pz f.sb], 24)]) [(w.heap.size + 1, RZ, 41)] W → W.cell? ⟨b, 0, none⟩ = some (pz f.sb) ∧ W.rangeAt w.heap.size 0 (rpc r vp)) := fun f2 X2 W c => ⟨c.bc, range_box (n := 14) (c.bx (b := w.heap.size) (cs := (rpc r vp).toArray) (ty := 49) (by simp))⟩
 have C82 : Hid (∀ W, Cx (f.In X.act) N w f X ((w.heap.size, (rpc r vp).toArray, 49) :: [(b, #[pz f.sb], 24)]) [(w.heap.size + 1, RZ, 41)] W → Calls Tryz.prog 82 #[.agg (rpc r vp).toArray] W fun e w' => e = .returned (iw (wrongF r)) ∧ Cx (f.In X.act) N w f X ((w.heap.size, (rpc r vp).toArray, 49) :: [(b, #[pz f.sb], 24)]) [(w.heap.size + 1, RZ, 41)] w') := fun W c => (errorOf82 r vp W).mono fun e w' ⟨h1, h2⟩ => ⟨h1, c.on h2⟩
 have CS : Hid (∀ W, Cx (f.In X.act) N w f X ((w.heap.size, (rpc r vp).toArray, 49) :: [(b, #[pz f.sb], 24)]) [(w.heap.size + 1, RZ, 41)] W → Calls Tryz.prog sf #[pz f.sb, iw (wrongF r)] W fun e w' => e = .returned (rsV (stopR X (wrongF r)).2) ∧ ∃ f', Cx (f.In X.act) N w f' (stopR X (wrongF r)).1 ((w.heap.size, (rpc r vp).toArray, 49) :: [(b, #[pz f.sb], 24)]) [(w.heap.size + 1, RZ, 41)] w' ∧ f'.sb = f.sb ∧ Bd f' (stopR X (wrongF r)).1) := fun W c => (hcs f _ W (wrongF r) rfl ((HU.out.of c).le (by decide))).mono fun e w' g => Got.next (N0 := N) c g
 have S7 : Hid (∀ W, Cx (f.In X.act) N w f X ((w.heap.size, (rpc r vp).toArray, 49) :: [(b, #[pz f.sb], 24)]) [(w.heap.size + 1, RZ, 41)] W → W.cell? ⟨f.sb, 7, none⟩ = some (.func (.func sf) #[pz f.sb] #[])) := fun W c => block_cell c.sc.blk (by rw [← hsf]; rfl)
 have p7 := S7.out _ XD.out
 generalize wrongF r = er at *
 refine wp_region_held_drew (S := (fun W => W.cell? ⟨b, 0, none⟩ = some (pz f.sb) ∧ W.rangeAt w.heap.size 0 (rpc r vp))) (by kernel_rfl) (SN.out _ _ _ XD.out) (fun hHeld => ?_)
 refine tw 0 ?_
 refine tq 1 ?_
 refine tq 2 ?_
 refine tl 4 49 w.heap.size 0 (rpc r vp) (fun W hW => hW.2) Tryz.underlying49 ?_
 refine wpAnyH_ready (rs := [3, 5]) (by kernel_rfl) (by simp) ?_
 refine AllReadyH.cons rfl (fun K hK => ?_) (AllReadyH.cons rfl (fun K hK => ?_) AllReadyH.nil)
 go_simp
 refine kj hK (SN.out _ _ _ XD.out) (fun hHeld => ?_)
 clear hK K
 refine rd 5 (fun K hK => ?_)
 go_simp
 refine (C82.out _ XD.out).mono ?_
 rintro e w3 ⟨rfl, h3⟩
 have X3 : Hid _ := h3
 clear h3
 go_wp2_with fail
 refine kj hK (SN.out _ _ _ X3.out) (fun hHeld => ?_)
 clear hK K
 rotate_left 1
 go_simp
 refine (C82.out _ XD.out).mono ?_
 rintro e w3 ⟨rfl, h3⟩
 have X3 : Hid _ := h3
 clear h3
 go_wp2_with fail
 refine kj hK (SN.out _ _ _ X3.out) (fun hHeld => ?_)
 clear hK K
 refine rd 3 (fun K hK => ?_)
 have z7 := S7.out _ X3.out
 go_simp
 refine kj hK (SN.out _ _ _ X3.out) (fun hHeld => ?_)
 clear hK K
 all_goals
  refine rd 6 (fun K hK => ?_)
  go_simp
  refine (CS.out _ X3.out).mono ?_
  rintro e w4 ⟨rfl, f', x4, hsb, hbd⟩
  have X4 : Hid _ := x4
  have HF : Hid _ := And.intro hsb hbd
  clear x4 hsb hbd
  unfold rsV
  go_wp2_with fail
  refine kj hK (SN.out _ _ _ X4.out) (fun hHeld => ?_)
  clear hK K
  refine rd 7 (fun K hK => ?_)
  rw [if_pos (by rfl)]
  refine wp_store_row 41 _ _ rfl (w.heap.size + 1) _ rfl rfl 41 _ (X4.out.bm mc) (by kernel_rfl) rfl (rsc_all _ _ rfl) ?_
  have X5 : Hid _ := X4.out.poke (setRow_kept _ _ (rsc (stopR X er).2 sy).toArray) (setRow_at (X4.out.bm mc)) nb
  have S5 : Hid _ := X5.out.less (Lo' := ((w.heap.size, (rpc r vp).toArray, 49) :: [(b, #[pz f.sb], 24)])) (fun _ e => e)
  refine kj hK ⟨X5.out.bc, range_box (n := 14) (X5.out.bx (b := w.heap.size) (cs := (rpc r vp).toArray) (ty := 49) (by simp))⟩ (fun hHeld => ?_)
  clear hK K
  refine wpAnyH_done (by kernel_rfl) ?_ _
  clear hHeld SN C82 CS S7 p7 X3
  go_wp2_with fail
  refine bodyPost_ret (res11 rfl rfl rfl (X5.out.bm mc)) rfl ?_
  exact ⟨rfl, _, X5.out.to, HF.out.1, HF.out.2⟩
theorem get81 (u : Un f N X 9 w) (b : Nat) (hb : Fx (f.Ex N X.act) w b #[pz f.sb] 24) (r : Rp) (vp : Value) (ho : X.op.k ≠ 0) (ht : X.op.k ≠ 6) (a : Ak) (ha : a.q.k = 1) (hr : r.k ≠ 3) : Calls Tryz.prog 81 #[.agg (rpc r vp).toArray, pz b] w (Got f N X w (ansF bt X a r).1 (ansF bt X a r).2) := by
 unfold ansF
 rw [if_neg hr, ha]
 by_cases h1 : r.k = 1
 ·rw [if_pos ⟨rfl, h1⟩]
  exact get81a u b hb r vp h1
 ·rw [if_neg (fun e => h1 e.2), if_neg (fun e => absurd e.1 (by decide)), if_neg (fun e => absurd e.1 (by decide)), if_neg (fun e => absurd e.1 (by decide)), if_neg (fun e => absurd e.1 (by decide)), ← stop_eq (fun e => absurd e ht)]
  exact get81b u b hb r vp ho h1
theorem homeF_lt (k : List UInt8) (h : X.nsh ≤ 8) : homeF bt X k < 4294967296 := by
 unfold homeF
 cases e : bt.home k X.nsh with
 | none => simp
 | some m => have := home_lt e; simp only [Option.getD_some]; omega
theorem SC.why (h : SC f N X W) (e : Int) (ho : X.op.k = 6) (hs : X.stg = 2) (ha : ∀ a ∈ X.asks, a.ch = true) : SC f N { X with stg := 3, why := e } W := by
 have hb : sbA f { X with stg := 3, why := e } = sbA f X := by
  simp [sbA, vsV, ho, hs]
 exact ⟨by rw [hb]; exact h.blk, h.tx, h.ra, h.ro, h.ea, h.eo, ⟨h.bx.l, h.bx.p, h.bx.c, h.bx.le⟩, h.gb, h.gd, fun x hx => by
  have hc : x.a.ch = true := ha _ (by rw [h.ea]; exact List.mem_map_of_mem hx)
  have k := h.ak x hx
  exact ⟨k.q, k.one, k.tr, k.pu, k.un, k.de, (fun e => by rw [hc] at e; cases e), k.c5, k.c0⟩, h.lk⟩
theorem revoke140 (u : Un f N X 9 w) (hne : X.ws ≠ []) (er : Int) (hy : X.why = er) : Calls Tryz.prog 140 #[pz f.sb, iw er] w (Got f N X w (undoF bt X) zS) := by
 have X0 := (Cx.start (Lo := []) u.sc u.nk nb).box21 #[pz f.sb] 24 #[iw er] 25 RZ 41
 obtain ⟨W1, hW1⟩ := xj (((w.alloc (.cells #[pz f.sb] 24)).alloc (.cells #[iw er] 25)).alloc (.cells RZ 41))
 rw [hW1] at X0
 have HX : Hid (Cx (f.In X.act) N w f X [(w.heap.size + 1, #[iw er], 25), (w.heap.size, #[pz f.sb], 24)] [(w.heap.size + 2, RZ, 41)] W1.drew) := X0.drew
 have HU : Hid (Un f N X 9 w) := u
 obtain ⟨hm, hhm⟩ := xj (homeF bt X (priF X))
 have SN : Hid (∀ (f' : Fo) (X' : Ss) W, Cx (f.In X.act) N w f' X' [(w.heap.size + 1, #[iw er], 25), (w.heap.size, #[pz f.sb], 24)] [(w.heap.size + 2, RZ, 41)] W → W.cell? ⟨w.heap.size, 0, none⟩ = some (pz f.sb)) := fun f' X' W c => c.bc
 have C137 : Hid (∀ W, Cx (f.In X.act) N w f X [(w.heap.size + 1, #[iw er], 25), (w.heap.size, #[pz f.sb], 24)] [(w.heap.size + 2, RZ, 41)] W → Calls Tryz.prog 137 #[pz f.sb] W fun e w' => e = .returned (iw (hm : Int)) ∧ Cx (f.In X.act) N w f X [(w.heap.size + 1, #[iw er], 25), (w.heap.size, #[pz f.sb], 24)] [(w.heap.size + 2, RZ, 41)] w') := fun W c => by
  have k := home137 c.sc u.act hne
  rw [hhm] at k
  exact k.mono fun e w' ⟨h1, h2⟩ => ⟨h1, c.on h2⟩
 have C133 : Hid (∀ W, Cx (f.In X.act) N w f X [(w.heap.size + 1, #[iw er], 25), (w.heap.size, #[pz f.sb], 24)] [(w.heap.size + 2, RZ, 41)] W → Calls Tryz.prog 133 #[pz f.sb] W fun e w' => e = .returned (.agg (rqc (undoQ X) sy sy).toArray) ∧ Cx (f.In X.act) N w f X [(w.heap.size + 1, #[iw er], 25), (w.heap.size, #[pz f.sb], 24)] [(w.heap.size + 2, RZ, 41)] w') := fun W c => (undo133 c.sc u.act).mono fun e w' ⟨h1, h2⟩ => ⟨h1, c.on h2⟩
 have C116 : Hid (∀ W, Cx (f.In X.act) N w f X [(w.heap.size + 1, #[iw er], 25), (w.heap.size, #[pz f.sb], 24)] [(w.heap.size + 2, RZ, 41)] W → Calls Tryz.prog 116 #[pz f.sb, iw (hm : Int), .agg (rqc (undoQ X) sy sy).toArray, (.func (.func 157) #[] #[pz w.heap.size, .pointer (some ⟨w.heap.size + 1, 0, none⟩)])] W fun e w' => e = .returned (.tuple #[]) ∧ ∃ f', Cx (f.In X.act) N w f' (undoF bt X) [(w.heap.size + 1, #[iw er], 25), (w.heap.size, #[pz f.sb], 24)] [(w.heap.size + 2, RZ, 41)] w' ∧ f'.sb = f.sb ∧ Bd f' (undoF bt X)) := fun W c => by
  have hN : hm < 4294967296 := by rw [← hhm]; exact homeF_lt _ u.ns.2
  have ha : AkIs (f.Ex (Nm N [(w.heap.size + 2, RZ, 41)]) X.act) f X W ⟨{ akF hm (undoQ X) with sq := X.sq + 1 }, sy, sy, (.func (.func 157) #[] #[pz w.heap.size, .pointer (some ⟨w.heap.size + 1, 0, none⟩)])⟩ := ⟨qf_nil _ _ _ rfl rfl, ⟨rfl, rfl, rfl⟩, (fun _ _ e => absurd (show (6 : Int) ≤ 3 from e) (by decide)), (fun _ e => by cases e), (fun _ e => by cases e), (fun _ _ e => absurd (show (6 : Int) = 4 from e) (by decide)), (fun _ _ _ => ⟨_, _, rfl, c.fx (by simp), by rw [hy]; exact c.fx (by simp)⟩), (fun e => by cases e), (fun e => by cases e)⟩
  have hX : undoF bt X = askF X (akF hm (undoQ X)) := by rw [← hhm]; rfl
  rw [hX]
  exact (ask116 c.sc u.rm.room hm (akF hm (undoQ X)) sy sy (.func 157) #[] _ _ rfl rfl rfl hN ha).mono fun e w' ⟨h1, va, vo, h2⟩ => ⟨h1, _, c.next h2, rfl, u.bd.ask rfl⟩
 generalize (rqc (undoQ X) sy sy).toArray = qc at *
 generalize undoF bt X = XU at *
 clear u X0 hhm hy hne
 go_enter Tryz.func140, Tryz.ntmps140
 go_upto_region 1 with fail
 go_region_held3 (fun W => W.cell? ⟨w.heap.size, 0, none⟩ = some (pz f.sb))
  (first | exact SN.out _ _ _ HX.out)
  (first
  | (go_at_call 137; refine (C137.out _ HX.out).mono ?_; rintro e w2 ⟨rfl, h2⟩; have HY : Hid _ := h2; clear h2 HX; have HX := HY; clear HY)
  | (go_at_call 133; refine (C133.out _ HX.out).mono ?_; rintro e w2 ⟨rfl, h2⟩; have HY : Hid _ := h2; clear h2 HX; have HX := HY; clear HY)
  | (go_at_call 116; refine (C116.out _ HX.out).mono ?_; rintro e w2 ⟨rfl, f', h2, hsb, hbd⟩; have HF : Hid _ := And.intro hsb hbd; clear hsb hbd; have HY : Hid _ := h2; clear h2 HX; have HX := HY; clear HY))
 all_goals
  rename_i hHeld
  clear hHeld C137 C133 C116
  have hr := rsc_all zS sy rfl
  go_wp2_with (refine wpList_store_row rfl 41 _ _ rfl (w.heap.size + 2) (rsc zS sy).toArray rfl rfl 41 _ (HX.out.bm mc) (by kernel_rfl) rfl hr ?_)
  refine bj HX.out ?_
  exact ej HX.out HF.out
end Go.Proofs.YtkdkgdollmmcnaaGreat
