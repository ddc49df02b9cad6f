import Derived.Test.YtkdkgdollmmcnaaGreatWbg
set_option maxHeartbeats 4000000
set_option maxRecDepth 100000
set_option linter.unusedVariables false
set_option linter.unusedSimpArgs false
namespace Go.Proofs.YtkdkgdollmmcnaaGreat
open Go.RowKit Go.Sort Go.Shelf
variable {M M' G N : Nat → Prop} {W W' w : World} {f f' : Fo} {X X' : Ss}
theorem commit33b (u : Un f N X 9 w) (hc : ∀ a ∈ X.asks, a.ch = true) (o : Op) (ho : o.k = 6) (hne : X.ws ≠ []) : Calls Tryz.prog 33 #[pz f.sb] w (Got f N X w (layAsks (bt.parts X.ws X.nsh) 0 { X with op := o, stg := 1, cp := 0, cll := 0, left := 0 }) zS) := by
 obtain ⟨ao, cap, hv, -, -⟩ := WsAt.shape (rw_own (u.sc.tx u.act).2)
 have X0 := (Cx.start (Lo := []) u.sc u.nk nb).box11 #[pz f.sb] 24 RZ 41
 obtain ⟨W1, hW1⟩ := xj ((w.alloc (.cells #[pz f.sb] 24)).alloc (.cells RZ 41))
 rw [hW1] at X0
 have c1 : W1.cell? ⟨w.heap.size, 0, none⟩ = some (pz f.sb) := block_cell (X0.bx (cs := #[pz f.sb]) (ty := 24) (by simp)) rfl
 have p6 : W1.cell? ⟨f.sb, 6, none⟩ = some (pz f.tb) := block_cell X0.sc.blk (by simp [sbA, vtV, u.act])
 have p4 : W1.cell? ⟨f.tb, 4, none⟩ = some (.slice ao X.ws.length cap) := by rw [← hv]; exact block_cell (X0.sc.tx u.act).1 rfl
 have hlz : ((X.ws.length : Int) == 0) = false := by
  have := List.length_pos_iff.2 hne
  simp
  exact hne
 have p7 : W1.cell? ⟨f.sb, 7, none⟩ = some (vsV f.sb X.op.k X.stg) := block_cell X0.sc.blk rfl
 have g7 : W1.frozen? ⟨f.sb, 7, none⟩ = false := block_frozen X0.sc.blk 7
 have XA : Hid (Cx (f.In X.act) N w f { X with op := o, stg := 1 } [(w.heap.size, #[pz f.sb], 24)] [(w.heap.size + 1, RZ, 41)] (W1.setCell ⟨f.sb, 7, none⟩ (.func (.func 88) #[pz f.sb] #[]))) := X0.next (X0.sc.op6 o (set_kept' W1 f.sb 7 (.func (.func 88) #[pz f.sb] #[])) (by
  have e := block_set (j := 7) (.func (.func 88) #[pz f.sb] #[]) X0.sc.blk
  rw [e]
  simp [sbA, vsV, ho]))
 obtain ⟨W2, hW2⟩ := xj (W1.setCell ⟨f.sb, 7, none⟩ (.func (.func 88) #[pz f.sb] #[]))
 rw [hW2] at XA
 have d1 : W2.cell? ⟨w.heap.size, 0, none⟩ = some (pz f.sb) := block_cell (XA.out.bx (cs := #[pz f.sb]) (ty := 24) (by simp)) rfl
 have HU : Hid (Un f N X 9 w) := u
 have HC : Hid (∀ a ∈ X.asks, a.ch = true) := hc
 have HO : Hid (o.k = 6) := ho
 have HV : Hid (f.vw = .slice ao X.ws.length cap) := hv
 have HNE : Hid (X.ws ≠ []) := hne
 rw [lay_parts (bt.parts X.ws X.nsh) { X with op := o, stg := 1, cp := 0, cll := 0 }]
 have HL8 : Hid ((bt.parts X.ws X.nsh).length ≤ 8) := Pla.split_len X.ws (X.nsh : Int)
 have HLE : Hid (∀ n ∈ partsN (bt.parts X.ws X.nsh) (bt.parts X.ws X.nsh).length, n < (bt.parts X.ws X.nsh).length) := fun n hn => parts_lt n hn
 have HNL : Hid ((partsN (bt.parts X.ws X.nsh) (bt.parts X.ws X.nsh).length).length ≤ (bt.parts X.ws X.nsh).length) := parts_len _ _
 have C89 : Hid (1 = 1 → Calls Tryz.prog 89 #[pz f.sb] W2 fun r w' => (∃ v, r = .returned v ∧ w'.ownsRow W2.heap.size 3 1 v (partsN (bt.parts X.ws X.nsh) (bt.parts X.ws X.nsh).length).length (rowC inc (partsN (bt.parts X.ws X.nsh) (bt.parts X.ws X.nsh).length))) ∧ Below W2.heap.size W2 w') := fun _ => parts89 (X := { X with op := o, stg := 1 }) XA.out.sc HU.out.act HU.out.ns HU.out.ws
 have C90a : Hid (∀ W f' X' N', SC f' N' X' W → X'.act = true → X'.ws = X.ws → f'.vw = f.vw → Calls Tryz.prog 90 #[.slice ao X.ws.length cap, iw (X.nsh : Int)] W fun r w' => (∃ g vs, r = .returned (.slice (some ⟨g, 0, none⟩) (bt.parts X.ws X.nsh).length (bt.parts X.ws X.nsh).length) ∧ Pla.Sm W.heap.size g vs (bt.parts X.ws X.nsh) w') ∧ Below W.heap.size W w') := fun W f' X' N' h ha e1 e2 => by
  have hws : WsAt W.heap.size (.slice ao X.ws.length cap) X.ws W := by
   have := rw_own (h.tx ha).2
   rw [e1, e2, HV.out] at this
   exact this
  refine (Pla.split15 X.ws ao cap (X.nsh : Int) W HU.out.ws hws).mono ?_
  rintro r w' ⟨⟨v, rfl, -, h3⟩, h4⟩
  obtain ⟨g, vs, rfl, h5⟩ := h3 (by have := HU.out.ns; omega)
  exact ⟨⟨g, vs, rfl, h5⟩, h4⟩
 generalize bt.parts X.ws X.nsh = L at *
 obtain ⟨ns, hns⟩ := xj (partsN L L.length)
 rw [hns] at C89 HLE HNL ⊢
 generalize vsV f.sb X.op.k X.stg = v7 at *
 clear u X0 hc ho hne hv hns
 go_enter Tryz.func33, Tryz.ntmps33
 go_wp2_with fail
 refine (C89.out (by trivial)).mono ?_
 rintro r w3 ⟨⟨v5, rfl, hr5⟩, hb5⟩
 obtain ⟨a5, cap5, rfl, -, hlc, hcm, -⟩ := rw_own hr5
 obtain ⟨Lp, hp1, hp2⟩ := own_boxesN (n := 0) hr5
 have X3 : Hid (Cx (f.In X.act) N w f { X with op := o, stg := 1 } (Lp ++ [(w.heap.size, #[pz f.sb], 24)]) [(w.heap.size + 1, RZ, 41)] w3) := XA.out.adds hb5 hp1
 have HP : Hid _ := hp2
 clear hr5 hb5 hp1 hp2 XA C89 c1 p6 p4 p7 g7 d1 hW1 hW2
 have a1 := al (W := w3) (.cells #[iw (ns.length : Int)] 3)
 have n1 := heap_alloc_new w3 (.cells #[iw (ns.length : Int)] 3)
 have z1 := size_al w3 (.cells #[iw (ns.length : Int)] 3)
 obtain ⟨W4, hW4⟩ := xj (w3.alloc (.cells #[iw (ns.length : Int)] 3))
 rw [hW4] at a1 n1 z1
 have a2 := al (W := W4) (.cells #[.int .u64 0, .int .u32 0] 34)
 have n2 := heap_alloc_new W4 (.cells #[.int .u64 0, .int .u32 0] 34)
 have n1' : (W4.alloc (.cells #[.int .u64 0, .int .u32 0] 34)).heap[w3.heap.size]? = some (.cells #[iw (ns.length : Int)] 3 (0, 0)) := by rw [a2.block _ (lt_blk n1)]; exact n1
 obtain ⟨W5, hW5⟩ := xj (W4.alloc (.cells #[.int .u64 0, .int .u32 0] 34))
 rw [hW5] at a2 n2 n1'
 have XS : Hid (Cx (f.In X.act) N w { f with ok := 2, xb := W4.heap.size, lb := w3.heap.size, lv := (ns.length : Int), vp := sy } { X with op := o, stg := 1, cp := 0, cll := 0, left := (ns.length : Int) } (Lp ++ [(w.heap.size, #[pz f.sb], 24)]) [(w.heap.size + 1, RZ, 41)] W5) := X3.out.commit (Y := { X with op := o, stg := 1 }) HC.out (ns.length : Int) W4.heap.size w3.heap.size (a1.trans (a2.mono (by omega))) n2 n1' (by omega) (Nat.le_refl _)
 rw [z1] at XS
 obtain ⟨bl, hbl⟩ := xj w3.heap.size
 rw [hbl] at XS z1
 clear X3 a1 a2 n1 n2 n1'
 obtain ⟨X2, hX2⟩ : ∃ X2 : Ss, { X with op := o, stg := 1, cp := 0, cll := 0, left := (ns.length : Int) } = X2 := ⟨_, rfl⟩
 have HX2 : Hid ({ X with op := o, stg := 1, cp := 0, cll := 0, left := (ns.length : Int) } = X2) := hX2
 rw [hX2] at XS ⊢
 clear hX2
 obtain ⟨F2, hF2⟩ : ∃ F2 : Fo, { f with ok := 2, xb := bl + 1, lb := bl, lv := (ns.length : Int), vp := sy } = F2 := ⟨_, rfl⟩
 have HF2 : Hid ({ f with ok := 2, xb := bl + 1, lb := bl, lv := (ns.length : Int), vp := sy } = F2) := hF2
 rw [hF2] at XS
 clear hF2
 have HK2 : Hid (F2.sb = f.sb ∧ F2.xb = bl + 1 ∧ F2.lb = bl ∧ F2.tb = f.tb ∧ F2.ok = 2 ∧ F2.vw = f.vw ∧ F2.lv = (ns.length : Int) ∧ F2.gs = f.gs ∧ F2.gv = f.gv ∧ F2.la = f.la ∧ F2.lo = f.lo) := by show _ ∧ _; rw [← HF2.out]; exact ⟨rfl, rfl, rfl, rfl, rfl, rfl, rfl, rfl, rfl, rfl, rfl⟩
 have HY2 : Hid (X2.act = true ∧ X2.sq = X.sq ∧ X2.op = o ∧ X2.left = (ns.length : Int) ∧ X2.asks = X.asks ∧ X2.ws = X.ws ∧ X2.cl = X.cl ∧ X2.n = X.n ∧ X2.sp = X.sp ∧ X2.sl = X.sl ∧ X2.stg = 1 ∧ X2.nsh = X.nsh) := by show _ ∧ _; rw [← HX2.out]; exact ⟨HU.out.act, rfl, rfl, rfl, rfl, rfl, rfl, rfl, rfl, rfl, rfl, rfl⟩
 have SN0 : Hid (∀ Lo W, (∀ p ∈ [(w.heap.size, #[pz f.sb], 24)], p ∈ Lo) → Cx (f.In X.act) N w F2 X2 Lo [(w.heap.size + 1, RZ, 41)] W → W.cell? ⟨f.tb, 4, none⟩ = some (.slice ao X.ws.length cap) ∧ W.cell? ⟨w.heap.size, 0, none⟩ = some (pz f.sb) ∧ W.cell? ⟨f.sb, 1, none⟩ = some (iw (X.nsh : Int))) := fun Lo W hl c => by
  obtain ⟨k1, k2, k3, k4, k5, k6, -⟩ := HK2.out
  obtain ⟨y1, -, -, -, -, -, -, -, -, -, -, y12⟩ := HY2.out
  refine ⟨?_, block_cell (c.bx (cs := #[pz f.sb]) (ty := 24) (hl _ (by simp))) rfl, ?_⟩
  ·rw [← HV.out, ← k6, ← k4]; exact block_cell (c.sc.tx y1).1 rfl
  ·rw [← k1, ← y12]; exact block_cell c.sc.blk rfl
 have C90 : Hid (∀ W, Cx (f.In X.act) N w F2 X2 (Lp ++ [(w.heap.size, #[pz f.sb], 24)]) [(w.heap.size + 1, RZ, 41)] W → Calls Tryz.prog 90 #[.slice ao X.ws.length cap, iw (X.nsh : Int)] W fun r w' => ∃ (g : Nat) (Lg : List Bo) (vs : List Value), r = .returned (.slice (some ⟨g, 0, none⟩) L.length L.length) ∧ Cx (f.In X.act) N w F2 X2 (Lg ++ (Lp ++ [(w.heap.size, #[pz f.sb], 24)])) [(w.heap.size + 1, RZ, 41)] w' ∧ ∀ (M : Nat → Prop) (W' : World), Fxs M W' Lg → ∀ i, i < L.length → W'.cell? ⟨g, i, none⟩ = some (vs.getD i Pla.nv) ∧ RwF M 3 (vs.getD i Pla.nv) (L.getD i []).length (rowC wrc (L.getD i [])) W') := fun W c => (C90a.out W _ _ _ c.sc HY2.out.1 HY2.out.2.2.2.2.2.1 HK2.out.2.2.2.2.2.1).mono fun r w' ⟨⟨g, vs, h1, h2⟩, h3⟩ => by
  obtain ⟨Lg, b1, b2, b3⟩ := sm_boxes h2
  exact ⟨g, Lg, vs, h1, c.adds h3 b1, b3⟩
 have HD : Hid (Cx (f.In X.act) N w F2 X2 (Lp ++ [(w.heap.size, #[pz f.sb], 24)]) [(w.heap.size + 1, RZ, 41)] W5.drew) := XS.out.drew
 clear XS C90a
 go_upto_region 10 with fail
 go_region_held3 (fun W => W.cell? ⟨f.tb, 4, none⟩ = some (.slice ao X.ws.length cap) ∧ W.cell? ⟨w.heap.size, 0, none⟩ = some (pz f.sb) ∧ W.cell? ⟨f.sb, 1, none⟩ = some (iw (X.nsh : Int)))
  (first | exact SN0.out _ _ (fun p hp => by simp at hp ⊢; simp [hp]) HD.out | exact SN0.out _ _ (fun p hp => by simp at hp ⊢; simp [hp]) XB.out)
  (first
  | (go_at_call 90; refine (C90.out _ HD.out).mono ?_; rintro e w6 ⟨g, Lg, vs, rfl, x6, k6⟩; have XB : Hid _ := x6; have KB : Hid _ := k6; clear x6 k6))
 rename_i hHeld
 clear hHeld SN0 C90 HD
 go_wp2_with fail
 have hlen : ns.length < 9223372036854775808 := by have := HNL.out; have := HL8.out; omega
 have hLl : L.length < 9223372036854775808 := by have := HL8.out; omega
 go_loopw [52] (fun i wr => ∃ (m : Nat) (f' : Fo), m ≤ ns.length ∧ i = iw (m : Int) ∧ Hid (Cx (f.In X.act) N w f' (layN L (ns.take m) X2) (Lg ++ (Lp ++ [(w.heap.size, #[pz f.sb], 24)])) [(w.heap.size + 1, RZ, 41)] wr) ∧ Hid (Lf F2 f' ∧ f'.la.length = f.la.length + m ∧ f'.lo.length = f.lo.length + m ∧ ∀ n, cntA (layN L (ns.take m) X2).asks n = cntA X.asks n)) (fun i _ => ns.length - (intOf i).toNat)
 case atStart => exact ⟨0, F2, Nat.zero_le _, rfl, by rw [List.take_zero]; exact XB, ⟨Lf.refl _, by rw [HK2.out.2.2.2.2.2.2.2.2.2.1]; rfl, by rw [HK2.out.2.2.2.2.2.2.2.2.2.2]; rfl, fun n => by rw [List.take_zero]; show cntA X2.asks n = _; rw [HY2.out.2.2.2.2.1]⟩⟩
 case round =>
  obtain ⟨m, f', hmm, rfl, XM, GM⟩ := hrel
  clear XB
  obtain ⟨Xm, hXm⟩ := xj (layN L (ns.take m) X2)
  have HXm : Hid (layN L (ns.take m) X2 = Xm) := hXm
  rw [hXm] at XM GM
  have HKp : Hid (Xm.act = true ∧ Xm.sq = X.sq + m ∧ Xm.op = o ∧ Xm.left = (ns.length : Int) ∧ Xm.cl = X.cl ∧ Xm.n = X.n ∧ Xm.sp = X.sp ∧ Xm.sl = X.sl ∧ Xm.ws = X.ws ∧ Xm.stg = 1) := by
   obtain ⟨k1, k2, k3, k4, k5, k6, k7, k8, k9, k10, k11⟩ := layN_keep L (ns.take m) X2
   rw [hXm] at k1 k2 k3 k4 k5 k6 k7 k8 k9 k10 k11
   obtain ⟨y1, y2, y3, y4, y5, y6, y7, y8, y9, y10, y11, y12⟩ := HY2.out
   exact ⟨k5.trans y1, by rw [k9, y2, List.length_take, Nat.min_eq_left hmm], k8.trans y3, k10.trans y4, k1.trans y7, k2.trans y8, k3.trans y9, k4.trans y10, k6.trans y6, k11.trans y11⟩
  clear hXm
  have hsb : f'.sb = f.sb := GM.out.1.sb.trans HK2.out.1
  have htb : f'.tb = f.tb := GM.out.1.tb.trans HK2.out.2.2.2.1
  by_cases hml : m < ns.length
  ·have hmi : (m : Int) < ns.length := by omega
   obtain ⟨g5, rfl, hcg⟩ := HP.out _ wr (XM.out.fxs (fun p hp => by simp [hp])) m hml
   have HM : Hid (m + 1 ≤ ns.length) := hml
   have HTS : Hid (ns.take (m + 1) = ns.take m ++ [ns.getD m 0]) := take_snoc hml
   have hnl : ns.getD m 0 < L.length := HLE.out _ (getD_memN hml)
   obtain ⟨nm, hnm⟩ := xj (ns.getD m 0)
   rw [hnm] at hcg HTS hnl
   clear hnm
   have hni : (nm : Int) < L.length := by omega
   have hn0 : ¬ (nm : Int) < 0 := by omega
   have HNm : Hid (nm < 4294967296) := by show _ < _; have := HL8.out; omega
   have KR : Hid (∀ Lm W, Cx (f.In X.act) N w f' Xm (Lg ++ (Lp ++ [(w.heap.size, #[pz f.sb], 24)])) Lm W → W.cell? ⟨g, nm, none⟩ = some (vs.getD nm Pla.nv) ∧ RwF (f'.Ex (Nm N Lm) Xm.act) 3 (vs.getD nm Pla.nv) (L.getD nm []).length (rowC wrc (L.getD nm [])) W) := fun Lm W c => KB.out _ W (c.fxs (fun p hp => by simp [hp])) nm hnl
   obtain ⟨sa, sc, hsv, -, -⟩ := (KR.out _ _ XM.out).2
   rw [hsv] at KR
   obtain ⟨wl, hwl⟩ := xj (L.getD nm []).length
   rw [hwl] at KR
   have HWL : Hid ((L.getD nm []).length = wl) := hwl
   clear hwl hsv
   obtain ⟨pk, hpk⟩ := xj (priF X)
   have HPK : Hid (priF Xm = pk) := by show _ = _; rw [← hpk]; unfold priF; rw [HKp.out.2.2.2.2.2.2.2.2.1]
   clear hpk
   have SN : Hid (∀ Lm W, Cx (f.In X.act) N w f' Xm (Lg ++ (Lp ++ [(w.heap.size, #[pz f.sb], 24)])) Lm W → W.cell? ⟨f.tb, 0, none⟩ = some (uu X.cl) ∧ W.cell? ⟨f.tb, 1, none⟩ = some (uu X.n) ∧ W.cell? ⟨f.tb, 2, none⟩ = some (uw X.sp) ∧ W.cell? ⟨f.tb, 3, none⟩ = some (uu X.sl) ∧ W.cell? ⟨g, nm, none⟩ = some (.slice sa wl sc)) := fun Lm W c => by
    obtain ⟨e1, -, -, -, e3, e4, e5, e6, -⟩ := HKp.out
    have tx := c.sc.tx e1
    rw [← htb, ← e3, ← e4, ← e5, ← e6]
    exact ⟨block_cell tx.1 rfl, block_cell tx.1 rfl, block_cell tx.1 rfl, block_cell tx.1 rfl, (KR.out _ _ c).1⟩
   have C91 : Hid (∀ Lm W, Cx (f.In X.act) N w f' Xm (Lg ++ (Lp ++ [(w.heap.size, #[pz f.sb], 24)])) Lm W → Calls Tryz.prog 91 #[pz f.tb] W fun e w' => e = .returned (sd pk) ∧ W = w') := fun Lm W c => by
    have k := primary91 c.sc HKp.out.1 (by rw [HKp.out.2.2.2.2.2.2.2.2.1]; exact HNE.out)
    rw [HPK.out, htb] at k
    exact k
   have C80 : Hid (∀ bq W, Cx (f.In X.act) N w f' Xm (Lg ++ (Lp ++ [(w.heap.size, #[pz f.sb], 24)])) ((bq, #[iw 3, uu X.cl, uu X.n, uw X.sp, uu X.sl, .int .u64 0, .int .u32 0, sd pk, su, iw 0, .int .u8 0, .slice sa wl sc, sy], 53) :: [(w.heap.size + 1, RZ, 41)]) W → Calls Tryz.prog 80 #[pz f.sb, iw (nm : Int), .agg #[iw 3, uu X.cl, uu X.n, uw X.sp, uu X.sl, .int .u64 0, .int .u32 0, sd pk, su, iw 0, .int .u8 0, .slice sa wl sc, sy], (.func (.func 92) #[] #[.pointer (some ⟨bl + 1, 0, none⟩), pz bl, pz w.heap.size])] W fun e w' => e = .returned (.tuple #[]) ∧ ∃ f2, Cx (f.In X.act) N w f2 (layN L (ns.take (m + 1)) X2) (Lg ++ (Lp ++ [(w.heap.size, #[pz f.sb], 24)])) [(w.heap.size + 1, RZ, 41)] w' ∧ (Lf F2 f2 ∧ f2.la.length = f.la.length + (m + 1) ∧ f2.lo.length = f.lo.length + (m + 1) ∧ ∀ n, cntA (layN L (ns.take (m + 1)) X2).asks n = cntA X.asks n)) := fun bq W c => by
    obtain ⟨l1, l2, l3, l4⟩ := GM.out
    have hx2 : f'.xb = bl + 1 := l1.xb.trans HK2.out.2.1
    have hl2 : f'.lb = bl := l1.lb.trans HK2.out.2.2.1
    have s1 : Fx (f'.Ex (Nm N ((bq, #[iw 3, uu X.cl, uu X.n, uw X.sp, uu X.sl, .int .u64 0, .int .u32 0, sd pk, su, iw 0, .int .u8 0, .slice sa wl sc, sy], 53) :: [(w.heap.size + 1, RZ, 41)])) Xm.act) W w.heap.size #[pz f'.sb] 24 := by rw [hsb]; exact c.fx (by simp)
    have hd : DoAt (f'.Ex (Nm N ((bq, #[iw 3, uu X.cl, uu X.n, uw X.sp, uu X.sl, .int .u64 0, .int .u32 0, sd pk, su, iw 0, .int .u8 0, .slice sa wl sc, sy], 53) :: [(w.heap.size + 1, RZ, 41)])) Xm.act) f' W 3 (.func (.func 92) #[] #[.pointer (some ⟨bl + 1, 0, none⟩), pz bl, pz w.heap.size]) := ⟨w.heap.size, s1, (fun e => absurd e (by decide)), (fun e => absurd e (by decide)), (fun _ => by rw [hx2, hl2])⟩
    have hrm : Room f' Xm := ⟨by rw [HKp.out.2.1]; have := HU.out.rm.sq; have := HM.out; have := HNL.out; have := HL8.out; omega, by rw [l2]; have := HU.out.rm.la; have := HM.out; have := HNL.out; have := HL8.out; omega, by rw [l3]; have := HU.out.rm.lo; have := HM.out; have := HNL.out; have := HL8.out; omega⟩
    have hrw := (KR.out _ _ c).2
    have hqf : QF (f'.Ex (Nm N ((bq, #[iw 3, uu X.cl, uu X.n, uw X.sp, uu X.sl, .int .u64 0, .int .u32 0, sd pk, su, iw 0, .int .u8 0, .slice sa wl sc, sy], 53) :: [(w.heap.size + 1, RZ, 41)])) Xm.act) { zQ with k := 3, c := X.cl, n := X.n, sp := X.sp, sl := X.sl, key := pk, ws := L.getD nm [] } (.slice sa wl sc) sy W := ⟨by have h1 := hrw; rw [← HWL.out] at h1 ⊢; exact h1, RwF.nil _ _ _⟩
    have k := try80 c.sc (fun k hk => (c.nok k hk).1) hrm nm { zQ with k := 3, c := X.cl, n := X.n, sp := X.sp, sl := X.sl, key := pk, ws := L.getD nm [] } (.slice sa wl sc) sy rfl rfl (.func 92) #[] _ #[iw 3, uu X.cl, uu X.n, uw X.sp, uu X.sl, .int .u64 0, .int .u32 0, sd pk, su, iw 0, .int .u8 0, .slice sa wl sc, sy] rfl HNm.out hqf (show (3 : Int) ≤ 3 by decide) hd
    rw [hsb] at k
    have hq : layQ Xm (L.getD nm []) = { zQ with k := 3, c := X.cl, n := X.n, sp := X.sp, sl := X.sl, key := pk, ws := L.getD nm [] } := by
     obtain ⟨-, -, -, -, e3, e4, e5, e6, -⟩ := HKp.out
     unfold layQ
     rw [HPK.out, e3, e4, e5, e6]
    have hsn : layN L (ns.take (m + 1)) X2 = askF Xm (akF nm { zQ with k := 3, c := X.cl, n := X.n, sp := X.sp, sl := X.sl, key := pk, ws := L.getD nm [] }) := by rw [HTS.out, layN_snoc, HXm.out, hq]
    rw [hsn]
    exact k.mono fun e w' ⟨fv, h1, va, vo, h2⟩ => ⟨h1, _, (c.next h2).lessm (fun p hp => List.mem_cons_of_mem _ hp), l1.trans (Lf.ask ..), by simp [Fo.ask, l2]; omega, by simp [Fo.ask, l3]; omega, fun n => by rw [cnt_ask rfl]; exact l4 n⟩
   have HX : Hid (Cx (f.In X.act) N w f' Xm (Lg ++ (Lp ++ [(w.heap.size, #[pz f.sb], 24)])) [(w.heap.size + 1, RZ, 41)] wr.drew) := XM.out.drew
   have SP0 : Hid (∀ Lm W, Cx (f.In X.act) N w f' Xm (Lg ++ (Lp ++ [(w.heap.size, #[pz f.sb], 24)])) Lm W → W.cell? ⟨w.heap.size, 0, none⟩ = some (pz f.sb)) := fun Lm W c => block_cell (c.bx (cs := #[pz f.sb]) (ty := 24) (by simp)) rfl
   clear XM KR GM hsb htb
   go_upto_region 14 with fail
   go_cut [11, 52] from 52 to 76 (fun s11 s52 wc => s52 = iw (m : Int) ∧ ∃ bq, s11 = .pointer (some ⟨bq, 0, none⟩) ∧ Hid (w.heap.size + 1 < bq) ∧ Hid (Cx (f.In X.act) N w f' Xm (Lg ++ (Lp ++ [(w.heap.size, #[pz f.sb], 24)])) ((bq, #[iw 3, uu X.cl, uu X.n, uw X.sp, uu X.sl, .int .u64 0, .int .u32 0, sd pk, su, iw 0, .int .u8 0, .slice sa wl sc, sy], 53) :: [(w.heap.size + 1, RZ, 41)]) wc))
   case first =>
    refine wp_region_held_drew (S := (fun W => W.cell? ⟨f.tb, 0, none⟩ = some (uu X.cl) ∧ W.cell? ⟨f.tb, 1, none⟩ = some (uu X.n) ∧ W.cell? ⟨f.tb, 2, none⟩ = some (uw X.sp) ∧ W.cell? ⟨f.tb, 3, none⟩ = some (uu X.sl) ∧ W.cell? ⟨g, nm, none⟩ = some (.slice sa wl sc))) (by kernel_rfl) (SN.out _ _ HX.out) (fun hHeld => ?_)
    refine tq 0 ?_
    refine tq 1 ?_
    refine tq 2 ?_
    refine tw 3 ?_
    refine tq 4 ?_
    refine tq 5 ?_
    refine tq 6 ?_
    refine tw 7 ?_
    refine tq 8 ?_
    refine tq 10 ?_
    refine tq 11 ?_
    refine tq 12 ?_
    refine tw 13 ?_
    refine wpAnyH_ready (rs := [9, 15]) (by kernel_rfl) (by simp) ?_
    refine AllReadyH.cons rfl (fun K hK => ?_) (AllReadyH.cons rfl (fun K hK => ?_) AllReadyH.nil)
    ·go_simp
     refine (C91.out _ _ HX.out).mono ?_
     rintro e w3 ⟨rfl, rfl⟩
     go_wp2_with fail
     refine kj hK (SN.out _ _ HX.out) (fun hHeld => ?_)
     clear hK K
     refine tq 14 ?_
     refine rd 15 (fun K hK => ?_)
     ·go_simp
      have HL : Hid _ := lt_blk (HX.out.bm mc)
      have HY : Hid _ := HX.out.newm #[iw 0, .int .u32 0, .int .u32 0, .int .u64 0, .int .u32 0, .int .u64 0, .int .u32 0, su, su, iw 0, .int .u8 0, sy, sy] 53
      clear HX
      have HX := HY
      clear HY
      refine kj hK (SN.out _ _ HX.out) (fun hHeld => ?_)
      clear hK K
      refine rd 16 (fun K hK => ?_)
      rw [if_pos (by rfl)]
      refine wp_store_row 53 _ _ rfl _ _ rfl rfl 53 _ (HX.out.bm mc) (by kernel_rfl) rfl (rqc_all { zQ with k := 3, c := X.cl, n := X.n, sp := X.sp, sl := X.sl, key := pk, ws := L.getD nm [] } (.slice sa wl sc) sy rfl rfl) ?_
      have HY : Hid _ := HX.out.poke (setRow_kept _ _ #[iw 3, uu X.cl, uu X.n, uw X.sp, uu X.sl, .int .u64 0, .int .u32 0, sd pk, su, iw 0, .int .u8 0, .slice sa wl sc, sy]) (setRow_at (HX.out.bm mc)) (fun pp hp => by rw [List.mem_singleton] at hp; subst hp; exact Nat.ne_of_lt HL.out)
      clear HX
      have HX := HY
      clear HY
      refine kj hK (SN.out _ _ HX.out) (fun hHeld => ?_)
      clear hK K
      refine wpAnyH_done (by kernel_rfl) ?_ _
      go_wp2_with fail
      go_meet
      case rel => exact ⟨rfl, _, rfl, HL, HX⟩
    ·go_simp
     have HL : Hid _ := lt_blk (HX.out.bm mc)
     have HY : Hid _ := HX.out.newm #[iw 0, .int .u32 0, .int .u32 0, .int .u64 0, .int .u32 0, .int .u64 0, .int .u32 0, su, su, iw 0, .int .u8 0, sy, sy] 53
     clear HX
     have HX := HY
     clear HY
     refine kj hK (SN.out _ _ HX.out) (fun hHeld => ?_)
     clear hK K
     refine rd 9 (fun K hK => ?_)
     ·go_simp
      refine (C91.out _ _ HX.out).mono ?_
      rintro e w3 ⟨rfl, rfl⟩
      go_wp2_with fail
      refine kj hK (SN.out _ _ HX.out) (fun hHeld => ?_)
      clear hK K
      refine tq 14 ?_
      refine rd 16 (fun K hK => ?_)
      rw [if_pos (by rfl)]
      refine wp_store_row 53 _ _ rfl _ _ rfl rfl 53 _ (HX.out.bm mc) (by kernel_rfl) rfl (rqc_all { zQ with k := 3, c := X.cl, n := X.n, sp := X.sp, sl := X.sl, key := pk, ws := L.getD nm [] } (.slice sa wl sc) sy rfl rfl) ?_
      have HY : Hid _ := HX.out.poke (setRow_kept _ _ #[iw 3, uu X.cl, uu X.n, uw X.sp, uu X.sl, .int .u64 0, .int .u32 0, sd pk, su, iw 0, .int .u8 0, .slice sa wl sc, sy]) (setRow_at (HX.out.bm mc)) (fun pp hp => by rw [List.mem_singleton] at hp; subst hp; exact Nat.ne_of_lt HL.out)
      clear HX
      have HX := HY
      clear HY
      refine kj hK (SN.out _ _ HX.out) (fun hHeld => ?_)
      clear hK K
      refine wpAnyH_done (by kernel_rfl) ?_ _
      go_wp2_with fail
      go_meet
      case rel => exact ⟨rfl, _, rfl, HL, HX⟩
   case rest =>
    obtain ⟨rfl, bq, rfl, HL, HQ⟩ := hcut
    clear HX SN C91 hcg
    have e0 : wc.cell? ⟨w.heap.size, 0, none⟩ = some (pz f.sb) := SP0.out _ _ HQ.out
    have eq : Hid (wc.heap[bq]? = some (.cells #[iw 3, uu X.cl, uu X.n, uw X.sp, uu X.sl, .int .u64 0, .int .u32 0, sd pk, su, iw 0, .int .u8 0, .slice sa wl sc, sy] 53 (0, 0))) := HQ.out.bm mc
    have HC80 : Hid _ := HQ.out
    clear SP0 HQ
    go_wp2_with (refine wpList_load_row rfl 53 _ rfl bq rfl 53 _ (0, 0) _ eq.out Tryz.underlying53 rfl (by kernel_rfl) ?_)
    refine (C80.out _ _ HC80.out).mono ?_
    rintro e w6 ⟨rfl, f2, x6, g6⟩
    have X6 : Hid _ := x6
    have G6 : Hid _ := g6
    clear x6 g6 C80 HC80 e0 eq
    go_wp2_with fail
    go_roundw
    case measure =>
     show ns.length - ((m : Int) + 1).toNat < ns.length - ((m : Int)).toNat
     omega
    case rel => exact ⟨m + 1, f2, HM.out, by simp, X6, G6⟩
  ·have hme : ns.take m = ns := List.take_of_length_le (by omega)
   have hmi : ¬ (m : Int) < ns.length := by omega
   have HD : Hid (layN L ns X2 = Xm) := by show _ = _; rw [← HXm.out, hme]
   have HB : Hid (Bd f' Xm) := by
    obtain ⟨l1, l2, l3, l4⟩ := GM.out
    refine ⟨fun e => ?_, fun _ _ => ⟨l1.ok.trans HK2.out.2.2.2.2.1, ?_⟩, fun n hn => ?_⟩
    ·rw [HKp.out.2.2.1, HO.out] at e
     exact absurd e (by decide)
    ·rw [l1.lv, HK2.out.2.2.2.2.2.2.1, HKp.out.2.2.2.1]
    ·rw [l1.gs, HK2.out.2.2.2.2.2.2.2.1] at hn
     rw [l1.gv, HK2.out.2.2.2.2.2.2.2.2.1, l4]
     exact HU.out.bd.gs n hn
   have HS : Hid (f'.sb = f.sb) := hsb
   have hr := rsc_all zS sy rfl
   clear GM hme
   go_wp2_with (refine wpList_store_row rfl 41 _ _ rfl (w.heap.size + 1) (rsc zS sy).toArray rfl rfl 41 _ (XM.out.bm mc) (by kernel_rfl) rfl hr ?_)
   refine bj XM.out ?_
   rw [HX2.out, HD.out]
   exact ⟨rfl, _, (XM.out.poke (setRow_kept _ _ _) (setRow_at (XM.out.bm mc)) (fun pp hp => by cases hp)).to, HS.out, HB.out⟩
theorem chores_but (q : Rq) (h hm : Nat) : ∀ (L : List (List Wr)) (i : Nat) (s : Ss), choresF q (some h) hm L i s = (choreN q hm ((pN L i).filter (· != h)) s, ((pN L i).filter (· != h)).length)
 | [], i, s => rfl
 | p :: l, i, s => by
  unfold choresF pN
  cases hp : p.isEmpty
  ·by_cases e : i = h
   ·subst e
    simp only [ne_eq, not_true_eq_false, and_false, if_false, Bool.false_eq_true]
    rw [chores_but q i hm l (i + 1) s]
    simp
   ·have e2 : ¬ (some h = some i) := fun x => e (by injection x with x; exact x.symm)
    simp only [ne_eq, e2, not_false_eq_true, and_self, if_true, Bool.false_eq_true, if_false]
    rw [chores_but q h hm l (i + 1)]
    rw [List.filter_cons_of_pos (by simpa using e)]
    rfl
  ·simp only [Bool.true_eq_false, false_and, if_false, if_true]
   exact chores_but q h hm l (i + 1) s
theorem cnt_ask5 {a : Ak} {n : Nat} (h : (a.ch && a.q.k == 5) = true) : cntA (askF X a).asks n = cntA X.asks n + (if a.on = n then 1 else 0) := by
 simp only [cntA, askF, List.filter_append, List.length_append]
 congr 1
 by_cases e : a.on = n
 ·rw [if_pos e, List.filter_cons_of_pos (by simp only [h, Bool.true_and, beq_iff_eq]; exact e)]
  rfl
 ·rw [if_neg e, List.filter_cons_of_neg (by simp only [h, Bool.true_and, beq_iff_eq]; exact e)]
  rfl
theorem cnt_chores {q : Rq} (h5 : q.k = 5) (h : Nat) : ∀ (ns : List Nat) (s : Ss) (n : Nat), cntA (choreN q h ns s).asks n = cntA s.asks n + (if s.n = n then ns.length else 0)
 | [], s, n => by simp [choreN]
 | m :: ns, s, n => by
  show cntA (choreN q h ns (askF s _)).asks n = _
  rw [cnt_chores h5 h ns, cnt_ask5 (by simp [akF, h5])]
  show _ + (if s.n = n then 1 else 0) + (if s.n = n then ns.length else 0) = _
  by_cases e : s.n = n
  ·simp [e]
   omega
  ·simp [e]
theorem parts_nodup (L : List (List Wr)) (m : Nat) : (partsN L m).Nodup := List.Pairwise.filter _ List.nodup_range
theorem but_len {ns : List Nat} (hn : ns.Nodup) {h : Nat} (hm : h ∈ ns) : (ns.filter (· != h)).length = ns.length - 1 := by
 rw [← hn.erase_eq_filter h, List.length_erase_of_mem hm]
def Fo.leftAt (f : Fo) (n b : Nat) (v : Int) : Fo := { f with gs := n :: f.gs, gl := fun m => if m = n then b else f.gl m, gv := fun m => if m = n then v else f.gv m }
theorem SC.left0 (h : SC f N X W) (hc : ∀ a ∈ X.asks, a.ch = true) {n : Nat} (hf : ∀ a ∈ X.asks, a.q.k = 5 → a.on ≠ n) (b : Nat) (v : Int) (hb : Below W.heap.size W W') (h1 : W'.heap[b]? = some (.cells #[iw v] 3 (0, 0))) (s1 : W.heap.size ≤ b) : SC (f.leftAt n b v) N X W' ∧ ∀ i, i < W.heap.size → ((f.leftAt n b v) : Fo).In X.act i → f.In X.act i := by
 have B : ∀ {b : Nat} {o : Obj}, W.heap[b]? = some o → W'.heap[b]? = some o := fun {b o} e => by rw [hb.block b (lt_blk e)]; exact e
 have g1 : (f.leftAt n b v).gl n = b := by simp [Fo.leftAt]
 have g2 : ∀ m, m ≠ n → (f.leftAt n b v).gl m = f.gl m := fun m e => by simp [Fo.leftAt, e]
 have v1 : (f.leftAt n b v).gv n = v := by simp [Fo.leftAt]
 have v2 : ∀ m, m ≠ n → (f.leftAt n b v).gv m = f.gv m := fun m e => by simp [Fo.leftAt, e]
 have gm : ∀ m, m ∈ (f.leftAt n b v).gs → m ≠ n → m ∈ f.gs := fun m hm e => by
  rcases List.mem_cons.1 hm with e2 | e2
  ·exact absurd e2 e
  ·exact e2
 have hin : ∀ i, i < W.heap.size → ((f.leftAt n b v) : Fo).In X.act i → f.In X.act i := fun i hi e => by
  rcases e with e | e | e | e | e | ⟨m, hm, e⟩
  ·exact .inl e
  ·exact .inr (.inl e)
  ·exact .inr (.inr (.inl e))
  ·exact .inr (.inr (.inr (.inl e)))
  ·exact .inr (.inr (.inr (.inr (.inl e))))
  ·by_cases e2 : m = n
   ·subst e2
    rw [g1] at e
    omega
   ·rw [g2 m e2] at e
    exact .inr (.inr (.inr (.inr (.inr ⟨m, gm m hm e2, e⟩))))
 have s : Stay (fun _ => False) (f.Ex N X.act) (((f.leftAt n b v) : Fo).Ex N X.act) W W' := ⟨Kept.of_below hb, fun _ e => e.elim, fun k hk e => e.elim .inl (fun e => .inr (hin k hk e))⟩
 refine ⟨⟨B h.blk, fun a => ⟨B (h.tx a).1, own_on (h.tx a).2 hb⟩, own_on h.ra hb, own_on h.ro hb, h.ea, h.eo, ⟨fun a => B (h.bx.l a), fun a => ⟨B (h.bx.p a).1, own_on (h.bx.p a).2.1 hb, (h.bx.p a).2.2.stay s⟩, fun a => ⟨B (h.bx.c a).1, (h.bx.c a).2⟩, h.bx.le⟩, fun m hm => ?_, fun m hm => ⟨fun e e2 => ?_, fun m2 hm2 e2 => ?_⟩, fun x hx => ?_, fun x hx => ⟨(h.lk x hx).1.stay s, (h.lk x hx).2⟩⟩, hin⟩
 ·by_cases e : m = n
  ·subst e
   rw [g1, v1]
   exact h1
  ·rw [g2 m e, v2 m e]
   exact B (h.gb m (gm m hm e))
 ·by_cases e3 : m = n
  ·subst e3
   rw [g1] at e2
   have := lt_blk (h.bx.l e)
   rw [show (f.leftAt m b v).lb = f.lb from rfl] at e2
   omega
  ·rw [g2 m e3] at e2
   exact (h.gd m (gm m hm e3)).1 e e2
 ·by_cases e3 : m = n
  ·by_cases e4 : m2 = n
   ·rw [e3, e4]
   ·subst e3
    rw [g1, g2 m2 e4] at e2
    have := lt_blk (h.gb m2 (gm m2 hm2 e4))
    omega
  ·by_cases e4 : m2 = n
   ·subst e4
    rw [g1, g2 m e3] at e2
    have := lt_blk (h.gb m (gm m hm e3))
    omega
   ·rw [g2 m e3, g2 m2 e4] at e2
    exact (h.gd m (gm m hm e3)).2 m2 (gm m2 hm2 e4) e2
 ·have hxm : x.a ∈ X.asks := by rw [h.ea]; exact List.mem_map_of_mem hx
  have hch : x.a.ch = true := hc _ hxm
  have k := h.ak x hx
  refine ⟨k.q.stay s, k.one, (fun e => by rw [hch] at e; cases e), (fun e => by rw [hch] at e; cases e), (fun e => by rw [hch] at e; cases e), (fun e => by rw [hch] at e; cases e), (fun e => by rw [hch] at e; cases e), fun e1 e2 => ?_, k.c0⟩
  obtain ⟨bf, b1, b2, b3, k1, k2, k3, k4, k5, k6⟩ := k.c5 e1 e2
  have hne := hf _ hxm e2
  exact ⟨bf, b1, b2, b3, List.mem_cons_of_mem _ k1, by rw [g2 _ hne]; exact k2, k3.stay s, k4.stay s, k5.stay s, k6.stay s⟩
theorem Cx.left0 {Lo Lm : List Bo} (c : Cx M N w f X Lo Lm W) (hc : ∀ a ∈ X.asks, a.ch = true) {n : Nat} (hf : ∀ a ∈ X.asks, a.q.k = 5 → a.on ≠ n) (b : Nat) (v : Int) (hb : Below W.heap.size W W') (h1 : W'.heap[b]? = some (.cells #[iw v] 3 (0, 0))) (s1 : W.heap.size ≤ b) : Cx M N w (f.leftAt n b v) X Lo Lm W' := by
 obtain ⟨k1, k2⟩ := c.sc.left0 hc hf b v hb h1 s1
 have hin : ∀ i, ((f.leftAt n b v) : Fo).In X.act i → f.In X.act i ∨ W.heap.size ≤ i := fun i hi => by
  by_cases e : i < W.heap.size
  ·exact .inl (k2 i e hi)
  ·exact .inr (by omega)
 refine ⟨k1, fun i hi => (hin i hi).elim (c.sub i) (fun e => .inr (Nat.le_trans c.kp.size e)), c.kp.trans (Kept.of_below (F := M) hb) (fun i e => .inl e), fun p hp => ⟨by rw [hb.block _ (lt_blk (c.has p hp).1)]; exact (c.has p hp).1, fun e => (c.has p hp).2.1 (k2 _ (lt_blk (c.has p hp).1) e), (c.has p hp).2.2⟩, fun p hp => ⟨by rw [hb.block _ (lt_blk (c.hasm p hp).1)]; exact (c.hasm p hp).1, fun e => (c.hasm p hp).2.1 (k2 _ (lt_blk (c.hasm p hp).1) e), (c.hasm p hp).2.2⟩, c.nl⟩
structure R4 (W0 : World) (o6 o7 o8 : Option Nat) (W : World) : Prop where
 bel : Below W0.heap.size W0 W
 p6 : ∀ k, o6 = some k → W.heap[k]? = some (.cells #[.int .u32 0, .int .u32 0] 38 (0, 0)) ∧ W0.heap.size ≤ k
 p7 : ∀ k, o7 = some k → W.heap[k]? = some (.cells #[iw 0] 3 (0, 0)) ∧ W0.heap.size ≤ k
 p8 : ∀ k, o8 = some k → W.heap[k]? = some (.cells #[iw 0] 3 (0, 0)) ∧ W0.heap.size ≤ k
 ne : ∀ j k, o7 = some j → o8 = some k → j ≠ k
variable {W0 : World} {o6 o7 o8 : Option Nat}
theorem R4.new (W0 : World) : R4 W0 none none none W0 := ⟨Below.refl _ _, (fun _ e => by cases e), (fun _ e => by cases e), (fun _ e => by cases e), (fun _ _ e => by cases e)⟩
theorem R4.on (h : R4 W0 o6 o7 o8 W) (hb : Below W.heap.size W W') : R4 W0 o6 o7 o8 W' :=
 ⟨h.bel.trans (hb.mono h.bel.size), fun k e => ⟨by rw [hb.block k (lt_blk (h.p6 k e).1)]; exact (h.p6 k e).1, (h.p6 k e).2⟩, fun k e => ⟨by rw [hb.block k (lt_blk (h.p7 k e).1)]; exact (h.p7 k e).1, (h.p7 k e).2⟩, fun k e => ⟨by rw [hb.block k (lt_blk (h.p8 k e).1)]; exact (h.p8 k e).1, (h.p8 k e).2⟩, h.ne⟩
theorem R4.a6 (h : R4 W0 none o7 o8 W) : R4 W0 (some W.heap.size) o7 o8 (W.alloc (.cells #[.int .u32 0, .int .u32 0] 38)) := by
 have k := h.on (al (W := W) (.cells #[.int .u32 0, .int .u32 0] 38))
 exact ⟨k.bel, fun j e => by injection e with e; subst e; exact ⟨heap_alloc_new W _, h.bel.size⟩, k.p7, k.p8, h.ne⟩
theorem R4.a7 (h : R4 W0 o6 none o8 W) : R4 W0 o6 (some W.heap.size) o8 (W.alloc (.cells #[iw 0] 3)) := by
 have k := h.on (al (W := W) (.cells #[iw 0] 3))
 exact ⟨k.bel, k.p6, fun j e => by injection e with e; subst e; exact ⟨heap_alloc_new W _, h.bel.size⟩, k.p8, fun i j e1 e2 => by injection e1 with e1; have := lt_blk (h.p8 j e2).1; omega⟩
theorem R4.a8 (h : R4 W0 o6 o7 none W) : R4 W0 o6 o7 (some W.heap.size) (W.alloc (.cells #[iw 0] 3)) := by
 have k := h.on (al (W := W) (.cells #[iw 0] 3))
 exact ⟨k.bel, k.p6, k.p7, fun j e => by injection e with e; subst e; exact ⟨heap_alloc_new W _, h.bel.size⟩, fun i j e1 e2 => by injection e2 with e2; have := lt_blk (h.p7 i e1).1; omega⟩
structure R5 (W0 : World) (b6 b7 b8 : Nat) (c0 c1 c2 c3 : Value) (W : World) : Prop where
 bel : Below W0.heap.size W0 W
 p6 : W.heap[b6]? = some (.cells #[c0, c1] 38 (0, 0)) ∧ W0.heap.size ≤ b6
 p7 : W.heap[b7]? = some (.cells #[c2] 3 (0, 0)) ∧ W0.heap.size ≤ b7
 p8 : W.heap[b8]? = some (.cells #[c3] 3 (0, 0)) ∧ W0.heap.size ≤ b8
 ne : b7 ≠ b8
variable {b6 b7 b8 : Nat} {c0 c1 c2 c3 : Value}
theorem R4.r5 (h : R4 W0 (some b6) (some b7) (some b8) W) : R5 W0 b6 b7 b8 (.int .u32 0) (.int .u32 0) (iw 0) (iw 0) W := ⟨h.bel, h.p6 _ rfl, h.p7 _ rfl, h.p8 _ rfl, h.ne _ _ rfl rfl⟩
theorem R5.s0 (h : R5 W0 b6 b7 b8 c0 c1 c2 c3 W) (v : Value) : R5 W0 b6 b7 b8 v c1 c2 c3 (W.setCell ⟨b6, 0, none⟩ v) := by
 have k := set_kept' W b6 0 v
 exact ⟨h.bel.setCell (p := ⟨b6, 0, none⟩) h.p6.2 v, ⟨by have := block_set (j := 0) v h.p6.1; simpa using this, h.p6.2⟩, ⟨by rw [k.block b7 (lt_blk h.p7.1) (ne_tag h.p7.1 h.p6.1 (by decide))]; exact h.p7.1, h.p7.2⟩, ⟨by rw [k.block b8 (lt_blk h.p8.1) (ne_tag h.p8.1 h.p6.1 (by decide))]; exact h.p8.1, h.p8.2⟩, h.ne⟩
theorem R5.s1 (h : R5 W0 b6 b7 b8 c0 c1 c2 c3 W) (v : Value) : R5 W0 b6 b7 b8 c0 v c2 c3 (W.setCell ⟨b6, 1, none⟩ v) := by
 have k := set_kept' W b6 1 v
 exact ⟨h.bel.setCell (p := ⟨b6, 1, none⟩) h.p6.2 v, ⟨by have := block_set (j := 1) v h.p6.1; simpa using this, h.p6.2⟩, ⟨by rw [k.block b7 (lt_blk h.p7.1) (ne_tag h.p7.1 h.p6.1 (by decide))]; exact h.p7.1, h.p7.2⟩, ⟨by rw [k.block b8 (lt_blk h.p8.1) (ne_tag h.p8.1 h.p6.1 (by decide))]; exact h.p8.1, h.p8.2⟩, h.ne⟩
theorem R5.s2 (h : R5 W0 b6 b7 b8 c0 c1 c2 c3 W) (v : Value) : R5 W0 b6 b7 b8 c0 c1 v c3 (W.setCell ⟨b7, 0, none⟩ v) := by
 have k := set_kept' W b7 0 v
 exact ⟨h.bel.setCell (p := ⟨b7, 0, none⟩) h.p7.2 v, ⟨by rw [k.block b6 (lt_blk h.p6.1) (ne_tag h.p6.1 h.p7.1 (by decide))]; exact h.p6.1, h.p6.2⟩, ⟨by have := block_set (j := 0) v h.p7.1; simpa using this, h.p7.2⟩, ⟨by rw [k.block b8 (lt_blk h.p8.1) (Ne.symm h.ne)]; exact h.p8.1, h.p8.2⟩, h.ne⟩
theorem R5.s3 (h : R5 W0 b6 b7 b8 c0 c1 c2 c3 W) (v : Value) : R5 W0 b6 b7 b8 c0 c1 c2 v (W.setCell ⟨b8, 0, none⟩ v) := by
 have k := set_kept' W b8 0 v
 exact ⟨h.bel.setCell (p := ⟨b8, 0, none⟩) h.p8.2 v, ⟨by rw [k.block b6 (lt_blk h.p6.1) (ne_tag h.p6.1 h.p8.1 (by decide))]; exact h.p6.1, h.p6.2⟩, ⟨by rw [k.block b7 (lt_blk h.p7.1) h.ne]; exact h.p7.1, h.p7.2⟩, ⟨by have := block_set (j := 0) v h.p8.1; simpa using this, h.p8.2⟩, h.ne⟩
end Go.Proofs.YtkdkgdollmmcnaaGreat
