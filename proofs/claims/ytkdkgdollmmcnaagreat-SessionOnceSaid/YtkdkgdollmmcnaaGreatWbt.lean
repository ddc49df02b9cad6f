import Derived.Test.YtkdkgdollmmcnaaGreatWbs
set_option maxHeartbeats 4000000
set_option maxRecDepth 100000
set_option linter.unusedVariables false
set_option linter.unusedSimpArgs false
namespace Go.Proofs.YtkdkgdollmmcnaaGreat
open Go.RowKit Go.Sort Go.Shelf
variable {M M' G N : Nat → Prop} {W W' w : World} {f f' : Fo} {X X' : Ss}
theorem SC.pairs {vp' : Value} {ps' : List Pr} (h : SC f N X W) (ho : f.ok = 1) (hk : Kept (fun k => k = f.xb ∨ f.vp.ownBlock = some k) W W') (htb : W'.heap[f.xb]? = some (.cells #[vp'] 39 (0, 0))) (hr : W'.ownsRow 0 143 2 vp' ps'.length (rowC prc ps')) (hb : ∀ k, vp'.ownBlock = some k → f.vp.ownBlock = some k ∨ W.heap.size ≤ k) : To f N X.act W { f with vp := vp' } { X with ps := ps' } W' := by
 have hp := h.bx.p ho
 have ho0 : f.ok ≠ 0 := by omega
 have hin : ∀ i, ({ f with vp := vp' } : Fo).In X.act i → f.In X.act i ∨ W.heap.size ≤ i := fun i e => by
  rcases e with e | e | e | e | ⟨e0, e | e | e⟩ | e
  ·exact .inl (.inl e)
  ·exact .inl (.inr (.inl e))
  ·exact .inl (.inr (.inr (.inl e)))
  ·exact .inl (.inr (.inr (.inr (.inl e))))
  ·exact .inl (.inr (.inr (.inr (.inr (.inl ⟨e0, .inl e⟩)))))
  ·exact .inl (.inr (.inr (.inr (.inr (.inl ⟨e0, .inr (.inl e)⟩)))))
  ·rcases hb i e with e | e
   ·exact .inl (.inr (.inr (.inr (.inr (.inl ⟨e0, .inr (.inr e)⟩)))))
   ·exact .inr e
  ·exact .inl (.inr (.inr (.inr (.inr (.inr e)))))
 have hM : ∀ k, (k = f.xb ∨ f.vp.ownBlock = some k) → f.In X.act k := fun k e => .inr (.inr (.inr (.inr (.inl ⟨ho0, e.elim .inl (fun e => .inr (.inr e))⟩))))
 have s : Stay (fun k => k = f.xb ∨ f.vp.ownBlock = some k) (f.Ex N X.act) (({ f with vp := vp' } : Fo).Ex N X.act) W W' := ⟨hk, fun k e => .inr (hM k e), fun k hl e => e.elim .inl (fun e => by
  rcases hin k e with e | e
  ·exact .inr e
  ·omega)⟩
 have ne : ∀ {b : Nat} {cs : Array Value} {ty : TypeId}, W.heap[b]? = some (.cells cs ty (0, 0)) → ty ≠ 39 → ty ≠ 143 → ¬ (b = f.xb ∨ f.vp.ownBlock = some b) := fun {b cs ty} e h1 h2 e2 => by
  rcases e2 with e2 | e2
  ·exact ne_tag e hp.1 h1 e2
  ·exact own_ne hp.2.1 e (Ne.symm h2) e2
 have B : ∀ {b : Nat} {cs : Array Value} {ty : TypeId}, W.heap[b]? = some (.cells cs ty (0, 0)) → ty ≠ 39 → ty ≠ 143 → W'.heap[b]? = some (.cells cs ty (0, 0)) := fun {b cs ty} e h1 h2 => by rw [hk.block b (lt_blk e) (ne e h1 h2)]; exact e
 have O : ∀ {base e size : Nat} {v : Value} {n : Nat} {cs : List Value}, W.ownsRow base e size v n cs → e ≠ 39 → e ≠ 143 → W'.ownsRow base e size v n cs := fun h0 h1 h2 => own_kept h0 hk fun k hv => by
  obtain ⟨c, hc⟩ := own_blk h0 hv
  exact ne hc h1 h2
 exact ⟨⟨B h.blk (by decide) (by decide), fun a => ⟨B (h.tx a).1 (by decide) (by decide), O (h.tx a).2 (by decide) (by decide)⟩, O h.ra (by decide) (by decide), O h.ro (by decide) (by decide), h.ea, h.eo, ⟨fun a => B (h.bx.l a) (by decide) (by decide), fun a => ⟨htb, hr, (h.bx.p a).2.2.stay s⟩, fun a => absurd (show f.ok = 2 from a) (by omega), h.bx.le⟩, fun n a => B (h.gb n a) (by decide) (by decide), h.gd, fun x hx => (h.ak x hx).stay s ⟨rfl, rfl, rfl, rfl, fun _ h => ⟨h, rfl⟩⟩ rfl (fun _ _ => rfl), fun x hx => ⟨(h.lk x hx).1.stay s, (h.lk x hx).2⟩⟩, hk.mono hM, hin⟩
theorem scan84b (u : Un f N X 9 w) (b : Nat) (hb : Fx (f.Ex N X.act) w b #[pz f.sb] 24) (r : Rp) (vp : Value) (ho : X.op.k = 3) (hr : r.k ≠ 2) : Calls Tryz.prog 84 #[.agg (rpc r vp).toArray, pz b, pz f.xb, pz f.lb, pz f.ob] w (Got f N X w (stopR X (wrongF r)).1 (stopR X (wrongF r)).2) := by
 obtain ⟨sf, hsf, ent, hcs⟩ := stop_fn f.sb X (by rw [ho]; decide)
 obtain ⟨W1, hW1⟩ := xj ((w.alloc (.cells (rpc r vp).toArray 49)).alloc (.cells RZ 41))
 have X0 := nq (Cx.start u.sc u.nk (fc hb nb)) hW1
 have k0 : W1.cell? ⟨w.heap.size, 0, none⟩ = some (iw r.k) := X0.out.bc
 have XD : Hid _ := X0.out.drew
 have HU : Hid (Un f N X 9 w) := u
 have h1b : (r.k == 2) = false := by simp [hr]
 clear u hb hr ho X0
 go_enter Tryz.func84, Tryz.ntmps84
 go_upto_region 2 with fail
 have SN : Hid (∀ (f2 : Fo) (X2 : Ss) W, Cx (f.In X.act) N w f2 X2 [(w.heap.size, (rpc r vp).toArray, 49), (b, #[pz f.sb], 24)] [(w.heap.size + 1, RZ, 41)] W → W.cell? ⟨b, 0, none⟩ = some (pz f.sb) ∧ W.rangeAt w.heap.size 0 (rpc r vp)) := fun f2 X2 W c => ⟨c.bc, range_box (n := 14) (c.bx (b := w.heap.size) (cs := (rpc r vp).toArray) (ty := 49) (by simp))⟩
 have C82 : Hid (∀ W, Cx (f.In X.act) N w f X [(w.heap.size, (rpc r vp).toArray, 49), (b, #[pz f.sb], 24)] [(w.heap.size + 1, RZ, 41)] W → Calls Tryz.prog 82 #[.agg (rpc r vp).toArray] W fun e w' => e = .returned (iw (wrongF r)) ∧ Cx (f.In X.act) N w f X [(w.heap.size, (rpc r vp).toArray, 49), (b, #[pz f.sb], 24)] [(w.heap.size + 1, RZ, 41)] w') := fun W c => (errorOf82 r vp W).mono fun e w' ⟨h1, h2⟩ => ⟨h1, c.on h2⟩
 have CS : Hid (∀ W, Cx (f.In X.act) N w f X [(w.heap.size, (rpc r vp).toArray, 49), (b, #[pz f.sb], 24)] [(w.heap.size + 1, RZ, 41)] W → Calls Tryz.prog sf #[pz f.sb, iw (wrongF r)] W fun e w' => e = .returned (rsV (stopR X (wrongF r)).2) ∧ ∃ f', Cx (f.In X.act) N w f' (stopR X (wrongF r)).1 [(w.heap.size, (rpc r vp).toArray, 49), (b, #[pz f.sb], 24)] [(w.heap.size + 1, RZ, 41)] w' ∧ f'.sb = f.sb ∧ Bd f' (stopR X (wrongF r)).1) := fun W c => (hcs f _ W (wrongF r) rfl ((HU.out.of c).le (by decide))).mono fun e w' g => Got.next (N0 := N) c g
 have S7 : Hid (∀ W, Cx (f.In X.act) N w f X [(w.heap.size, (rpc r vp).toArray, 49), (b, #[pz f.sb], 24)] [(w.heap.size + 1, RZ, 41)] W → W.cell? ⟨f.sb, 7, none⟩ = some (.func (.func sf) #[pz f.sb] #[])) := fun W c => block_cell c.sc.blk (by rw [← hsf]; rfl)
 have p7 := S7.out _ XD.out
 generalize wrongF r = er at *
 refine wp_region_held_drew (S := (fun W => W.cell? ⟨b, 0, none⟩ = some (pz f.sb) ∧ W.rangeAt w.heap.size 0 (rpc r vp))) (by kernel_rfl) (SN.out _ _ _ XD.out) (fun hHeld => ?_)
 refine tw 0 ?_
 refine tq 1 ?_
 refine tq 2 ?_
 refine tl 4 49 w.heap.size 0 (rpc r vp) (fun W hW => hW.2) Tryz.underlying49 ?_
 refine wpAnyH_ready (rs := [3, 5]) (by kernel_rfl) (by simp) ?_
 refine AllReadyH.cons rfl (fun K hK => ?_) (AllReadyH.cons rfl (fun K hK => ?_) AllReadyH.nil)
 go_simp
 refine kj hK (SN.out _ _ _ XD.out) (fun hHeld => ?_)
 clear hK K
 refine rd 5 (fun K hK => ?_)
 go_simp
 refine (C82.out _ XD.out).mono ?_
 rintro e w3 ⟨rfl, h3⟩
 have X3 : Hid _ := h3
 clear h3
 go_wp2_with fail
 refine kj hK (SN.out _ _ _ X3.out) (fun hHeld => ?_)
 clear hK K
 rotate_left 1
 go_simp
 refine (C82.out _ XD.out).mono ?_
 rintro e w3 ⟨rfl, h3⟩
 have X3 : Hid _ := h3
 clear h3
 go_wp2_with fail
 refine kj hK (SN.out _ _ _ X3.out) (fun hHeld => ?_)
 clear hK K
 refine rd 3 (fun K hK => ?_)
 have z7 := S7.out _ X3.out
 go_simp
 refine kj hK (SN.out _ _ _ X3.out) (fun hHeld => ?_)
 clear hK K
 all_goals
  refine rd 6 (fun K hK => ?_)
  go_simp
  refine (CS.out _ X3.out).mono ?_
  rintro e w4 ⟨rfl, f', x4, hsb, hbd⟩
  have X4 : Hid _ := x4
  have HF : Hid _ := And.intro hsb hbd
  clear x4 hsb hbd
  unfold rsV
  go_wp2_with fail
  refine kj hK (SN.out _ _ _ X4.out) (fun hHeld => ?_)
  clear hK K
  refine rd 7 (fun K hK => ?_)
  rw [if_pos (by rfl)]
  refine wp_store_row 41 _ _ rfl (w.heap.size + 1) _ rfl rfl 41 _ (X4.out.bm mc) (by kernel_rfl) rfl (rsc_all _ _ rfl) ?_
  have X5 : Hid _ := X4.out.poke (setRow_kept _ _ (rsc (stopR X er).2 sy).toArray) (setRow_at (X4.out.bm mc)) nb
  have S5 : Hid _ := X5.out.less (Lo' := [(w.heap.size, (rpc r vp).toArray, 49), (b, #[pz f.sb], 24)]) (fun _ e => e)
  refine kj hK ⟨X5.out.bc, range_box (n := 14) (X5.out.bx (b := w.heap.size) (cs := (rpc r vp).toArray) (ty := 49) (by simp))⟩ (fun hHeld => ?_)
  clear hK K
  refine wpAnyH_done (by kernel_rfl) ?_ _
  clear hHeld SN C82 CS S7 p7 X3
  go_wp2_with fail
  refine bodyPost_ret (res11 rfl rfl rfl (X5.out.bm mc)) rfl ?_
  exact ⟨rfl, _, X5.out.to, HF.out.1, HF.out.2⟩
theorem scan84a (u : Un f N X 9 w) (b : Nat) (hb : Fx (f.Ex N X.act) w b #[pz f.sb] 24) (r : Rp) (vp : Value) (ho : X.op.k = 3) (hl : 1 < X.left) (hl8 : X.left ≤ 8) (hvp : RwF (f.Ex N X.act) 2 vp r.ps.length (rowC prc r.ps) w) (hpl : X.ps.length + r.ps.length ≤ 1000) (hr : r.k = 2) : Calls Tryz.prog 84 #[.agg (rpc r vp).toArray, pz b, pz f.xb, pz f.lb, pz f.ob] w (Got f N X w { X with ps := X.ps ++ r.ps, left := X.left - 1 } zS) := by
 obtain ⟨hok, hlv, hoq⟩ := u.bd.sc ho
 obtain ⟨i0, hin0, hi0, hi1, hi2⟩ := info_parts info143
 obtain ⟨W1, hW1⟩ := xj ((w.alloc (.cells (rpc r vp).toArray 49)).alloc (.cells RZ 41))
 have X0 := nq (Cx.start u.sc u.nk (fc hb nb)) hW1
 have k0 : W1.cell? ⟨w.heap.size, 0, none⟩ = some (iw r.k) := X0.out.bc
 have hbp := X0.out.sc.bx.p hok
 have hbl := X0.out.sc.bx.l (by omega)
 rw [hlv] at hbl
 have h2b : (r.k == 2) = true := by rw [hr]; rfl
 have c2 : W1.cell? ⟨f.xb, 0, none⟩ = some f.vp := block_cell hbp.1 rfl
 have z2 : W1.frozen? ⟨f.xb, 0, none⟩ = false := block_frozen hbp.1 0
 have k4 : W1.cell? ⟨w.heap.size, 4, none⟩ = some vp := X0.out.bc
 have HV : Hid (RwF (f.Ex (Nm N [(w.heap.size + 1, RZ, 41)]) X.act) 2 vp r.ps.length (rowC prc r.ps) W1) := hvp.stay X0.out.stay0 (by decide)
 have hown := hbp.2.1
 obtain ⟨vao, vcap, hve, -⟩ := rw_own hown
 obtain ⟨sao, scap, hse, -⟩ := HV.out
 have HOw : Hid _ := (show Ow 0 143 2 f.vp X.ps.length (rowC prc X.ps) W1.heap.size vp r.ps.length (rowC prc r.ps) W1 from ⟨hown, HV.out.rw (by decide), rowC_cells prc prc_one _, Nat.zero_le _, by omega⟩)
 have ST : Hid (∀ vp' w', w'.ownsRow 0 143 2 vp' (X.ps.length + r.ps.length) (rowC prc X.ps ++ rowC prc r.ps) → W1.grownBy w' f.vp.ownBlock → (vp'.ownBlock = f.vp.ownBlock ∨ vp'.ownBlock = some W1.heap.size) → w'.cell? ⟨f.xb, 0, none⟩ = some f.vp ∧ w'.frozen? ⟨f.xb, 0, none⟩ = false ∧ Cx (f.In X.act) N w { f with vp := vp' } { X with ps := X.ps ++ r.ps } [(w.heap.size, (rpc r vp).toArray, 49), (b, #[pz f.sb], 24)] [(w.heap.size + 1, RZ, 41)] (w'.setCell ⟨f.xb, 0, none⟩ vp') ∧ (∃ ao n c, vp' = .slice ao n c)) := fun vp' w' h1 h2 h3 => by
  have hne : f.vp.ownBlock ≠ some f.xb := fun e => own_ne hown hbp.1 (by decide) e
  have hb2 : w'.heap[f.xb]? = some (.cells #[f.vp] 39 (0, 0)) := by rw [h2.block f.xb (lt_blk hbp.1) (fun e => hne e.symm)]; exact hbp.1
  have hkg : Kept (fun k => f.vp.ownBlock = some k) W1 w' := grown_kept h2
  have hks := set_kept' w' f.xb 0 vp'
  have hkk : Kept (fun k => k = f.xb ∨ f.vp.ownBlock = some k) W1 (w'.setCell ⟨f.xb, 0, none⟩ vp') := (hkg.mono (fun k e => .inr e)).trans hks (fun k e => .inl (.inl e))
  have hn2 : ∀ k, vp'.ownBlock = some k → k ≠ f.xb := fun k e e2 => by
   subst e2
   exact own_ne h1 hb2 (by decide) e
  refine ⟨block_cell hb2 rfl, block_frozen hb2 0, X0.out.next (X0.out.sc.pairs hok hkk ?_ ?_ ?_), ?_⟩
  ·have := block_set (j := 0) vp' hb2
   exact this
  ·rw [List.length_append, rowC_append]
   exact own_kept h1 hks (fun k hv e => hn2 k hv e)
  ·intro k e
   rcases h3 with h3 | h3
   ·exact .inl (by rw [← h3]; exact e)
   ·rw [h3] at e
    injection e with e
    exact .inr (by omega)
  ·obtain ⟨ao, c, e, -⟩ := rw_own h1
   exact ⟨_, _, _, e⟩
 have HU : Hid (Un f N X 9 w) := u
 have HBX : Hid (f.ok = 1 ∧ f.oq = X.op) := ⟨hok, hoq⟩
 have HO3 : Hid (X.op.k = 3) := ho
 have SL : Hid (∀ vp' W, Cx (f.In X.act) N w { f with vp := vp' } { X with ps := X.ps ++ r.ps } [(w.heap.size, (rpc r vp).toArray, 49), (b, #[pz f.sb], 24)] [(w.heap.size + 1, RZ, 41)] W → W.cell? ⟨f.lb, 0, none⟩ = some (iw X.left) ∧ W.frozen? ⟨f.lb, 0, none⟩ = false ∧ Cx (f.In X.act) N w { f with vp := vp', lv := X.left - 1 } { X with ps := X.ps ++ r.ps, left := X.left - 1 } [(w.heap.size, (rpc r vp).toArray, 49), (b, #[pz f.sb], 24)] [(w.heap.size + 1, RZ, 41)] (W.setCell ⟨f.lb, 0, none⟩ (iw (X.left - 1)))) := fun vp' W c => by
  have hb3 := c.sc.bx.l (show f.ok ≠ 0 by omega)
  have hb4 : W.heap[f.lb]? = some (.cells #[iw X.left] 3 (0, 0)) := by rw [← hlv]; exact hb3
  exact ⟨block_cell hb4 rfl, block_frozen hb4 0, c.next (c.sc.left (show f.ok ≠ 0 by omega) (X.left - 1) (set_kept' W f.lb 0 _) (by
   have := block_set (j := 0) (iw (X.left - 1)) hb4
   exact this))⟩
 have hl0 : ¬ X.left - 1 ≤ 0 := by omega
 have hl1 : (0 : Int) < X.left - 1 := by omega
 have hlo : -9223372036854775808 ≤ X.left - 1 ∧ X.left - 1 < 9223372036854775808 := by omega
 clear u hb hr ho X0 hvp hpl hbp hlv hoq hok hbl
 rw [hve] at HOw ST c2
 clear hve hown
 subst hse
 go_enter Tryz.func84, Tryz.ntmps84
 go_wp2_with (at_builtin; refine wpList_append_rw HOw.out Tryz.underlying39 hin0 hi0 hi1 hi2 rfl (by decide) (by decide) (.tmp 18) (.tmp 20) rfl rfl rfl rfl ?_)
 intro vp' w2 hown2 hg2 hat2
 obtain ⟨d2, e2, X1, ao2, n2, cc2, hvs2⟩ := ST.out vp' w2 hown2 hg2 hat2
 have X1 : Hid _ := X1
 clear hown2 hg2 hat2 ST HOw
 subst hvs2
 obtain ⟨d3, e3, X2⟩ := SL.out _ _ X1.out
 have X2 : Hid _ := X2
 clear SL
 obtain ⟨W3, hW3⟩ := xj (w2.setCell ⟨f.xb, 0, none⟩ (.slice ao2 n2 cc2))
 rw [hW3] at X1 X2 d3 e3
 obtain ⟨W4, hW4⟩ := xj (W3.setCell ⟨f.lb, 0, none⟩ (iw (X.left - 1)))
 rw [hW4] at X2
 have d5 : W4.cell? ⟨f.lb, 0, none⟩ = some (iw (X.left - 1)) := block_cell (X2.out.sc.bx.l (show f.ok ≠ 0 by rw [HBX.out.1]; decide)) rfl
 clear X1
 have hr := rsc_all zS sy rfl
 go_wp2_with (refine wpList_store_row rfl 41 _ _ rfl (w.heap.size + 1) (rsc zS sy).toArray rfl rfl 41 _ (X2.out.bm mc) (by kernel_rfl) rfl hr ?_)
 refine bj X2.out ?_
 exact ⟨rfl, _, (X2.out.poke (setRow_kept _ _ _) (setRow_at (X2.out.bm mc)) nb).to, rfl, ⟨fun _ => ⟨HBX.out.1, rfl, HBX.out.2⟩, fun e => absurd (HO3.out.symm.trans e) (by decide), HU.out.bd.gs⟩⟩
theorem scan84c (u : Un f N X 9 w) (b : Nat) (hb : Fx (f.Ex N X.act) w b #[pz f.sb] 24) (r : Rp) (vp : Value) (ho : X.op.k = 3) (hl : X.left = 1) (hpv : ∀ p ∈ X.ps ++ r.ps, p.val.length ≤ 256) (hwl : X.ws.length ≤ 16) (hvp : RwF (f.Ex N X.act) 2 vp r.ps.length (rowC prc r.ps) w) (hpl : X.ps.length + r.ps.length ≤ 1000) (hr : r.k = 2) : Calls Tryz.prog 84 #[.agg (rpc r vp).toArray, pz b, pz f.xb, pz f.lb, pz f.ob] w (GotP f N X w (scannedF bt { X with ps := X.ps ++ r.ps, left := X.left - 1 }).1 (scannedF bt { X with ps := X.ps ++ r.ps, left := X.left - 1 }).2) := by
 obtain ⟨hok, hlv, hoq⟩ := u.bd.sc ho
 obtain ⟨i0, hin0, hi0, hi1, hi2⟩ := info_parts info143
 obtain ⟨W1, hW1⟩ := xj ((w.alloc (.cells (rpc r vp).toArray 49)).alloc (.cells RZ 41))
 have X0 := nq (Cx.start u.sc u.nk (fc hb nb)) hW1
 have k0 : W1.cell? ⟨w.heap.size, 0, none⟩ = some (iw r.k) := X0.out.bc
 have hbp := X0.out.sc.bx.p hok
 have hbl := X0.out.sc.bx.l (by omega)
 rw [hlv] at hbl
 have h2b : (r.k == 2) = true := by rw [hr]; rfl
 have c2 : W1.cell? ⟨f.xb, 0, none⟩ = some f.vp := block_cell hbp.1 rfl
 have z2 : W1.frozen? ⟨f.xb, 0, none⟩ = false := block_frozen hbp.1 0
 have k4 : W1.cell? ⟨w.heap.size, 4, none⟩ = some vp := X0.out.bc
 have HV : Hid (RwF (f.Ex (Nm N [(w.heap.size + 1, RZ, 41)]) X.act) 2 vp r.ps.length (rowC prc r.ps) W1) := hvp.stay X0.out.stay0 (by decide)
 have hown := hbp.2.1
 obtain ⟨vao, vcap, hve, -⟩ := rw_own hown
 obtain ⟨sao, scap, hse, -⟩ := HV.out
 have HOw : Hid _ := (show Ow 0 143 2 f.vp X.ps.length (rowC prc X.ps) W1.heap.size vp r.ps.length (rowC prc r.ps) W1 from ⟨hown, HV.out.rw (by decide), rowC_cells prc prc_one _, Nat.zero_le _, by omega⟩)
 have ST : Hid (∀ vp' w', w'.ownsRow 0 143 2 vp' (X.ps.length + r.ps.length) (rowC prc X.ps ++ rowC prc r.ps) → W1.grownBy w' f.vp.ownBlock → (vp'.ownBlock = f.vp.ownBlock ∨ vp'.ownBlock = some W1.heap.size) → w'.cell? ⟨f.xb, 0, none⟩ = some f.vp ∧ w'.frozen? ⟨f.xb, 0, none⟩ = false ∧ Cx (f.In X.act) N w { f with vp := vp' } { X with ps := X.ps ++ r.ps } [(w.heap.size, (rpc r vp).toArray, 49), (b, #[pz f.sb], 24)] [(w.heap.size + 1, RZ, 41)] (w'.setCell ⟨f.xb, 0, none⟩ vp') ∧ (∃ ao n c, vp' = .slice ao n c)) := fun vp' w' h1 h2 h3 => by
  have hne : f.vp.ownBlock ≠ some f.xb := fun e => own_ne hown hbp.1 (by decide) e
  have hb2 : w'.heap[f.xb]? = some (.cells #[f.vp] 39 (0, 0)) := by rw [h2.block f.xb (lt_blk hbp.1) (fun e => hne e.symm)]; exact hbp.1
  have hkg : Kept (fun k => f.vp.ownBlock = some k) W1 w' := grown_kept h2
  have hks := set_kept' w' f.xb 0 vp'
  have hkk : Kept (fun k => k = f.xb ∨ f.vp.ownBlock = some k) W1 (w'.setCell ⟨f.xb, 0, none⟩ vp') := (hkg.mono (fun k e => .inr e)).trans hks (fun k e => .inl (.inl e))
  have hn2 : ∀ k, vp'.ownBlock = some k → k ≠ f.xb := fun k e e2 => by
   subst e2
   exact own_ne h1 hb2 (by decide) e
  refine ⟨block_cell hb2 rfl, block_frozen hb2 0, X0.out.next (X0.out.sc.pairs hok hkk ?_ ?_ ?_), ?_⟩
  ·have := block_set (j := 0) vp' hb2
   exact this
  ·rw [List.length_append, rowC_append]
   exact own_kept h1 hks (fun k hv e => hn2 k hv e)
  ·intro k e
   rcases h3 with h3 | h3
   ·exact .inl (by rw [← h3]; exact e)
   ·rw [h3] at e
    injection e with e
    exact .inr (by omega)
  ·obtain ⟨ao, c, e, -⟩ := rw_own h1
   exact ⟨_, _, _, e⟩
 have HU : Hid (Un f N X 9 w) := u
 have HBX : Hid (f.ok = 1 ∧ f.oq = X.op) := ⟨hok, hoq⟩
 have HO3 : Hid (X.op.k = 3) := ho
 have SL : Hid (∀ vp' W, Cx (f.In X.act) N w { f with vp := vp' } { X with ps := X.ps ++ r.ps } [(w.heap.size, (rpc r vp).toArray, 49), (b, #[pz f.sb], 24)] [(w.heap.size + 1, RZ, 41)] W → W.cell? ⟨f.lb, 0, none⟩ = some (iw X.left) ∧ W.frozen? ⟨f.lb, 0, none⟩ = false ∧ Cx (f.In X.act) N w { f with vp := vp', lv := X.left - 1 } { X with ps := X.ps ++ r.ps, left := X.left - 1 } [(w.heap.size, (rpc r vp).toArray, 49), (b, #[pz f.sb], 24)] [(w.heap.size + 1, RZ, 41)] (W.setCell ⟨f.lb, 0, none⟩ (iw (X.left - 1)))) := fun vp' W c => by
  have hb3 := c.sc.bx.l (show f.ok ≠ 0 by omega)
  have hb4 : W.heap[f.lb]? = some (.cells #[iw X.left] 3 (0, 0)) := by rw [← hlv]; exact hb3
  exact ⟨block_cell hb4 rfl, block_frozen hb4 0, c.next (c.sc.left (show f.ok ≠ 0 by omega) (X.left - 1) (set_kept' W f.lb 0 _) (by
   have := block_set (j := 0) (iw (X.left - 1)) hb4
   exact this))⟩
 have HPV : Hid ((∀ p ∈ X.ps ++ r.ps, p.val.length ≤ 256) ∧ X.ps.length + r.ps.length ≤ 1000) := ⟨hpv, hpl⟩
 have HLF : Hid (X.left = 1) := hl
 have hl0 : ¬ (0 : Int) < X.left - 1 := by omega
 have hlo : -9223372036854775808 ≤ X.left - 1 ∧ X.left - 1 < 9223372036854775808 := by omega
 have HLW : Hid (X.ws.length ≤ 16) := hwl
 clear hl
 clear u hb hr ho X0 hvp hpl hbp hlv hoq hok hbl
 clear hpv hwl
 rw [hve] at HOw ST c2
 clear hve hown
 subst hse
 go_enter Tryz.func84, Tryz.ntmps84
 go_wp2_with (at_builtin; refine wpList_append_rw HOw.out Tryz.underlying39 hin0 hi0 hi1 hi2 rfl (by decide) (by decide) (.tmp 18) (.tmp 20) rfl rfl rfl rfl ?_)
 intro vp' w2 hown2 hg2 hat2
 obtain ⟨d2, e2, X1, ao2, n2, cc2, hvs2⟩ := ST.out vp' w2 hown2 hg2 hat2
 have X1 : Hid _ := X1
 clear hown2 hg2 hat2 ST HOw
 subst hvs2
 obtain ⟨d3, e3, X2⟩ := SL.out _ _ X1.out
 have X2 : Hid _ := X2
 clear SL
 obtain ⟨W3, hW3⟩ := xj (w2.setCell ⟨f.xb, 0, none⟩ (.slice ao2 n2 cc2))
 rw [hW3] at X1 X2 d3 e3
 obtain ⟨W4, hW4⟩ := xj (W3.setCell ⟨f.lb, 0, none⟩ (iw (X.left - 1)))
 rw [hW4] at X2
 have d5 : W4.cell? ⟨f.lb, 0, none⟩ = some (iw (X.left - 1)) := block_cell (X2.out.sc.bx.l (show f.ok ≠ 0 by rw [HBX.out.1]; decide)) rfl
 clear X1
 have c1 : W4.cell? ⟨b, 0, none⟩ = some (pz f.sb) := X2.out.bc
 have C83 : Hid (1 = 1 → Calls Tryz.prog 83 #[pz f.sb] W4 fun e w' => e = .returned (.tuple #[]) ∧ ∃ va, Cx (f.In X.act) N w (({ f with vp := .slice ao2 n2 cc2, lv := X.left - 1 } : Fo).drop va) (dropF { X with ps := X.ps ++ r.ps, left := X.left - 1 }) [(w.heap.size, (rpc r (.slice sao r.ps.length scap)).toArray, 49), (b, #[pz f.sb], 24)] [(w.heap.size + 1, RZ, 41)] w') := fun _ => (settle83 X2.out.sc).mono fun e w' ⟨h1, va, h2⟩ => ⟨h1, va, X2.out.next h2⟩
 go_wp2_with fail
 refine (C83.out (by trivial)).mono ?_
 rintro e w5 ⟨rfl, va, h5⟩
 have X5 : Hid _ := h5
 have e1 : w5.cell? ⟨b, 0, none⟩ = some (pz f.sb) := X5.out.bc
 clear h5 C83 c1 hW4 hW3 d2 e2 d3 e3 d5 X2 k4 k0 c2 z2 hW1
 have C74 : Hid (1 = 1 → Calls Tryz.prog 74 #[pz f.sb, iw 3, iw 0] w5 fun e w' => e = .returned (rsV (resF { X with ps := X.ps ++ r.ps, left := X.left - 1 } 3)) ∧ Cx (f.In X.act) N w (Fo.drop { f with vp := .slice ao2 n2 cc2, lv := X.left - 1 } va) (dropF { X with ps := X.ps ++ r.ps, left := X.left - 1 }) [(w.heap.size, (rpc r (.slice sao r.ps.length scap)).toArray, 49), (b, #[pz f.sb], 24)] [(w.heap.size + 1, RZ, 41)] w') := fun _ => (told74 3 0 X5.out.sc).mono fun e w' ⟨h1, h2⟩ => ⟨by rw [h1, show ({ resF (dropF { X with ps := X.ps ++ r.ps, left := X.left - 1 }) 3 with er := 0 } : Rs) = resF { X with ps := X.ps ++ r.ps, left := X.left - 1 } 3 from by unfold resF dropF; dsimp only; split <;> rfl], X5.out.on h2⟩
 go_wp2_with fail
 refine (C74.out (by trivial)).mono ?_
 rintro e w6 ⟨rfl, h6⟩
 have X6 : Hid _ := h6
 clear h6 C74 X5 e1
 obtain ⟨R, hR⟩ := xj (resF { X with ps := X.ps ++ r.ps, left := X.left - 1 } 3)
 have HR : Hid (resF { X with ps := X.ps ++ r.ps, left := X.left - 1 } 3 = R) := hR
 rw [hR]
 clear hR
 obtain ⟨b7, hb7⟩ := xj w6.heap.size
 have HB7 : Hid (w.heap.size + 1 < b7) := by rw [← hb7]; exact lt_blk (X6.out.bm mc)
 have X7 : Hid (Cx (f.In X.act) N w (Fo.drop { f with vp := .slice ao2 n2 cc2, lv := X.left - 1 } va) (dropF { X with ps := X.ps ++ r.ps, left := X.left - 1 }) [(w.heap.size, (rpc r (.slice sao r.ps.length scap)).toArray, 49), (b, #[pz f.sb], 24)] ((b7, (rsc R sy).toArray, 41) :: [(w.heap.size + 1, RZ, 41)]) (w6.alloc (.cells (rsc R sy).toArray 41))) := by rw [← hb7]; exact X6.out.newm _ _
 have N7 : Hid ((w6.alloc (.cells (rsc R sy).toArray 41)).heap[b7]? = some (.cells (rsc R sy).toArray 41 (0, 0))) := X7.out.bm mc
 obtain ⟨W7, hW7⟩ := xj (w6.alloc (.cells (rsc R sy).toArray 41))
 rw [hW7] at X7 N7
 have SN : Hid (∀ vq W, Cx (f.In X.act) N w (Fo.drop { f with vp := .slice ao2 n2 cc2, lv := X.left - 1 } va) (dropF { X with ps := X.ps ++ r.ps, left := X.left - 1 }) [(w.heap.size, (rpc r (.slice sao r.ps.length scap)).toArray, 49), (b, #[pz f.sb], 24)] ((b7, (rsc R vq).toArray, 41) :: [(w.heap.size + 1, RZ, 41)]) W → W.cell? ⟨b, 0, none⟩ = some (pz f.sb) ∧ W.cell? ⟨f.sb, 6, none⟩ = some (pz f.tb) ∧ W.rangeAt f.ob 0 [iw X.op.k, sd X.op.key, sd X.op.val, sd X.op.to, iw X.op.lim] ∧ W.cell? ⟨f.xb, 0, none⟩ = some (.slice ao2 n2 cc2)) := fun vq W c => ⟨c.bc, block_cell c.sc.blk (by simp [sbA, vtV, dropF, Fo.drop, HU.out.act]), by
  have k := c.sc.bx.p (show f.ok = 1 from HBX.out.1)
  have k2 := range_box (o := 0) (n := 5) k.2.2.1
  rw [show (Fo.drop { f with vp := .slice ao2 n2 cc2, lv := X.left - 1 } va).oq = X.op from HBX.out.2] at k2
  exact k2, block_cell (c.sc.bx.p (show f.ok = 1 from HBX.out.1)).1 rfl⟩
 have C85 : Hid (∀ W, Cx (f.In X.act) N w (Fo.drop { f with vp := .slice ao2 n2 cc2, lv := X.left - 1 } va) (dropF { X with ps := X.ps ++ r.ps, left := X.left - 1 }) [(w.heap.size, (rpc r (.slice sao r.ps.length scap)).toArray, 49), (b, #[pz f.sb], 24)] ((b7, (rsc R sy).toArray, 41) :: [(w.heap.size + 1, RZ, 41)]) W → Calls Tryz.prog 85 #[pz f.tb, .agg #[iw X.op.k, sd X.op.key, sd X.op.val, sd X.op.to, iw X.op.lim], .slice ao2 n2 cc2] W fun e w' => ∃ ao' n' c', e = .returned (.slice ao' n' c') ∧ Cx (f.In X.act) N w (Fo.drop { f with vp := .slice ao2 n2 cc2, lv := X.left - 1 } va) (dropF { X with ps := X.ps ++ r.ps, left := X.left - 1 }) [(w.heap.size, (rpc r (.slice sao r.ps.length scap)).toArray, 49), (b, #[pz f.sb], 24)] ((b7, (rsc R sy).toArray, 41) :: [(w.heap.size + 1, RZ, 41)]) w' ∧ RwF (((Fo.drop { f with vp := .slice ao2 n2 cc2, lv := X.left - 1 } va) : Fo).Ex (Nm N ((b7, (rsc R sy).toArray, 41) :: [(w.heap.size + 1, RZ, 41)])) X.act) 2 (.slice ao' n' c') (scanF bt { X with ps := X.ps ++ r.ps, left := X.left - 1 }).length (rowC prc (scanF bt { X with ps := X.ps ++ r.ps, left := X.left - 1 })) w') := fun W c => by
  have kt := c.sc.tx HU.out.act
  have kp := c.sc.bx.p (show f.ok = 1 from HBX.out.1)
  refine (sees_scan (w := W) f.tb _ kt.1 { X with ps := X.ps ++ r.ps, left := X.left - 1 } f.vw rfl (rw_own kt.2) (by show X.ws.length ≤ 1000; have := HLW.out; omega) (.slice ao2 n2 cc2) (rw_own kp.2.1) (by show (X.ps ++ r.ps).length ≤ 1000; rw [List.length_append]; exact HPV.out.2) HPV.out.1).mono fun e w' ⟨v', h1, h2, h3⟩ => ?_
  obtain ⟨ao', c', e', -⟩ := rw_own h3
  subst e'
  exact ⟨ao', _, c', h1, c.on h2, RwF.own h3 (fun k hk => hk.elim (fun e => c.lt e) (fun e => c.sc.lt e))⟩
 have HX : Hid _ := X7.out.drew
 have N70 : Hid ((w6.alloc (.cells RZ 41)).heap[b7]? = some (.cells RZ 41 (0, 0))) := by rw [← hb7]; exact heap_alloc_new w6 _
 have E7 : Hid ((w6.alloc (.cells RZ 41)).setRow b7 (rsc R sy).toArray = W7) := by
  show _ = _
  rw [← hb7, World.setRow_alloc_new, hW7]
 clear hW7
 unfold rsV
 go_upto_region 9 with (first
  | (refine wpList_store_row rfl 41 _ _ rfl b7 (rsc R sy).toArray rfl rfl 41 _ N70.out (by kernel_rfl) rfl (rsc_all _ _ rfl) ?_; rewrite [E7.out]))
 simp only [Act.put]
 clear N70 E7 hb7
 refine wp_region_held_drew (S := (fun W => W.cell? ⟨b, 0, none⟩ = some (pz f.sb) ∧ W.cell? ⟨f.sb, 6, none⟩ = some (pz f.tb) ∧ W.rangeAt f.ob 0 [iw X.op.k, sd X.op.key, sd X.op.val, sd X.op.to, iw X.op.lim] ∧ W.cell? ⟨f.xb, 0, none⟩ = some (.slice ao2 n2 cc2))) (by kernel_rfl) (SN.out _ _ HX.out) (fun hHeld => ?_)
 refine tw 0 ?_
 refine tq 1 ?_
 refine tq 2 ?_
 refine tw 3 ?_
 refine tl 4 44 f.ob 0 [iw X.op.k, sd X.op.key, sd X.op.val, sd X.op.to, iw X.op.lim] (fun W hW => hW.2.2.1) Tryz.underlying44 ?_
 refine tw 5 ?_
 refine rd 6 (fun K hK => ?_)
 go_simp
 refine (C85.out _ HX.out).mono ?_
 rintro e w8 ⟨ao8, n8, c8, rfl, h8, hrw8⟩
 have X8 : Hid _ := h8
 have HRW : Hid _ := hrw8
 have a10 : w8.cell? ⟨b7, 10, none⟩ = some sy := block_cell (X8.out.bm mc) rfl
 have z10 : w8.frozen? ⟨b7, 10, none⟩ = false := block_frozen (X8.out.bm mc) 10
 clear h8 hrw8
 go_wp2_with fail
 refine kj hK (SN.out _ _ X8.out) (fun hHeld => ?_)
 clear hK K
 refine tq 7 ?_
 refine rd 8 (fun K hK => ?_)
 have X9 : Hid (Cx (f.In X.act) N w (Fo.drop { f with vp := .slice ao2 n2 cc2, lv := X.left - 1 } va) (dropF { X with ps := X.ps ++ r.ps, left := X.left - 1 }) [(w.heap.size, (rpc r (.slice sao r.ps.length scap)).toArray, 49), (b, #[pz f.sb], 24)] ((b7, (rsc R (.slice ao8 n8 c8)).toArray, 41) :: [(w.heap.size + 1, RZ, 41)]) (w8.setCell ⟨b7, 10, none⟩ (.slice ao8 n8 c8))) := X8.out.poke (set_kept' w8 b7 10 _) (block_set (j := 10) (.slice ao8 n8 c8) (X8.out.bm mc)) (fun p hp => by
  rw [List.mem_singleton] at hp
  subst hp
  have := HB7.out
  show w.heap.size + 1 ≠ b7
  omega)
 have HK9 : Hid (Kept (fun k => k = b7) w8 (w8.setCell ⟨b7, 10, none⟩ (.slice ao8 n8 c8))) := set_kept' w8 b7 10 _
 go_simp
 obtain ⟨W9, hW9⟩ := xj (w8.setCell ⟨b7, 10, none⟩ (.slice ao8 n8 c8))
 rw [hW9] at X9 HK9
 rw [hW9]
 refine kj hK (SN.out _ _ X9.out) (fun hHeld => ?_)
 clear hK K
 refine wpAnyH_done (by kernel_rfl) ?_ _
 clear hHeld SN C85 HX a10 z10 hW9 X8 X7 N7
 go_wp2_with (first
  | (refine wpList_load_row rfl 41 _ rfl b7 rfl 41 _ (0, 0) _ (X9.out.bm mc) Tryz.underlying41 rfl (by kernel_rfl) ?_)
  | (refine wpList_store_row rfl 41 _ _ rfl (w.heap.size + 1) _ rfl rfl 41 _ (X9.out.bm (List.mem_cons_of_mem _ mc)) (by kernel_rfl) rfl (rsc_all _ _ rfl) ?_))
 have XA : Hid (Cx (f.In X.act) N w (Fo.drop { f with vp := .slice ao2 n2 cc2, lv := X.left - 1 } va) (dropF { X with ps := X.ps ++ r.ps, left := X.left - 1 }) [(w.heap.size, (rpc r (.slice sao r.ps.length scap)).toArray, 49), (b, #[pz f.sb], 24)] [(w.heap.size + 1, RZ, 41)] W9) := X9.out.lessm (fun p hp => List.mem_cons_of_mem _ hp)
 refine bj XA.out ?_
 rw [← HR.out]
 refine ⟨.slice ao8 n8 c8, _, rfl, rfl, ?_, (XA.out.poke (setRow_kept _ _ _) (setRow_at (XA.out.bm mc)) nb).to, rfl, ⟨fun e => absurd (show (0 : Int) = 3 from e) (by decide), fun e => absurd (show (0 : Int) = 6 from e) (by decide), fun n hn => ?_⟩⟩
 ·refine RwF.stay (G := fun k => k = b7 ∨ k = w.heap.size + 1) HRW.out ⟨(HK9.out.mono (fun k e => .inl e)).trans (setRow_kept W9 (w.heap.size + 1) _) (fun k e => .inl (.inr e)), fun k e => ?_, fun k _ e => e.elim (fun e => .inl (.inl e)) .inr⟩ (by decide)
  rcases e with rfl | rfl
  ·exact .inl (.inr ⟨_, List.mem_cons_self .., rfl⟩)
  ·exact .inl (.inr ⟨_, List.mem_cons_of_mem _ mc, rfl⟩)
 ·have k := HU.out.bd.gs n hn
  rw [← cnt_drop] at k
  exact k
theorem scan84 (u : Un f N X 9 w) (b : Nat) (hb : Fx (f.Ex N X.act) w b #[pz f.sb] 24) (r : Rp) (vp : Value) (ho : X.op.k = 3) (hl : 1 ≤ X.left ∧ X.left ≤ 8) (hpl : X.ps.length + r.ps.length ≤ 1000) (hpv : ∀ p ∈ X.ps ++ r.ps, p.val.length ≤ 256) (hwl : X.ws.length ≤ 16) (hvp : RwF (f.Ex N X.act) 2 vp r.ps.length (rowC prc r.ps) w) (a : Ak) (ha : a.q.k = 2) (hr : r.k ≠ 3) :
  Calls Tryz.prog 84 #[.agg (rpc r vp).toArray, pz b, pz f.xb, pz f.lb, pz f.ob] w (GotP f N X w (ansF bt X a r).1 (ansF bt X a r).2) := by
 unfold ansF
 rw [if_neg hr, ha]
 by_cases h2 : r.k = 2
 ·rw [if_neg (fun e => absurd e.1 (by decide)), if_pos ⟨rfl, h2⟩]
  dsimp only
  by_cases h1 : X.left = 1
  ·rw [if_neg (show ¬ (0 : Int) < X.left - 1 by omega)]
   exact scan84c u b hb r vp ho h1 hpv hwl hvp hpl h2
  ·rw [if_pos (show (0 : Int) < X.left - 1 by omega)]
   exact (scan84a u b hb r vp ho (by omega) hl.2 hvp hpl h2).mono fun e w' g => g.p rfl
 ·rw [if_neg (fun e => absurd e.1 (by decide)), if_neg (fun e => h2 e.2), if_neg (fun e => absurd e.1 (by decide)), if_neg (fun e => absurd e.1 (by decide)), if_neg (fun e => absurd e.1 (by decide)), ← stop_eq (fun e => absurd (ho.symm.trans e) (by decide))]
  refine (scan84b u b hb r vp ho h2).mono fun e w' g => g.p ?_
  rw [stop_eq (fun e => absurd (ho.symm.trans e) (by decide))]
  exact stopF_ps _
theorem then_scan (u : Un f N X 9 w) (ho : X.op.k = 3) (hl : 1 ≤ X.left ∧ X.left ≤ 8) {r : Rp} (hpl : X.ps.length + r.ps.length ≤ 1000) (hpv : ∀ p ∈ X.ps ++ r.ps, p.val.length ≤ 256) (hwl : X.ws.length ≤ 16) (x : Ax) (hx : AkIs (f.Ex N X.act) f X w x) (hc : x.a.ch = false) (hst : x.a.st = 0) (ha : x.a.q.k = 2) (hsp : x.a.q.sp = X.sp ∧ x.a.q.sl = X.sl) (vp : Value) (hvp : RwF (f.Ex N X.act) 2 vp r.ps.length (rowC prc r.ps) w) : Then x.fv (rpc r vp).toArray w (GotP f N X w (ansF bt X x.a r).1 (ansF bt X x.a r).2) := by
 obtain ⟨bs', bn, bq, bd, h1, h2⟩ := hx.tr hc hst (by omega)
 refine ⟨117, _, h1, ent117, ?_⟩
 have hk : 1 ≤ x.a.q.k ∧ x.a.q.k ≤ 3 := by omega
 by_cases h3 : r.k = 3
 ·have e : ansF bt X x.a r = lockF bt X x.a r := by unfold ansF; rw [if_pos h3]
  rw [e]
  exact (try117a u x.a.sh x.a.q hk bs' bn bq bd h2 r vp (by rw [ho]; decide) (fun e => absurd (ho.symm.trans e) (by decide)) (fun _ => hsp) x.a rfl rfl h3).mono fun e w' g => g.p (lock_ps x.a r)
 ·refine try117b u x.a.sh x.a.q hk bs' bn bq bd h2 r vp _ _ (fun fnum cp N' W u' hd hrw => ?_) h3
  obtain ⟨b, hb', -, h4, -⟩ := hd
  have e := h4 ha
  injection e with e1 e2 e3
  injection e1 with e1
  subst e1
  subst e3
  exact scan84 u' b hb' r vp ho hl hpl hpv hwl (hrw _ _ hvp) x.a ha h3
end Go.Proofs.YtkdkgdollmmcnaaGreat
