import Derived.Test.YtkdkgdollmmcnaaGreatWat
set_option maxHeartbeats 4000000
set_option maxRecDepth 100000
set_option linter.unusedVariables false
set_option linter.unusedSimpArgs false
namespace Go.Proofs.YtkdkgdollmmcnaaGreat
open Go.RowKit Go.Sort Go.Shelf
variable {M M' G N : Nat → Prop} {W W' w : World} {f f' : Fo} {X X' : Ss}
theorem rqc_all (q : Rq) (vw vs : Value) (h1 : vw.oneCell' = true) (h2 : vs.oneCell' = true) : (rqc q vw vs).toArray.all (·.oneCell') = true := by
 have i1 : ∀ k n, (Value.int k n).oneCell' = true := fun _ _ => rfl
 have i3 : ∀ b, (Value.string b).oneCell' = true := fun _ => rfl
 simp [rqc, i1, i3, h1, h2]
theorem SC.decide (h : SC f N X W) (p l : Nat) (hk : Kept (fun k => k = f.sb) W W') (hb : W'.heap[f.sb]? = some (.cells (sbA f { X with stg := 2, cp := p, cll := l }) 77 (0, 0))) : To f N X.act W { f with ok := 0 } { X with stg := 2, cp := p, cll := l } W' := by
 have hin : ∀ i, ({ f with ok := 0 } : Fo).In X.act i → f.In X.act i := fun i hi => by
  rcases hi with e | e | e | e | ⟨e, _⟩ | e
  ·exact .inl e
  ·exact .inr (.inl e)
  ·exact .inr (.inr (.inl e))
  ·exact .inr (.inr (.inr (.inl e)))
  ·exact absurd rfl e
  ·exact .inr (.inr (.inr (.inr (.inr e))))
 have s : Stay (fun k => k = f.sb) (f.Ex N X.act) (({ f with ok := 0 } : Fo).Ex N X.act) W W' := ⟨hk, fun k e => .inr (.inl e), fun k _ e => e.elim .inl (fun e => .inr (hin k e))⟩
 have B : ∀ {b : Nat} {cs : Array Value} {ty : TypeId}, W.heap[b]? = some (.cells cs ty (0, 0)) → ty ≠ 77 → W'.heap[b]? = some (.cells cs ty (0, 0)) := fun {b cs ty} e h1 => by rw [hk.block b (lt_blk e) (ne_tag e h.blk h1)]; exact e
 have O : ∀ {base e size : Nat} {v : Value} {n : Nat} {cs : List Value}, W.ownsRow base e size v n cs → e ≠ 77 → W'.ownsRow base e size v n cs := fun h0 h1 => own_kept h0 hk fun k hv e => by
  subst e
  exact own_ne h0 h.blk h1 hv
 refine ⟨⟨hb, fun a => ⟨B (h.tx a).1 (by decide), O (h.tx a).2 (by decide)⟩, O h.ra (by decide), O h.ro (by decide), h.ea, h.eo, ⟨fun a => absurd rfl a, (fun a => by cases a), (fun a => by cases a), Nat.zero_le _⟩, fun n a => B (h.gb n a) (by decide), fun n a => ⟨fun e => absurd rfl e, (h.gd n a).2⟩, fun x hx => (h.ak x hx).stay s ⟨rfl, rfl, rfl, rfl, fun _ h => ⟨h, rfl⟩⟩ rfl (fun _ _ => rfl), fun x hx => ⟨(h.lk x hx).1.stay s, (h.lk x hx).2⟩⟩, hk.mono (fun k e => .inl e), fun i hi => .inl (hin i hi)⟩
theorem decide93 (u : Un f N X 9 w) (ho : X.op.k = 6) (hne : X.ws ≠ []) (p l : Nat) : Calls Tryz.prog 93 #[pz f.sb, .agg #[uw p, uu l]] w (Got f N X w (decideF bt { X with stg := 2, cp := p, cll := l }) zS) := by
 obtain ⟨ao, cap, hv, -, -⟩ := WsAt.shape (rw_own (u.sc.tx u.act).2)
 have X0 := (Cx.start (Lo := []) u.sc u.nk nb).box21 #[pz f.sb] 24 #[uw p, uu l] 34 RZ 41
 obtain ⟨W1, hW1⟩ := xj (((w.alloc (.cells #[pz f.sb] 24)).alloc (.cells #[uw p, uu l] 34)).alloc (.cells RZ 41))
 rw [hW1] at X0
 have p7 : W1.cell? ⟨f.sb, 7, none⟩ = some (vsV f.sb X.op.k X.stg) := block_cell X0.sc.blk rfl
 have g7 : W1.frozen? ⟨f.sb, 7, none⟩ = false := block_frozen X0.sc.blk 7
 have c1 : W1.cell? ⟨w.heap.size, 0, none⟩ = some (pz f.sb) := X0.bc
 have X1 := X0.next (X0.sc.decide p l (set_kept' W1 f.sb 7 (.func (.func 135) #[pz f.sb] #[])) (by
  have e := block_set (j := 7) (.func (.func 135) #[pz f.sb] #[]) X0.sc.blk
  rw [e]
  simp [sbA, vsV, ho]))
 obtain ⟨W2, hW2⟩ := xj (W1.setCell ⟨f.sb, 7, none⟩ (.func (.func 135) #[pz f.sb] #[]))
 rw [hW2] at X1
 have d1 : W2.cell? ⟨w.heap.size, 0, none⟩ = some (pz f.sb) := X1.bc
 have d6 : W2.cell? ⟨f.sb, 6, none⟩ = some (pz f.tb) := block_cell X1.sc.blk (by simp [sbA, vtV, u.act])
 obtain ⟨f2, hf2⟩ : ∃ f2 : Fo, { f with ok := 0 } = f2 := ⟨_, rfl⟩
 obtain ⟨X2, hX2⟩ : ∃ X2 : Ss, { X with stg := 2, cp := p, cll := l } = X2 := ⟨_, rfl⟩
 have hbd : Bd f2 X2 := by
  rw [← hf2, ← hX2]
  exact ⟨fun e => absurd (ho.symm.trans e) (by decide), (fun _ e => by cases e), u.bd.gs⟩
 have hrm : Room f2 X2 := by
  rw [← hf2, ← hX2]
  exact ⟨u.rm.room.sq, u.rm.room.la, u.rm.room.lo⟩
 have ha2 : X2.act = true := by rw [← hX2]; exact u.act
 have hne2 : X2.ws ≠ [] := by rw [← hX2]; exact hne
 obtain ⟨pk, hpk⟩ := xj (priF X2)
 obtain ⟨hm, hhm⟩ := xj (homeF bt X2 pk)
 obtain ⟨pt, hpt⟩ := xj (bt.bits (bt.parts X2.ws X2.nsh))
 have hsb2 : f2.sb = f.sb := by rw [← hf2]
 have htb2 : f2.tb = f.tb := by rw [← hf2]
 have hS2 : X2.ws = X.ws ∧ X2.nsh = X.nsh ∧ X2.cl = X.cl ∧ X2.n = X.n ∧ X2.sp = X.sp ∧ X2.sl = X.sl ∧ X2.cp = p ∧ X2.cll = l := by rw [← hX2]; exact ⟨rfl, rfl, rfl, rfl, rfl, rfl, rfl, rfl⟩
 have hv2 : f2.vw = .slice ao X.ws.length cap := by rw [← hf2]; exact hv
 have hXD : decideF bt { X with stg := 2, cp := p, cll := l } = askF X2 (akF hm { zQ with k := 4, c := X.cl, n := X.n, sp := X.sp, sl := X.sl, ap := p, al := l, key := pk, pt := pt }) := by
  rw [hX2]
  obtain ⟨-, -, e3, e4, e5, e6, e7, e8⟩ := hS2
  unfold decideF
  rw [hpk, hhm, hpt, e3, e4, e5, e6, e7, e8]
 rw [hXD]
 have X1' : Hid (Cx (f.In X.act) N w f2 X2 [(w.heap.size + 1, #[uw p, uu l], 34), (w.heap.size, #[pz f.sb], 24)] [(w.heap.size + 2, RZ, 41)] W2) := by rw [← hf2, ← hX2]; exact X1
 have HX : Hid (Cx (f.In X.act) N w f2 X2 [(w.heap.size + 1, #[uw p, uu l], 34), (w.heap.size, #[pz f.sb], 24)] [(w.heap.size + 2, RZ, 41)] W2.drew) := X1'.out.drew
 have SN : Hid (∀ Lm W, Cx (f.In X.act) N w f2 X2 [(w.heap.size + 1, #[uw p, uu l], 34), (w.heap.size, #[pz f.sb], 24)] Lm W → W.cell? ⟨w.heap.size, 0, none⟩ = some (pz f.sb) ∧ W.cell? ⟨f.sb, 1, none⟩ = some (iw (X.nsh : Int)) ∧ W.cell? ⟨f.tb, 0, none⟩ = some (uu X.cl) ∧ W.cell? ⟨f.tb, 1, none⟩ = some (uu X.n) ∧ W.cell? ⟨f.tb, 2, none⟩ = some (uw X.sp) ∧ W.cell? ⟨f.tb, 3, none⟩ = some (uu X.sl) ∧ W.cell? ⟨f.tb, 4, none⟩ = some (.slice ao X.ws.length cap) ∧ W.cell? ⟨w.heap.size + 1, 0, none⟩ = some (uw p) ∧ W.cell? ⟨w.heap.size + 1, 1, none⟩ = some (uu l)) := fun Lm W c => by
  have tx := c.sc.tx ha2
  obtain ⟨e1, e2, e3, e4, e5, e6, e7, e8⟩ := hS2
  have a1 : W.cell? ⟨f2.sb, 1, none⟩ = some (iw (X2.nsh : Int)) := block_cell c.sc.blk rfl
  have a2 : W.cell? ⟨f2.tb, 0, none⟩ = some (uu X2.cl) := block_cell tx.1 rfl
  have a3 : W.cell? ⟨f2.tb, 1, none⟩ = some (uu X2.n) := block_cell tx.1 rfl
  have a4 : W.cell? ⟨f2.tb, 2, none⟩ = some (uw X2.sp) := block_cell tx.1 rfl
  have a5 : W.cell? ⟨f2.tb, 3, none⟩ = some (uu X2.sl) := block_cell tx.1 rfl
  have a6 : W.cell? ⟨f2.tb, 4, none⟩ = some f2.vw := block_cell tx.1 rfl
  rw [hsb2, e2] at a1
  rw [htb2, e3] at a2
  rw [htb2, e4] at a3
  rw [htb2, e5] at a4
  rw [htb2, e6] at a5
  rw [htb2, hv2] at a6
  exact ⟨c.bc, a1, a2, a3, a4, a5, a6, c.bc, c.bc⟩
 have SL : Hid (∀ f' X' Lm W, Cx (f.In X.act) N w f' X' [(w.heap.size + 1, #[uw p, uu l], 34), (w.heap.size, #[pz f.sb], 24)] Lm W → W.cell? ⟨w.heap.size, 0, none⟩ = some (pz f.sb)) := fun f' X' Lm W c => c.bc
 have C91 : Hid (∀ Lm W, Cx (f.In X.act) N w f2 X2 [(w.heap.size + 1, #[uw p, uu l], 34), (w.heap.size, #[pz f.sb], 24)] Lm W → Calls Tryz.prog 91 #[pz f.tb] W fun e w' => e = .returned (sd pk) ∧ W = w') := fun Lm W c => by
  have k := primary91 c.sc ha2 hne2
  rw [hpk, htb2] at k
  exact k
 have C136 : Hid (∀ Lm W, Cx (f.In X.act) N w f2 X2 [(w.heap.size + 1, #[uw p, uu l], 34), (w.heap.size, #[pz f.sb], 24)] Lm W → Calls Tryz.prog 136 #[.slice ao X.ws.length cap, iw (X.nsh : Int)] W fun e w' => e = .returned (.int .u8 (pt : Int)) ∧ Cx (f.In X.act) N w f2 X2 [(w.heap.size + 1, #[uw p, uu l], 34), (w.heap.size, #[pz f.sb], 24)] Lm w') := fun Lm W c => by
  have hws : WsAt W.heap.size (.slice ao X.ws.length cap) X.ws W := by
   have := rw_own (c.sc.tx ha2).2
   rw [hv2, hS2.1] at this
   exact this
  have k := Pla.parts17 X.ws ao cap (X.nsh : Int) W u.ws hws
  rw [← hpt, hS2.1, hS2.2.1]
  exact k.mono fun e w' ⟨h1, h2⟩ => ⟨h1, c.on h2⟩
 have C137 : Hid (∀ Lm W, Cx (f.In X.act) N w f2 X2 [(w.heap.size + 1, #[uw p, uu l], 34), (w.heap.size, #[pz f.sb], 24)] Lm W → Calls Tryz.prog 137 #[pz f.sb] W fun e w' => e = .returned (iw (hm : Int)) ∧ Cx (f.In X.act) N w f2 X2 [(w.heap.size + 1, #[uw p, uu l], 34), (w.heap.size, #[pz f.sb], 24)] Lm w') := fun Lm W c => by
  have k := home137 c.sc ha2 hne2
  rw [hpk, hhm, hsb2] at k
  exact k.mono fun e w' ⟨h1, h2⟩ => ⟨h1, c.on h2⟩
 have C116 : Hid (∀ Lm W, Cx (f.In X.act) N w f2 X2 [(w.heap.size + 1, #[uw p, uu l], 34), (w.heap.size, #[pz f.sb], 24)] Lm W → Calls Tryz.prog 116 #[pz f.sb, iw (hm : Int), .agg #[iw 4, uu X.cl, uu X.n, uw X.sp, uu X.sl, uw p, uu l, sd pk, su, iw 0, .int .u8 (pt : Int), sy, sy], (.func (.func 138) #[] #[pz w.heap.size, .pointer (some ⟨w.heap.size + 1, 0, none⟩)])] W fun e w' => e = .returned (.tuple #[]) ∧ ∃ f', Cx (f.In X.act) N w f' (askF X2 (akF hm { zQ with k := 4, c := X.cl, n := X.n, sp := X.sp, sl := X.sl, ap := p, al := l, key := pk, pt := pt })) [(w.heap.size + 1, #[uw p, uu l], 34), (w.heap.size, #[pz f.sb], 24)] Lm w' ∧ f'.sb = f.sb ∧ Bd f' (askF X2 (akF hm { zQ with k := 4, c := X.cl, n := X.n, sp := X.sp, sl := X.sl, ap := p, al := l, key := pk, pt := pt }))) := fun Lm W c => by
  have hN : hm < 4294967296 := by rw [← hhm]; exact homeF_lt _ (by rw [hS2.2.1]; exact u.ns.2)
  have s1 : Fx (f2.Ex (Nm N Lm) X2.act) W w.heap.size #[pz f2.sb] 24 := by rw [hsb2]; exact c.fx (by simp)
  have s2 : Fx (f2.Ex (Nm N Lm) X2.act) W (w.heap.size + 1) #[uw p, uu l] 34 := c.fx (by simp)
  have ha : AkIs (f2.Ex (Nm N Lm) X2.act) f2 X2 W ⟨{ akF hm { zQ with k := 4, c := X.cl, n := X.n, sp := X.sp, sl := X.sl, ap := p, al := l, key := pk, pt := pt } with sq := X2.sq + 1 }, sy, sy, (.func (.func 138) #[] #[pz w.heap.size, .pointer (some ⟨w.heap.size + 1, 0, none⟩)])⟩ := ⟨qf_nil _ _ _ rfl rfl, ⟨rfl, rfl, rfl⟩, (fun _ _ e => absurd (show (4 : Int) ≤ 3 from e) (by decide)), (fun _ e => by cases e), (fun _ e => by cases e), (fun _ _ _ => ⟨_, _, rfl, s1, s2⟩), (fun _ _ e => absurd (show (4 : Int) = 6 from e) (by decide)), (fun e => by cases e), (fun e => by cases e)⟩
  have k := ask116 c.sc hrm hm (akF hm { zQ with k := 4, c := X.cl, n := X.n, sp := X.sp, sl := X.sl, ap := p, al := l, key := pk, pt := pt }) sy sy (.func 138) #[] _ #[iw 4, uu X.cl, uu X.n, uw X.sp, uu X.sl, uw p, uu l, sd pk, su, iw 0, .int .u8 (pt : Int), sy, sy] rfl rfl rfl hN ha
  rw [hsb2] at k
  exact k.mono fun e w' ⟨h1, va, vo, h2⟩ => ⟨h1, _, c.next h2, hsb2, hbd.ask rfl⟩
 generalize vsV f.sb X.op.k X.stg = v7 at *
 clear u X0 X1 hhm hpk hpt hXD hbd hrm hS2 hv2 hv hsb2 htb2 hne2 ha2 hne ho hf2 hX2
 go_enter Tryz.func93, Tryz.ntmps93
 go_upto_region 3 with fail
 go_cut [6] (fun s6 wc => ∃ bq, s6 = .pointer (some ⟨bq, 0, none⟩) ∧ Hid (w.heap.size + 2 < bq) ∧ Hid (Cx (f.In X.act) N w f2 X2 [(w.heap.size + 1, #[uw p, uu l], 34), (w.heap.size, #[pz f.sb], 24)] ((bq, #[iw 4, uu X.cl, uu X.n, uw X.sp, uu X.sl, uw p, uu l, sd pk, su, iw 0, .int .u8 (pt : Int), sy, sy], 53) :: [(w.heap.size + 2, RZ, 41)]) wc))
 case first =>
  refine wp_region_held_drew (S := (fun W => W.cell? ⟨w.heap.size, 0, none⟩ = some (pz f.sb) ∧ W.cell? ⟨f.sb, 1, none⟩ = some (iw (X.nsh : Int)) ∧ W.cell? ⟨f.tb, 0, none⟩ = some (uu X.cl) ∧ W.cell? ⟨f.tb, 1, none⟩ = some (uu X.n) ∧ W.cell? ⟨f.tb, 2, none⟩ = some (uw X.sp) ∧ W.cell? ⟨f.tb, 3, none⟩ = some (uu X.sl) ∧ W.cell? ⟨f.tb, 4, none⟩ = some (.slice ao X.ws.length cap) ∧ W.cell? ⟨w.heap.size + 1, 0, none⟩ = some (uw p) ∧ W.cell? ⟨w.heap.size + 1, 1, none⟩ = some (uu l))) (by kernel_rfl) (SN.out _ _ HX.out) (fun hHeld => ?_)
  refine tq 0 ?_
  refine tq 1 ?_
  refine tq 2 ?_
  refine tw 3 ?_
  refine tq 4 ?_
  refine tq 5 ?_
  refine tq 6 ?_
  refine tw 7 ?_
  refine tw 8 ?_
  refine tq 9 ?_
  refine tq 11 ?_
  refine tq 12 ?_
  refine tq 13 ?_
  refine tw 14 ?_
  refine tw 15 ?_
  refine tq 16 ?_
  refine tq 17 ?_
  refine tw 18 ?_
  refine wpAnyH_ready (rs := [10, 21]) (by kernel_rfl) (by simp) ?_
  refine AllReadyH.cons rfl (fun K hK => ?_) (AllReadyH.cons rfl (fun K hK => ?_) AllReadyH.nil)
  ·go_simp
   refine (C91.out _ _ HX.out).mono ?_
   rintro e w3 ⟨rfl, rfl⟩
   go_wp2_with fail
   refine kj hK (SN.out _ _ HX.out) (fun hHeld => ?_)
   clear hK K
   refine wpAnyH_ready (rs := [19, 21]) (by kernel_rfl) (by simp) ?_
   refine AllReadyH.cons rfl (fun K hK => ?_) (AllReadyH.cons rfl (fun K hK => ?_) AllReadyH.nil)
   ·go_simp
    refine (C136.out _ _ HX.out).mono ?_
    rintro e w3 ⟨rfl, h3⟩
    have HY : Hid _ := h3
    clear h3 HX
    have HX := HY
    clear HY
    go_wp2_with fail
    refine kj hK (SN.out _ _ HX.out) (fun hHeld => ?_)
    clear hK K
    refine tq 20 ?_
    refine rd 21 (fun K hK => ?_)
    ·go_simp
     have HL : Hid _ := lt_blk (HX.out.bm mc)
     have HY : Hid _ := HX.out.newm #[iw 0, .int .u32 0, .int .u32 0, .int .u64 0, .int .u32 0, .int .u64 0, .int .u32 0, su, su, iw 0, .int .u8 0, sy, sy] 53
     clear HX
     have HX := HY
     clear HY
     refine kj hK (SN.out _ _ HX.out) (fun hHeld => ?_)
     clear hK K
     refine rd 22 (fun K hK => ?_)
     rw [if_pos (by rfl)]
     refine wp_store_row 53 _ _ rfl _ _ rfl rfl 53 _ (HX.out.bm mc) (by kernel_rfl) rfl (rqc_all { zQ with k := 4, c := X.cl, n := X.n, sp := X.sp, sl := X.sl, ap := p, al := l, key := pk, pt := pt } sy sy rfl rfl) ?_
     have HY : Hid _ := HX.out.poke (setRow_kept _ _ #[iw 4, uu X.cl, uu X.n, uw X.sp, uu X.sl, uw p, uu l, sd pk, su, iw 0, .int .u8 (pt : Int), sy, sy]) (setRow_at (HX.out.bm mc)) (fun pp hp => by rw [List.mem_singleton] at hp; subst hp; exact Nat.ne_of_lt HL.out)
     clear HX
     have HX := HY
     clear HY
     refine kj hK (SN.out _ _ HX.out) (fun hHeld => ?_)
     clear hK K
     refine wpAnyH_done (by kernel_rfl) ?_ _
     go_wp2_with fail
     go_meet
     case rel => exact ⟨_, rfl, HL, HX⟩
   ·go_simp
    have HL : Hid _ := lt_blk (HX.out.bm mc)
    have HY : Hid _ := HX.out.newm #[iw 0, .int .u32 0, .int .u32 0, .int .u64 0, .int .u32 0, .int .u64 0, .int .u32 0, su, su, iw 0, .int .u8 0, sy, sy] 53
    clear HX
    have HX := HY
    clear HY
    refine kj hK (SN.out _ _ HX.out) (fun hHeld => ?_)
    clear hK K
    refine rd 19 (fun K hK => ?_)
    ·go_simp
     refine (C136.out _ _ HX.out).mono ?_
     rintro e w3 ⟨rfl, h3⟩
     have HY : Hid _ := h3
     clear h3 HX
     have HX := HY
     clear HY
     go_wp2_with fail
     refine kj hK (SN.out _ _ HX.out) (fun hHeld => ?_)
     clear hK K
     refine tq 20 ?_
     refine rd 22 (fun K hK => ?_)
     rw [if_pos (by rfl)]
     refine wp_store_row 53 _ _ rfl _ _ rfl rfl 53 _ (HX.out.bm mc) (by kernel_rfl) rfl (rqc_all { zQ with k := 4, c := X.cl, n := X.n, sp := X.sp, sl := X.sl, ap := p, al := l, key := pk, pt := pt } sy sy rfl rfl) ?_
     have HY : Hid _ := HX.out.poke (setRow_kept _ _ #[iw 4, uu X.cl, uu X.n, uw X.sp, uu X.sl, uw p, uu l, sd pk, su, iw 0, .int .u8 (pt : Int), sy, sy]) (setRow_at (HX.out.bm mc)) (fun pp hp => by rw [List.mem_singleton] at hp; subst hp; exact Nat.ne_of_lt HL.out)
     clear HX
     have HX := HY
     clear HY
     refine kj hK (SN.out _ _ HX.out) (fun hHeld => ?_)
     clear hK K
     refine wpAnyH_done (by kernel_rfl) ?_ _
     go_wp2_with fail
     go_meet
     case rel => exact ⟨_, rfl, HL, HX⟩
  ·go_simp
   have HL : Hid _ := lt_blk (HX.out.bm mc)
   have HY : Hid _ := HX.out.newm #[iw 0, .int .u32 0, .int .u32 0, .int .u64 0, .int .u32 0, .int .u64 0, .int .u32 0, su, su, iw 0, .int .u8 0, sy, sy] 53
   clear HX
   have HX := HY
   clear HY
   refine kj hK (SN.out _ _ HX.out) (fun hHeld => ?_)
   clear hK K
   refine rd 10 (fun K hK => ?_)
   ·go_simp
    refine (C91.out _ _ HX.out).mono ?_
    rintro e w3 ⟨rfl, rfl⟩
    go_wp2_with fail
    refine kj hK (SN.out _ _ HX.out) (fun hHeld => ?_)
    clear hK K
    refine rd 19 (fun K hK => ?_)
    ·go_simp
     refine (C136.out _ _ HX.out).mono ?_
     rintro e w3 ⟨rfl, h3⟩
     have HY : Hid _ := h3
     clear h3 HX
     have HX := HY
     clear HY
     go_wp2_with fail
     refine kj hK (SN.out _ _ HX.out) (fun hHeld => ?_)
     clear hK K
     refine tq 20 ?_
     refine rd 22 (fun K hK => ?_)
     rw [if_pos (by rfl)]
     refine wp_store_row 53 _ _ rfl _ _ rfl rfl 53 _ (HX.out.bm mc) (by kernel_rfl) rfl (rqc_all { zQ with k := 4, c := X.cl, n := X.n, sp := X.sp, sl := X.sl, ap := p, al := l, key := pk, pt := pt } sy sy rfl rfl) ?_
     have HY : Hid _ := HX.out.poke (setRow_kept _ _ #[iw 4, uu X.cl, uu X.n, uw X.sp, uu X.sl, uw p, uu l, sd pk, su, iw 0, .int .u8 (pt : Int), sy, sy]) (setRow_at (HX.out.bm mc)) (fun pp hp => by rw [List.mem_singleton] at hp; subst hp; exact Nat.ne_of_lt HL.out)
     clear HX
     have HX := HY
     clear HY
     refine kj hK (SN.out _ _ HX.out) (fun hHeld => ?_)
     clear hK K
     refine wpAnyH_done (by kernel_rfl) ?_ _
     go_wp2_with fail
     go_meet
     case rel => exact ⟨_, rfl, HL, HX⟩
 case rest =>
  obtain ⟨bq, rfl, HL, HQ⟩ := hcut
  clear HX X1' d1 d6 c1 p7 g7 SN C91 C136
  have HX : Hid _ := HQ.out.drew
  clear HQ
  go_upto_region 4 with fail
  have hr := rsc_all zS sy rfl
  have SR : Hid (∀ f' X' W, Cx (f.In X.act) N w f' X' [(w.heap.size + 1, #[uw p, uu l], 34), (w.heap.size, #[pz f.sb], 24)] ((bq, #[iw 4, uu X.cl, uu X.n, uw X.sp, uu X.sl, uw p, uu l, sd pk, su, iw 0, .int .u8 (pt : Int), sy, sy], 53) :: [(w.heap.size + 2, RZ, 41)]) W → W.cell? ⟨w.heap.size, 0, none⟩ = some (pz f.sb) ∧ W.rangeAt bq 0 [iw 4, uu X.cl, uu X.n, uw X.sp, uu X.sl, uw p, uu l, sd pk, su, iw 0, .int .u8 (pt : Int), sy, sy]) := fun f' X' W c => ⟨SL.out _ _ _ _ c, range_box (n := 13) (c.bm mc)⟩
  refine wp_region_held_drew (S := (fun W => W.cell? ⟨w.heap.size, 0, none⟩ = some (pz f.sb) ∧ W.rangeAt bq 0 [iw 4, uu X.cl, uu X.n, uw X.sp, uu X.sl, uw p, uu l, sd pk, su, iw 0, .int .u8 (pt : Int), sy, sy])) (by kernel_rfl) (SR.out _ _ _ HX.out) (fun hHeld => ?_)
  refine tw 0 ?_
  refine tw 1 ?_
  refine tl 3 53 bq 0 [iw 4, uu X.cl, uu X.n, uw X.sp, uu X.sl, uw p, uu l, sd pk, su, iw 0, .int .u8 (pt : Int), sy, sy] (fun W hW => hW.2) Tryz.underlying53 ?_
  refine tq 4 ?_
  refine rd 2 (fun K hK => ?_)
  go_simp
  refine (C137.out _ _ HX.out).mono ?_
  rintro e w3 ⟨rfl, h3⟩
  have HY : Hid _ := h3
  clear h3 HX
  have HX := HY
  clear HY
  go_wp2_with fail
  refine kj hK (SR.out _ _ _ HX.out) (fun hHeld => ?_)
  clear hK K
  refine rd 5 (fun K hK => ?_)
  go_simp
  refine (C116.out _ _ HX.out).mono ?_
  rintro e w4 ⟨rfl, f', h4, hsb, hbd⟩
  have HF : Hid _ := And.intro hsb hbd
  have HY : Hid _ := h4
  clear h4 HX hsb hbd
  go_wp2_with fail
  refine kj hK (SR.out _ _ _ HY.out) (fun hHeld => ?_)
  clear hK K
  refine wpAnyH_done (by kernel_rfl) ?_ _
  clear hHeld C137 C116
  have HX : Hid _ := HY.out.swapm
  clear HY
  go_wp2_with (refine wpList_store_row rfl 41 _ _ rfl (w.heap.size + 2) (rsc zS sy).toArray rfl rfl 41 _ (HX.out.bm mc) (by kernel_rfl) rfl hr ?_)
  refine bj HX.out ?_
  exact ⟨rfl, _, (HX.out.poke (setRow_kept _ _ _) (setRow_at (HX.out.bm mc)) (fun pp hp => by rw [List.mem_singleton] at hp; subst hp; exact Nat.ne_of_gt HL.out)).to, HF.out.1, HF.out.2⟩
end Go.Proofs.YtkdkgdollmmcnaaGreat
