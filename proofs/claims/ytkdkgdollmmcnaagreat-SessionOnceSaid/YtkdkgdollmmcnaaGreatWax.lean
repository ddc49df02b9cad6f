import Derived.Test.YtkdkgdollmmcnaaGreatWaw
set_option maxHeartbeats 4000000
set_option maxRecDepth 100000
set_option linter.unusedVariables false
set_option linter.unusedSimpArgs false
namespace Go.Proofs.YtkdkgdollmmcnaaGreat
open Go.RowKit Go.Sort Go.Shelf
variable {M M' G N : Nat → Prop} {W W' w : World} {f f' : Fo} {X X' : Ss}
theorem SC.begin (h : SC f N X W) (ha : X.act = false) (p l tb : Nat) (hk : Kept (fun k => k = f.sb) W W') (hb : W'.heap[f.sb]? = some (.cells (sbA { f with tb := tb, vw := sy } { X with np := p, nl := l, n := X.n + 1, act := true, sp := p, sl := l, ws := [] }) 77 (0, 0))) (ht : W'.heap[tb]? = some (.cells (txA { f with tb := tb, vw := sy } { X with np := p, nl := l, n := X.n + 1, act := true, sp := p, sl := l, ws := [] }) 79 (0, 0))) (hs : W.heap.size ≤ tb) : To f N X.act W { f with tb := tb, vw := sy } { X with np := p, nl := l, n := X.n + 1, act := true, sp := p, sl := l, ws := [] } W' := by
 have hin : ∀ i, ({ f with tb := tb, vw := sy } : Fo).In true i → f.In X.act i ∨ W.heap.size ≤ i := fun i hi => by
  rcases hi with e | e | e | ⟨-, e | e⟩ | e | e
  ·exact .inl (.inl e)
  ·exact .inl (.inr (.inl e))
  ·exact .inl (.inr (.inr (.inl e)))
  ·subst e; exact .inr hs
  ·cases e
  ·exact .inl (.inr (.inr (.inr (.inr (.inl e)))))
  ·exact .inl (.inr (.inr (.inr (.inr (.inr e)))))
 have s : Stay (fun k => k = f.sb) (f.Ex N X.act) (({ f with tb := tb, vw := sy } : Fo).Ex N true) W W' := ⟨hk, fun k e => .inr (.inl e), fun k hk e => e.elim .inl (fun e => (hin k e).elim .inr (fun e => absurd hk (by omega)))⟩
 have B : ∀ {b : Nat} {cs : Array Value} {ty : TypeId}, W.heap[b]? = some (.cells cs ty (0, 0)) → ty ≠ 77 → W'.heap[b]? = some (.cells cs ty (0, 0)) := fun {b cs ty} e h1 => by rw [hk.block b (lt_blk e) (ne_tag e h.blk h1)]; exact e
 have O : ∀ {base e size : Nat} {v : Value} {n : Nat} {cs : List Value}, W.ownsRow base e size v n cs → e ≠ 77 → W'.ownsRow base e size v n cs := fun h0 h1 => own_kept h0 hk fun k hv e => by
  subst e
  exact own_ne h0 h.blk h1 hv
 exact ⟨⟨hb, fun _ => ⟨ht, own_nil _ _ _ _⟩, O h.ra (by decide), O h.ro (by decide), h.ea, h.eo, ⟨fun a => B (h.bx.l a) (by decide), fun a => ⟨B (h.bx.p a).1 (by decide), O (h.bx.p a).2.1 (by decide), (h.bx.p a).2.2.stay s⟩, fun a => ⟨B (h.bx.c a).1 (by decide), (h.bx.c a).2⟩, h.bx.le⟩, fun n a => B (h.gb n a) (by decide), h.gd, fun x hx => (h.ak x hx).stay s ⟨rfl, rfl, rfl, rfl, fun _ h => ⟨h, rfl⟩⟩ rfl (fun _ _ => rfl), fun x hx => ⟨(h.lk x hx).1.stay s, (h.lk x hx).2⟩⟩, hk.mono (fun k e => .inl e), hin⟩
theorem begin29a (h : SC f N X w) (hn : Nok N f X.act w) (b : Bd f X) (ph : Nat) (ha : X.act = true) : Calls Tryz.prog 29 #[pz f.sb, uw ph] w (Got f N X w X (badF X 40)) := by
 have X0 : Hid (Cx (f.In X.act) N w f X [] [(w.heap.size, RZ, 41)] (w.alloc (.cells RZ 41))) := (Cx.start h hn nb).newm _ _
 obtain ⟨W1, hW1⟩ := xj (w.alloc (.cells RZ 41))
 rw [hW1] at X0
 have C2 : Hid (1 = 1 → Calls Tryz.prog 28 #[pz f.sb, iw 40] W1 fun r w' => r = .returned (rsV (badF X 40)) ∧ Cx (f.In X.act) N w f X [] [(w.heap.size, RZ, 41)] w') := fun _ => (refuse28 40 X0.out.sc).mono fun e w' ⟨h1, h2⟩ => ⟨h1, X0.out.on h2⟩
 have p6 : W1.cell? ⟨f.sb, 6, none⟩ = some (pz f.tb) := block_cell X0.out.sc.blk (by simp [sbA, vtV, ha])
 have HBd : Hid (Bd f X) := b
 clear h X0 b ha
 go_enter Tryz.func29, Tryz.ntmps29
 go_wp2_with fail
 refine (C2.out (by trivial)).mono ?_
 rintro r w3 ⟨rfl, h3⟩
 have X3 : Hid _ := h3
 clear h3 C2 p6 hW1
 unfold rsV
 go_wp2_with (refine wpList_store_row rfl 41 _ _ rfl w.heap.size _ rfl rfl 41 _ (X3.out.bm mc) (by kernel_rfl) rfl (rsc_all _ _ rfl) ?_)
 refine bj X3.out ?_
 exact ⟨rfl, _, (X3.out.poke (setRow_kept _ _ _) (setRow_at (X3.out.bm mc)) nb).to, rfl, HBd.out⟩
theorem begin29b (h : SC f N X w) (hn : Nok N f X.act w) (b : Bd f X) (ph : Nat) (ha : X.act = false) (p l : Nat) (er : Int) (ht : Clk.tickF (X.np : Int) (X.nl : Int) (ph : Int) = ((p : Int), (l : Int), er)) (he : er ≠ 0) : Calls Tryz.prog 29 #[pz f.sb, uw ph] w (Got f N X w X (badF X er)) := by
 have X0 : Hid (Cx (f.In X.act) N w f X [] [(w.heap.size, RZ, 41)] (w.alloc (.cells RZ 41))) := (Cx.start h hn nb).newm _ _
 obtain ⟨W1, hW1⟩ := xj (w.alloc (.cells RZ 41))
 rw [hW1] at X0
 have C75 : Hid (1 = 1 → Calls Tryz.prog 75 #[.agg #[uw X.np, uu X.nl], uw ph] W1 fun e w' => e = .returned (.tuple #[.agg #[uw p, uu l], iw er]) ∧ Cx (f.In X.act) N w f X [] [(w.heap.size, RZ, 41)] w') := fun _ => by
  have k := Clk.tick9 (X.np : Int) (X.nl : Int) (ph : Int) W1 (by omega) (by omega) (by omega)
  rw [ht] at k
  exact k.mono fun e w' ⟨h1, h2⟩ => ⟨h1, X0.out.on h2⟩
 have p6 : W1.cell? ⟨f.sb, 6, none⟩ = some (.pointer none) := block_cell X0.out.sc.blk (by simp [sbA, vtV, ha])
 have p2 : W1.cell? ⟨f.sb, 2, none⟩ = some (uw X.np) := block_cell X0.out.sc.blk rfl
 have p3 : W1.cell? ⟨f.sb, 3, none⟩ = some (uu X.nl) := block_cell X0.out.sc.blk rfl
 have HBd : Hid (Bd f X) := b
 have hee : (er == 0) = false := by simp [he]
 have hef : (er != 0) = true := by simp [he]
 clear h X0 b ha ht
 go_enter Tryz.func29, Tryz.ntmps29
 go_wp2_with fail
 refine (C75.out (by trivial)).mono ?_
 rintro e w2 ⟨rfl, h2⟩
 have XA : Hid (Cx (f.In X.act) N w f X [] [(w.heap.size, RZ, 41)] (w2.alloc (.cells #[uw p, uu l] 34))) := h2.on (al _)
 obtain ⟨W2, hW2⟩ := xj (w2.alloc (.cells #[uw p, uu l] 34))
 rw [hW2] at XA
 have C2 : Hid (1 = 1 → Calls Tryz.prog 28 #[pz f.sb, iw er] W2 fun r w' => r = .returned (rsV (badF X er)) ∧ Cx (f.In X.act) N w f X [] [(w.heap.size, RZ, 41)] w') := fun _ => (refuse28 er XA.out.sc).mono fun e w' ⟨h1, h2⟩ => ⟨h1, XA.out.on h2⟩
 clear h2 C75 p6 p2 p3 hW1 XA
 go_wp2_with fail
 refine (C2.out (by trivial)).mono ?_
 rintro r w3 ⟨rfl, h3⟩
 have X3 : Hid _ := h3
 clear h3 C2 hW2
 unfold rsV
 go_wp2_with (refine wpList_store_row rfl 41 _ _ rfl w.heap.size _ rfl rfl 41 _ (X3.out.bm mc) (by kernel_rfl) rfl (rsc_all _ _ rfl) ?_)
 refine bj X3.out ?_
 exact ⟨rfl, _, (X3.out.poke (setRow_kept _ _ _) (setRow_at (X3.out.bm mc)) nb).to, rfl, HBd.out⟩
theorem begin29c (h : SC f N X w) (hn : Nok N f X.act w) (b : Bd f X) (ph : Nat) (ha : X.act = false) (p l : Nat) (ht : Clk.tickF (X.np : Int) (X.nl : Int) (ph : Int) = ((p : Int), (l : Int), 0)) (hN : X.n + 1 < 4294967296) : Calls Tryz.prog 29 #[pz f.sb, uw ph] w (Got f N X w { X with np := p, nl := l, n := X.n + 1, act := true, sp := p, sl := l, ws := [] } { resF { X with np := p, nl := l, n := X.n + 1, act := true, sp := p, sl := l, ws := [] } 1 with ap := p, al := l }) := by
 have X0 : Hid (Cx (f.In X.act) N w f X [] [(w.heap.size, RZ, 41)] (w.alloc (.cells RZ 41))) := (Cx.start h hn nb).newm _ _
 obtain ⟨W1, hW1⟩ := xj (w.alloc (.cells RZ 41))
 rw [hW1] at X0
 have C75 : Hid (1 = 1 → Calls Tryz.prog 75 #[.agg #[uw X.np, uu X.nl], uw ph] W1 fun e w' => e = .returned (.tuple #[.agg #[uw p, uu l], iw 0]) ∧ Cx (f.In X.act) N w f X [] [(w.heap.size, RZ, 41)] w') := fun _ => by
  have k := Clk.tick9 (X.np : Int) (X.nl : Int) (ph : Int) W1 (by omega) (by omega) (by omega)
  rw [ht] at k
  exact k.mono fun e w' ⟨h1, h2⟩ => ⟨h1, X0.out.on h2⟩
 have p6 : W1.cell? ⟨f.sb, 6, none⟩ = some (.pointer none) := block_cell X0.out.sc.blk (by simp [sbA, vtV, ha])
 have p2 : W1.cell? ⟨f.sb, 2, none⟩ = some (uw X.np) := block_cell X0.out.sc.blk rfl
 have p3 : W1.cell? ⟨f.sb, 3, none⟩ = some (uu X.nl) := block_cell X0.out.sc.blk rfl
 have HB : Hid (Bd f X) := b
 have HA : Hid (X.act = false) := ha
 obtain ⟨n1, hn1⟩ := xj (X.n + 1)
 have hn1i : (X.n : Int) + 1 = (n1 : Int) := by omega
 have hn2 : (n1 : Int) < 4294967296 := by omega
 have HN1 : Hid (X.n + 1 = n1) := hn1
 clear h X0 b ha ht hN
 go_enter Tryz.func29, Tryz.ntmps29
 go_wp2_with fail
 refine (C75.out (by trivial)).mono ?_
 rintro e w2 ⟨rfl, h2⟩
 have XA : Hid (Cx (f.In X.act) N w f X [(w2.heap.size, #[uw p, uu l], 34)] [(w.heap.size, RZ, 41)] (w2.alloc (.cells #[uw p, uu l] 34))) := h2.new _ _
 clear h2 C75 p6 p2 p3 hW1
 obtain ⟨W2, hW2⟩ := xj (w2.alloc (.cells #[uw p, uu l] 34))
 rw [hW2] at XA
 obtain ⟨v7, hv7⟩ := xj (vsV f.sb X.op.k X.stg)
 have y0 : W2.heap[f.sb]? = some (.cells #[uu X.cl, iw (X.nsh : Int), uw X.np, uu X.nl, uu X.n, uu X.sq, .pointer none, v7, f.va, f.vo] 77 (0, 0)) := by
  have e := XA.out.sc.blk
  simp only [sbA, vtV, HA.out, hv7] at e
  exact e
 have x5 := XA.out.bx (b := w2.heap.size) (cs := #[uw p, uu l]) (ty := 34) (by simp)
 have hne : w2.heap.size ≠ f.sb := ne_tag x5 y0 (by decide)
 have q0 : W2.cell? ⟨w2.heap.size, 0, none⟩ = some (uw p) := block_cell x5 rfl
 have q1 : W2.cell? ⟨w2.heap.size, 1, none⟩ = some (uu l) := block_cell x5 rfl
 have a2 : W2.cell? ⟨f.sb, 2, none⟩ = some (uw X.np) := block_cell y0 rfl
 have b2 : W2.frozen? ⟨f.sb, 2, none⟩ = false := block_frozen y0 2
 have ya : (W2.setCell ⟨f.sb, 2, none⟩ (uw p)).heap[f.sb]? = some (.cells #[uu X.cl, iw (X.nsh : Int), uw p, uu X.nl, uu X.n, uu X.sq, .pointer none, v7, f.va, f.vo] 77 (0, 0)) := by simpa using block_set (j := 2) (uw p) y0
 have ka := set_kept' W2 f.sb 2 (uw p)
 obtain ⟨Wa, hWa⟩ := xj (W2.setCell ⟨f.sb, 2, none⟩ (uw p))
 rw [hWa] at ya ka
 have a3 : Wa.cell? ⟨f.sb, 3, none⟩ = some (uu X.nl) := block_cell ya rfl
 have b3 : Wa.frozen? ⟨f.sb, 3, none⟩ = false := block_frozen ya 3
 have yb : (Wa.setCell ⟨f.sb, 3, none⟩ (uu l)).heap[f.sb]? = some (.cells #[uu X.cl, iw (X.nsh : Int), uw p, uu l, uu X.n, uu X.sq, .pointer none, v7, f.va, f.vo] 77 (0, 0)) := by simpa using block_set (j := 3) (uu l) ya
 have kb := ka.trans (set_kept' Wa f.sb 3 (uu l)) (fun i e => .inl e)
 obtain ⟨Wb, hWb⟩ := xj (Wa.setCell ⟨f.sb, 3, none⟩ (uu l))
 rw [hWb] at yb kb
 have a4 : Wb.cell? ⟨f.sb, 4, none⟩ = some (uu X.n) := block_cell yb rfl
 have b4 : Wb.frozen? ⟨f.sb, 4, none⟩ = false := block_frozen yb 4
 have yc : (Wb.setCell ⟨f.sb, 4, none⟩ (uu n1)).heap[f.sb]? = some (.cells #[uu X.cl, iw (X.nsh : Int), uw p, uu l, uu n1, uu X.sq, .pointer none, v7, f.va, f.vo] 77 (0, 0)) := by simpa using block_set (j := 4) (uu n1) yb
 have kc := kb.trans (set_kept' Wb f.sb 4 (uu n1)) (fun i e => .inl e)
 obtain ⟨Wc, hWc⟩ := xj (Wb.setCell ⟨f.sb, 4, none⟩ (uu n1))
 rw [hWc] at yc kc
 have x5c : Wc.heap[w2.heap.size]? = some (.cells #[uw p, uu l] 34 (0, 0)) := by rw [kc.block _ (lt_blk x5) hne]; exact x5
 clear hn1
 go_upto_region 8 with fail
 have hlc : f.sb < Wc.heap.size := lt_blk yc
 have hlx : w2.heap.size < Wc.heap.size := lt_blk x5c
 have SD : Hid (∀ W : World, W.heap[f.sb]? = some (.cells #[uu X.cl, iw (X.nsh : Int), uw p, uu l, uu n1, uu X.sq, .pointer none, v7, f.va, f.vo] 77 (0, 0)) → W.heap[w2.heap.size]? = some (.cells #[uw p, uu l] 34 (0, 0)) → W.cell? ⟨f.sb, 0, none⟩ = some (uu X.cl) ∧ W.cell? ⟨f.sb, 4, none⟩ = some (uu n1) ∧ W.cell? ⟨w2.heap.size, 0, none⟩ = some (uw p) ∧ W.cell? ⟨w2.heap.size, 1, none⟩ = some (uu l)) := fun W e1 e2 => ⟨block_cell e1 rfl, block_cell e1 rfl, block_cell e2 rfl, block_cell e2 rfl⟩
 have ycd : Wc.drew.heap[f.sb]? = some (.cells #[uu X.cl, iw (X.nsh : Int), uw p, uu l, uu n1, uu X.sq, .pointer none, v7, f.va, f.vo] 77 (0, 0)) := yc
 have ycx : Wc.drew.heap[w2.heap.size]? = some (.cells #[uw p, uu l] 34 (0, 0)) := x5c
 have SX := SD.out _ ycd ycx
 have kd : Kept (fun k => k = f.sb) W2 ((Wc.alloc (.cells #[uu X.cl, uu n1, uw p, uu l, sy] 79)).drew) := kc.trans (Kept.of_below (F := fun k => k = f.sb) (al (W := Wc) (.cells #[uu X.cl, uu n1, uw p, uu l, sy] 79)).drew) (fun i e => .inl e)
 have zd : ((Wc.alloc (.cells #[uu X.cl, uu n1, uw p, uu l, sy] 79)).drew).heap[f.sb]? = some (.cells #[uu X.cl, iw (X.nsh : Int), uw p, uu l, uu n1, uu X.sq, .pointer none, v7, f.va, f.vo] 77 (0, 0)) := by
  show (Wc.alloc (.cells #[uu X.cl, uu n1, uw p, uu l, sy] 79)).heap[f.sb]? = _
  rw [(al (W := Wc) (.cells #[uu X.cl, uu n1, uw p, uu l, sy] 79)).block _ hlc]; exact yc
 have zx : ((Wc.alloc (.cells #[uu X.cl, uu n1, uw p, uu l, sy] 79)).drew).heap[w2.heap.size]? = some (.cells #[uw p, uu l] 34 (0, 0)) := by
  show (Wc.alloc (.cells #[uu X.cl, uu n1, uw p, uu l, sy] 79)).heap[w2.heap.size]? = _
  rw [(al (W := Wc) (.cells #[uu X.cl, uu n1, uw p, uu l, sy] 79)).block _ hlx]; exact x5c
 have zt : ((Wc.alloc (.cells #[uu X.cl, uu n1, uw p, uu l, sy] 79)).drew).heap[Wc.heap.size]? = some (.cells #[uu X.cl, uu n1, uw p, uu l, sy] 79 (0, 0)) := heap_alloc_new Wc _
 refine wp_region_held_drew (S := (fun W => W.cell? ⟨f.sb, 0, none⟩ = some (uu X.cl) ∧ W.cell? ⟨f.sb, 4, none⟩ = some (uu n1) ∧ W.cell? ⟨w2.heap.size, 0, none⟩ = some (uw p) ∧ W.cell? ⟨w2.heap.size, 1, none⟩ = some (uu l))) (by kernel_rfl) SX (fun hHeld => ?_)
 refine tq 0 ?_
 refine tq 1 ?_
 refine tq 2 ?_
 refine tq 3 ?_
 refine tw 4 ?_
 refine tq 5 ?_
 refine tq 6 ?_
 refine tq 7 ?_
 refine tw 8 ?_
 refine tq 9 ?_
 refine tw 10 ?_
 refine tq 11 ?_
 refine rd 12 (fun K hK => ?_)
 go_simp
 refine kj hK (SD.out _ zd zx) (fun hHeld => ?_)
 clear hK K
 have sz : Wc.drew.heap.size = Wc.heap.size := rfl
 try rw [sz]
 obtain ⟨Wd, hWd⟩ := xj (Wc.alloc (.cells #[uu X.cl, uu n1, uw p, uu l, sy] 79)).drew
 rw [hWd] at zd zx zt kd
 rw [hWd] at hHeld ⊢
 have a6 : Wd.cell? ⟨f.sb, 6, none⟩ = some (.pointer none) := block_cell zd rfl
 have b6 : Wd.frozen? ⟨f.sb, 6, none⟩ = false := block_frozen zd 6
 have ye : (Wd.setCell ⟨f.sb, 6, none⟩ (pz Wc.heap.size)).heap[f.sb]? = some (.cells #[uu X.cl, iw (X.nsh : Int), uw p, uu l, uu n1, uu X.sq, pz Wc.heap.size, v7, f.va, f.vo] 77 (0, 0)) := by simpa using block_set (j := 6) (pz Wc.heap.size) zd
 have ke := kd.trans (set_kept' Wd f.sb 6 (pz Wc.heap.size)) (fun i e => .inl e)
 have yt : (Wd.setCell ⟨f.sb, 6, none⟩ (pz Wc.heap.size)).heap[Wc.heap.size]? = some (.cells #[uu X.cl, uu n1, uw p, uu l, sy] 79 (0, 0)) := by rw [(set_kept' Wd f.sb 6 (pz Wc.heap.size)).block _ (lt_blk zt) (by omega)]; exact zt
 have yx : (Wd.setCell ⟨f.sb, 6, none⟩ (pz Wc.heap.size)).heap[w2.heap.size]? = some (.cells #[uw p, uu l] 34 (0, 0)) := by rw [(set_kept' Wd f.sb 6 (pz Wc.heap.size)).block _ (lt_blk zx) hne]; exact zx
 have hn1' : X.n + 1 = n1 := HN1.out
 have X5 : Hid (Cx (f.In X.act) N w { f with tb := Wc.heap.size, vw := sy } { X with np := p, nl := l, n := X.n + 1, act := true, sp := p, sl := l, ws := [] } [(w2.heap.size, #[uw p, uu l], 34)] [(w.heap.size, RZ, 41)] (Wd.setCell ⟨f.sb, 6, none⟩ (pz Wc.heap.size))) := XA.out.next (XA.out.sc.begin HA.out p l Wc.heap.size ke (by rw [ye, ← hn1', ← hv7]; rfl) (by rw [yt, ← hn1']; rfl) kc.size)
 refine tq 13 ?_
 refine tq 14 ?_
 refine rd 15 (fun K hK => ?_)
 go_simp
 refine kj hK ⟨block_cell ye rfl, block_cell ye rfl, block_cell yx rfl, block_cell yx rfl⟩ (fun hHeld => ?_)
 clear hK K
 refine wpAnyH_done (by kernel_rfl) ?_ _
 have HBd : Hid (Bd { f with tb := Wc.heap.size, vw := sy } { X with np := p, nl := l, n := X.n + 1, act := true, sp := p, sl := l, ws := [] }) := ⟨HB.out.sc, HB.out.co, HB.out.gs⟩
 obtain ⟨We, hWe⟩ := xj (Wd.setCell ⟨f.sb, 6, none⟩ (pz Wc.heap.size))
 rw [hWe] at X5 yx
 rw [hWe]
 have z0 : We.cell? ⟨w2.heap.size, 0, none⟩ = some (uw p) := block_cell yx rfl
 have z1 : We.cell? ⟨w2.heap.size, 1, none⟩ = some (uu l) := block_cell yx rfl
 have C76 : Hid (1 = 1 → Calls Tryz.prog 76 #[pz f.sb, iw 1, .agg #[uw p, uu l]] We fun e w' => e = .returned (rsV { resF { X with np := p, nl := l, n := X.n + 1, act := true, sp := p, sl := l, ws := [] } 1 with ap := p, al := l }) ∧ Cx (f.In X.act) N w { f with tb := Wc.heap.size, vw := sy } { X with np := p, nl := l, n := X.n + 1, act := true, sp := p, sl := l, ws := [] } [] [(w.heap.size, RZ, 41)] w') := fun _ => (toldAt76 1 p l X5.out.sc).mono fun e w' ⟨h1, h2⟩ => ⟨h1, (X5.out.less (Lo' := []) nb).on h2⟩
 clear hHeld SD SX XA y0 x5 q0 q1 a2 b2 ya ka hWa a3 b3 yb kb hWb a4 b4 yc kc hWc x5c hlc hlx ycd ycx kd zd zx zt hWd a6 b6 ke yt yx X5 hWe sz
 generalize ({ resF { X with np := p, nl := l, n := X.n + 1, act := true, sp := p, sl := l, ws := [] } 1 with ap := p, al := l } : Rs) = R9 at *
 generalize ({ X with np := p, nl := l, n := X.n + 1, act := true, sp := p, sl := l, ws := [] } : Ss) = X9 at *
 have HSB : Hid (({ f with tb := Wc.heap.size, vw := sy } : Fo).sb = f.sb) := rfl
 generalize ({ f with tb := Wc.heap.size, vw := sy } : Fo) = f9 at *
 go_wp2_with fail
 refine (C76.out (by trivial)).mono ?_
 rintro r w3 ⟨rfl, h3⟩
 have X3 : Hid _ := h3
 clear h3 C76 z0 z1
 unfold rsV
 go_wp2_with (refine wpList_store_row rfl 41 _ _ rfl w.heap.size _ rfl rfl 41 _ (X3.out.bm mc) (by kernel_rfl) rfl (rsc_all _ _ rfl) ?_)
 refine bj X3.out ?_
 exact ⟨rfl, _, (X3.out.poke (setRow_kept _ _ _) (setRow_at (X3.out.bm mc)) nb).to, HSB.out, HBd.out⟩
open Go.RowKit Go.Sort
theorem pairs54 (L : List Pr) (ao : Option Addr) (cap : Nat) (w : World) (hL : PsAt w.heap.size (.slice ao L.length cap) L w) :
  Calls Tryz.prog 109 #[.slice ao L.length cap] w fun e w' => e = .returned (.bool (decide (L.length ≤ 32) && L.all fun x => fitB x.key x.val)) ∧ Below w.heap.size w w' := by
 obtain ⟨hlc, hcm⟩ := hL.cap
 have hL9 : L.length < 9223372036854775808 := by omega
 by_cases hm : L.length ≤ 32
 ·have hm' : ¬ (32 : Int) < L.length := by omega
  have H0 : Hid ((L.drop 0).all (fun x => fitB x.key x.val) = L.all fun x => fitB x.key x.val) := by show _ = _; rw [List.drop_zero]
  have HD : Hid (decide (L.length ≤ 32) = true) := by show _ = _; simp [hm]
  have HE : Hid (∀ W, Below w.heap.size w W → ∀ i, i < L.length → ∃ b off, ao = some ⟨b, off, none⟩ ∧ PtAt W b (off + i * 2) (L.getD i dp)) := fun W hW i hi => (hL.on hW).el hi
  obtain ⟨y, hy⟩ := xj (L.all fun x => fitB x.key x.val)
  rw [hy] at H0 ⊢
  clear hL hlc hcm hy hm
  go_enter Tryz.func109, Tryz.ntmps109
  go_wp2_with fail
  go_loopw [10] (fun i wr => Below w.heap.size w wr ∧ ∃ m : Nat, m ≤ L.length ∧ i = iw m ∧ (L.drop m).all (fun x => fitB x.key x.val) = y) (fun i _ => L.length - (intOf i).toNat)
  case atStart => exact ⟨Below.refl _ _, 0, Nat.zero_le _, rfl, H0.out⟩
  case round =>
   obtain ⟨hbr, m, hm, rfl, hy⟩ := hrel
   have HBr : Hid (Below w.heap.size w wr) := hbr
   by_cases hml : m < L.length
   ·obtain ⟨b, off, rfl, e0, e1⟩ := HE.out wr hbr m hml
    have hml' : (m : Int) < L.length := by omega
    have hm9 : ¬ (m : Int) < 0 := by omega
    have hst := all_step (P := fun x : Pr => fitB x.key x.val) (d := dp) hml
    rw [hy] at hst
    have HQ : Hid (m + 1 ≤ L.length) := hml
    generalize L.getD m dp = x at *
    have CF : Hid (∀ W, 1 = 1 → _) := fun W _ => fits53 x.key x.val W
    generalize fitB x.key x.val = z at CF hst
    clear hbr hy HE
    cases z
    ·have hy1 : y = false := by rw [hst]; rfl
     subst hy1
     clear hst
     go_wp2_with fail
     refine (CF.out _ (by trivial)).mono ?_
     rintro e w1 ⟨rfl, rfl⟩
     go_wp2_with fail
     go_ret
     exact ⟨ret_bool (by rw [Bool.and_false]), HBr.out.alloc HBr.out.size _⟩
    ·have HY : Hid ((L.drop (m + 1)).all (fun x => fitB x.key x.val) = y) := by show _ = _; rw [hst]; rfl
     clear hst
     go_wp2_with fail
     refine (CF.out _ (by trivial)).mono ?_
     rintro e w1 ⟨rfl, rfl⟩
     go_wp2_with fail
     go_roundw
     case rel => exact ⟨HBr.out.alloc HBr.out.size _, m + 1, HQ.out, by go_num, HY.out⟩
     case measure => simp [intOf]; omega
   ·have hml' : ¬ (m : Int) < L.length := by omega
    have hy1 : y = true := by rw [← hy, List.drop_eq_nil_of_le (by omega)]; rfl
    subst hy1
    clear hy HE
    go_wp2_with fail
    go_ret
    exact ⟨ret_bool (by rw [HD.out]), HBr.out⟩
 ·have hm' : (32 : Int) < L.length := by omega
  have HD : Hid (decide (L.length ≤ 32) = false) := by show _ = _; simp [hm]
  clear hL hlc hcm hm
  go_enter Tryz.func109, Tryz.ntmps109
  go_wp2_with fail
  go_ret
  exact ⟨ret_bool (by rw [HD.out, Bool.false_and]), Below.refl _ _⟩
theorem writes56 (L : List Wr) (ao : Option Addr) (cap : Nat) (w : World) (hL : WsAt w.heap.size (.slice ao L.length cap) L w) :
  Calls Tryz.prog 111 #[.slice ao L.length cap] w fun e w' => e = .returned (.bool (decide (L.length ≤ 16) && L.all fun x => fitB x.key x.val)) ∧ Below w.heap.size w w' := by
 obtain ⟨hlc, hcm⟩ := hL.cap
 have hL9 : L.length < 9223372036854775808 := by omega
 by_cases hm : L.length ≤ 16
 ·have hm' : ¬ (16 : Int) < L.length := by omega
  have H0 : Hid ((L.drop 0).all (fun x => fitB x.key x.val) = L.all fun x => fitB x.key x.val) := by show _ = _; rw [List.drop_zero]
  have HD : Hid (decide (L.length ≤ 16) = true) := by show _ = _; simp [hm]
  have HE : Hid (∀ W, Below w.heap.size w W → ∀ i, i < L.length → ∃ b off, ao = some ⟨b, off, none⟩ ∧ WtAt W b (off + i * 3) (L.getD i dw)) := fun W hW i hi => (hL.on hW).el hi
  obtain ⟨y, hy⟩ := xj (L.all fun x => fitB x.key x.val)
  rw [hy] at H0 ⊢
  clear hL hlc hcm hy hm
  go_enter Tryz.func111, Tryz.ntmps111
  go_wp2_with fail
  go_loopw [10] (fun i wr => Below w.heap.size w wr ∧ ∃ m : Nat, m ≤ L.length ∧ i = iw m ∧ (L.drop m).all (fun x => fitB x.key x.val) = y) (fun i _ => L.length - (intOf i).toNat)
  case atStart => exact ⟨Below.refl _ _, 0, Nat.zero_le _, rfl, H0.out⟩
  case round =>
   obtain ⟨hbr, m, hm, rfl, hy⟩ := hrel
   have HBr : Hid (Below w.heap.size w wr) := hbr
   by_cases hml : m < L.length
   ·obtain ⟨b, off, rfl, e0, e1, e2⟩ := HE.out wr hbr m hml
    have hml' : (m : Int) < L.length := by omega
    have hm9 : ¬ (m : Int) < 0 := by omega
    have hst := all_step (P := fun x : Wr => fitB x.key x.val) (d := dw) hml
    rw [hy] at hst
    have HQ : Hid (m + 1 ≤ L.length) := hml
    generalize L.getD m dw = x at *
    have CF : Hid (∀ W, 1 = 1 → _) := fun W _ => fits53 x.key x.val W
    generalize fitB x.key x.val = z at CF hst
    clear hbr hy HE
    cases z
    ·have hy1 : y = false := by rw [hst]; rfl
     subst hy1
     clear hst
     go_wp2_with fail
     refine (CF.out _ (by trivial)).mono ?_
     rintro e w1 ⟨rfl, rfl⟩
     go_wp2_with fail
     go_ret
     exact ⟨ret_bool (by rw [Bool.and_false]), HBr.out.alloc HBr.out.size _⟩
    ·have HY : Hid ((L.drop (m + 1)).all (fun x => fitB x.key x.val) = y) := by show _ = _; rw [hst]; rfl
     clear hst
     go_wp2_with fail
     refine (CF.out _ (by trivial)).mono ?_
     rintro e w1 ⟨rfl, rfl⟩
     go_wp2_with fail
     go_roundw
     case rel => exact ⟨HBr.out.alloc HBr.out.size _, m + 1, HQ.out, by go_num, HY.out⟩
     case measure => simp [intOf]; omega
   ·have hml' : ¬ (m : Int) < L.length := by omega
    have hy1 : y = true := by rw [← hy, List.drop_eq_nil_of_le (by omega)]; rfl
    subst hy1
    clear hy HE
    go_wp2_with fail
    go_ret
    exact ⟨ret_bool (by rw [HD.out]), HBr.out⟩
 ·have hm' : (16 : Int) < L.length := by omega
  have HD : Hid (decide (L.length ≤ 16) = false) := by show _ = _; simp [hm]
  clear hL hlc hcm hm
  go_enter Tryz.func111, Tryz.ntmps111
  go_wp2_with fail
  go_ret
  exact ⟨ret_bool (by rw [HD.out, Bool.false_and]), Below.refl _ _⟩
theorem bs_nil_empty : bs [] = ⟨#[]⟩ := rfl
theorem no_bool {x : Bool} (h : x = true → False) : x = false := by
 cases x with
 | false => rfl
 | true => exact absurd rfl h
theorem q_zero {q : Rq} (g0 : (q.k == 0) = true) (g1 : (q.c == 0 && q.n == 0) = true) (g2 : (q.sp == 0 && q.sl == 0) = true) (g3 : (q.ap == 0 && q.al == 0) = true) (g4 : (bs q.key).toList.isEmpty = true) (g5 : (bs q.to).toList.isEmpty = true) (g6 : (q.lim == 0) = true) (g7 : ((q.pt : Int) == 0) = true) (g8 : ((q.ws.length : Int) == 0) = true) (g9 : ((q.sk.length : Int) == 0) = true) : sameQ q zQ = true := by
 obtain ⟨k, c, n, sp, sl, ap, al, key, tt, lim, pt, ws, sk⟩ := q
 simp only [bs_list, List.isEmpty_iff, Bool.and_eq_true, beq_iff_eq] at g0 g1 g2 g3 g4 g5 g6 g7 g8 g9
 have h8 : ws = [] := List.eq_nil_of_length_eq_zero (by omega)
 have h9 : sk = [] := List.eq_nil_of_length_eq_zero (by omega)
 have h7 : pt = 0 := by omega
 rw [sameQ_iff, zQ, g0, g1.1, g1.2, g2.1, g2.2, g3.1, g3.2, g4, g5, g6, h7, h8, h9]
theorem r_zero {r : Rp} (g0 : (r.k == 0) = true) (g1 : (r.er == 0) = true) (g2 : r.fd = false) (g3 : (bs r.val).toList.isEmpty = true) (g4 : ((r.ps.length : Int) == 0) = true) (g5 : (r.c == 0 && r.n == 0) = true) (g6 : (r.sp == 0 && r.sl == 0) = true) (g7 : (r.ap == 0 && r.al == 0) = true) (g8 : (bs r.prim).toList.isEmpty = true) (g9 : (r.np == 0 && r.nl == 0) = true) : sameR r zR = true := by
 obtain ⟨k, er, fd, val, ps, c, n, sp, sl, ap, al, prim, np, nl⟩ := r
 simp only [bs_list, List.isEmpty_iff, Bool.and_eq_true, beq_iff_eq] at g0 g1 g2 g3 g4 g5 g6 g7 g8 g9
 have h4 : ps = [] := List.eq_nil_of_length_eq_zero (by omega)
 rw [sameR_iff, zR, g0, g1, g2, g3, h4, g5.1, g5.2, g6.1, g6.2, g7.1, g7.2, g8, g9.1, g9.2]
theorem noask24 (q : Rq) (wa sa : Option Addr) (wc sc : Nat) (w : World) :
  Calls Tryz.prog 68 #[.agg #[iw q.k, uu q.c, uu q.n, uw q.sp, uu q.sl, uw q.ap, uu q.al, sd q.key, sd q.to, iw q.lim, .int .u8 (q.pt : Int), .slice wa q.ws.length wc, .slice sa q.sk.length sc]] w fun e w' => e = .returned (.bool (sameQ q zQ)) ∧ Below w.heap.size w w' := by
 have H0 : Hid _ := bx_new w #[iw q.k, uu q.c, uu q.n, uw q.sp, uu q.sl, uw q.ap, uu q.al, sd q.key, sd q.to, iw q.lim, .int .u8 (q.pt : Int), .slice wa q.ws.length wc, .slice sa q.sk.length sc] 53
 obtain ⟨W1, hW1⟩ := xj (w.alloc (.cells #[iw q.k, uu q.c, uu q.n, uw q.sp, uu q.sl, uw q.ap, uu q.al, sd q.key, sd q.to, iw q.lim, .int .u8 (q.pt : Int), .slice wa q.ws.length wc, .slice sa q.sk.length sc] 53))
 obtain ⟨b, hb⟩ := xj w.heap.size
 have H1 : Hid (Bx w b #[iw q.k, uu q.c, uu q.n, uw q.sp, uu q.sl, uw q.ap, uu q.al, sd q.key, sd q.to, iw q.lim, .int .u8 (q.pt : Int), .slice wa q.ws.length wc, .slice sa q.sk.length sc] 53 W1) := by rw [← hb, ← hW1]; exact H0.out
 clear H0
 have p0 : W1.cell? ⟨b, 0, none⟩ = some (iw q.k) := block_cell H1.out.x rfl
 have p1 : W1.cell? ⟨b, 1, none⟩ = some (uu q.c) := block_cell H1.out.x rfl
 have p2 : W1.cell? ⟨b, 2, none⟩ = some (uu q.n) := block_cell H1.out.x rfl
 have p3 : W1.cell? ⟨b, 3, none⟩ = some (uw q.sp) := block_cell H1.out.x rfl
 have p4 : W1.cell? ⟨b, 4, none⟩ = some (uu q.sl) := block_cell H1.out.x rfl
 have p5 : W1.cell? ⟨b, 5, none⟩ = some (uw q.ap) := block_cell H1.out.x rfl
 have p6 : W1.cell? ⟨b, 6, none⟩ = some (uu q.al) := block_cell H1.out.x rfl
 have p7 : W1.cell? ⟨b, 7, none⟩ = some (sd q.key) := block_cell H1.out.x rfl
 have p8 : W1.cell? ⟨b, 8, none⟩ = some (sd q.to) := block_cell H1.out.x rfl
 have p9 : W1.cell? ⟨b, 9, none⟩ = some (iw q.lim) := block_cell H1.out.x rfl
 have p10 : W1.cell? ⟨b, 10, none⟩ = some (.int .u8 (q.pt : Int)) := block_cell H1.out.x rfl
 have p11 : W1.cell? ⟨b, 11, none⟩ = some (.slice wa q.ws.length wc) := block_cell H1.out.x rfl
 have p12 : W1.cell? ⟨b, 12, none⟩ = some (.slice sa q.sk.length sc) := block_cell H1.out.x rfl
 obtain ⟨q0, hq0⟩ := xj (q.k == 0)
 have HQ0 : Hid ((q.k == 0) = q0) := hq0
 cases q0
 ·skip
  go_enter Tryz.func68, Tryz.ntmps68
  (try simp only [List.append_eq, List.cons_append, List.nil_append])
  go_wp2_with fail
  go_ret
  exact ⟨ret_bool ((no_bool (fun h => by have h := sameQ_iff.1 h; have g := HQ0.out; rw [h] at g; revert g; first | decide | simp [zQ, bs_nil_empty])).symm), by first | exact H1.out.bel | exact al _⟩
 obtain ⟨q1, hq1⟩ := xj (q.c == 0 && q.n == 0)
 have E1 : ∀ W : World, (binOp .eql 38 (.agg #[uu q.c, uu q.n]) (.agg #[.int .u32 0, .int .u32 0])).run Tryz.prog W = .ok (.bool q1) W := fun W => by rw [← hq1]; exact run_eql24 q.c q.n 0 0 W
 have HQ1 : Hid ((q.c == 0 && q.n == 0) = q1) := hq1
 clear hq1
 cases q1
 ·skip
  go_enter Tryz.func68, Tryz.ntmps68
  (try simp only [List.append_eq, List.cons_append, List.nil_append])
  go_wp2_with fail
  go_ret
  exact ⟨ret_bool ((no_bool (fun h => by have h := sameQ_iff.1 h; have g := HQ1.out; rw [h] at g; revert g; first | decide | simp [zQ, bs_nil_empty])).symm), by first | exact H1.out.bel | exact al _⟩
 obtain ⟨q2, hq2⟩ := xj (q.sp == 0 && q.sl == 0)
 have E2 : ∀ W : World, (binOp .eql 34 (.agg #[uw q.sp, uu q.sl]) (.agg #[.int .u64 0, .int .u32 0])).run Tryz.prog W = .ok (.bool q2) W := fun W => by rw [← hq2]; exact run_eql27 q.sp q.sl 0 0 W
 have HQ2 : Hid ((q.sp == 0 && q.sl == 0) = q2) := hq2
 clear hq2
 cases q2
 ·skip
  go_enter Tryz.func68, Tryz.ntmps68
  (try simp only [List.append_eq, List.cons_append, List.nil_append])
  go_wp2_with fail
  go_ret
  exact ⟨ret_bool ((no_bool (fun h => by have h := sameQ_iff.1 h; have g := HQ2.out; rw [h] at g; revert g; first | decide | simp [zQ, bs_nil_empty])).symm), by first | exact H1.out.bel | exact al _⟩
 obtain ⟨q3, hq3⟩ := xj (q.ap == 0 && q.al == 0)
 have E3 : ∀ W : World, (binOp .eql 34 (.agg #[uw q.ap, uu q.al]) (.agg #[.int .u64 0, .int .u32 0])).run Tryz.prog W = .ok (.bool q3) W := fun W => by rw [← hq3]; exact run_eql27 q.ap q.al 0 0 W
 have HQ3 : Hid ((q.ap == 0 && q.al == 0) = q3) := hq3
 clear hq3
 cases q3
 ·skip
  go_enter Tryz.func68, Tryz.ntmps68
  (try simp only [List.append_eq, List.cons_append, List.nil_append])
  go_wp2_with fail
  go_ret
  exact ⟨ret_bool ((no_bool (fun h => by have h := sameQ_iff.1 h; have g := HQ3.out; rw [h] at g; revert g; first | decide | simp [zQ, bs_nil_empty])).symm), by first | exact H1.out.bel | exact al _⟩
 obtain ⟨q4, hq4⟩ := xj (bs q.key).toList.isEmpty
 have HQ4 : Hid ((bs q.key).toList.isEmpty = q4) := hq4
 cases q4
 ·skip
  go_enter Tryz.func68, Tryz.ntmps68
  (try simp only [List.append_eq, List.cons_append, List.nil_append])
  go_wp2_with fail
  go_ret
  exact ⟨ret_bool ((no_bool (fun h => by have h := sameQ_iff.1 h; have g := HQ4.out; rw [h] at g; revert g; first | decide | simp [zQ, bs_nil_empty])).symm), by first | exact H1.out.bel | exact al _⟩
 obtain ⟨q5, hq5⟩ := xj (bs q.to).toList.isEmpty
 have HQ5 : Hid ((bs q.to).toList.isEmpty = q5) := hq5
 cases q5
 ·skip
  go_enter Tryz.func68, Tryz.ntmps68
  (try simp only [List.append_eq, List.cons_append, List.nil_append])
  go_wp2_with fail
  go_ret
  exact ⟨ret_bool ((no_bool (fun h => by have h := sameQ_iff.1 h; have g := HQ5.out; rw [h] at g; revert g; first | decide | simp [zQ, bs_nil_empty])).symm), by first | exact H1.out.bel | exact al _⟩
 obtain ⟨q6, hq6⟩ := xj (q.lim == 0)
 have HQ6 : Hid ((q.lim == 0) = q6) := hq6
 cases q6
 ·skip
  go_enter Tryz.func68, Tryz.ntmps68
  (try simp only [List.append_eq, List.cons_append, List.nil_append])
  go_wp2_with fail
  go_ret
  exact ⟨ret_bool ((no_bool (fun h => by have h := sameQ_iff.1 h; have g := HQ6.out; rw [h] at g; revert g; first | decide | simp [zQ, bs_nil_empty])).symm), by first | exact H1.out.bel | exact al _⟩
 obtain ⟨q7, hq7⟩ := xj ((q.pt : Int) == 0)
 have HQ7 : Hid (((q.pt : Int) == 0) = q7) := hq7
 cases q7
 ·skip
  go_enter Tryz.func68, Tryz.ntmps68
  (try simp only [List.append_eq, List.cons_append, List.nil_append])
  go_wp2_with fail
  go_ret
  exact ⟨ret_bool ((no_bool (fun h => by have h := sameQ_iff.1 h; have g := HQ7.out; rw [h] at g; revert g; first | decide | simp [zQ, bs_nil_empty])).symm), by first | exact H1.out.bel | exact al _⟩
 obtain ⟨q8, hq8⟩ := xj ((q.ws.length : Int) == 0)
 have HQ8 : Hid (((q.ws.length : Int) == 0) = q8) := hq8
 cases q8
 ·skip
  go_enter Tryz.func68, Tryz.ntmps68
  (try simp only [List.append_eq, List.cons_append, List.nil_append])
  go_wp2_with fail
  go_ret
  exact ⟨ret_bool ((no_bool (fun h => by have h := sameQ_iff.1 h; have g := HQ8.out; rw [h] at g; revert g; first | decide | simp [zQ, bs_nil_empty])).symm), by first | exact H1.out.bel | exact al _⟩
 obtain ⟨q9, hq9⟩ := xj ((q.sk.length : Int) == 0)
 have HQ9 : Hid (((q.sk.length : Int) == 0) = q9) := hq9
 cases q9
 ·skip
  go_enter Tryz.func68, Tryz.ntmps68
  (try simp only [List.append_eq, List.cons_append, List.nil_append])
  go_wp2_with fail
  go_ret
  exact ⟨ret_bool ((no_bool (fun h => by have h := sameQ_iff.1 h; have g := HQ9.out; rw [h] at g; revert g; first | decide | simp [zQ, bs_nil_empty])).symm), by first | exact H1.out.bel | exact al _⟩
 go_enter Tryz.func68, Tryz.ntmps68
 (try simp only [List.append_eq, List.cons_append, List.nil_append])
 go_wp2_with fail
 go_ret
 exact ⟨ret_bool ((q_zero HQ0.out HQ1.out HQ2.out HQ3.out HQ4.out HQ5.out HQ6.out HQ7.out HQ8.out HQ9.out).symm), by first | exact H1.out.bel | exact al _⟩
theorem noreply26 (r : Rp) (pa : Option Addr) (pc : Nat) (w : World) :
  Calls Tryz.prog 70 #[.agg #[iw r.k, iw r.er, .bool r.fd, sd r.val, .slice pa r.ps.length pc, uu r.c, uu r.n, uw r.sp, uu r.sl, uw r.ap, uu r.al, sd r.prim, uw r.np, uu r.nl]] w fun e w' => e = .returned (.bool (sameR r zR)) ∧ Below w.heap.size w w' := by
 have H0 : Hid _ := bx_new w #[iw r.k, iw r.er, .bool r.fd, sd r.val, .slice pa r.ps.length pc, uu r.c, uu r.n, uw r.sp, uu r.sl, uw r.ap, uu r.al, sd r.prim, uw r.np, uu r.nl] 49
 obtain ⟨W1, hW1⟩ := xj (w.alloc (.cells #[iw r.k, iw r.er, .bool r.fd, sd r.val, .slice pa r.ps.length pc, uu r.c, uu r.n, uw r.sp, uu r.sl, uw r.ap, uu r.al, sd r.prim, uw r.np, uu r.nl] 49))
 obtain ⟨b, hb⟩ := xj w.heap.size
 have H1 : Hid (Bx w b #[iw r.k, iw r.er, .bool r.fd, sd r.val, .slice pa r.ps.length pc, uu r.c, uu r.n, uw r.sp, uu r.sl, uw r.ap, uu r.al, sd r.prim, uw r.np, uu r.nl] 49 W1) := by rw [← hb, ← hW1]; exact H0.out
 clear H0
 have p0 : W1.cell? ⟨b, 0, none⟩ = some (iw r.k) := block_cell H1.out.x rfl
 have p1 : W1.cell? ⟨b, 1, none⟩ = some (iw r.er) := block_cell H1.out.x rfl
 have p2 : W1.cell? ⟨b, 2, none⟩ = some (.bool r.fd) := block_cell H1.out.x rfl
 have p3 : W1.cell? ⟨b, 3, none⟩ = some (sd r.val) := block_cell H1.out.x rfl
 have p4 : W1.cell? ⟨b, 4, none⟩ = some (.slice pa r.ps.length pc) := block_cell H1.out.x rfl
 have p5 : W1.cell? ⟨b, 5, none⟩ = some (uu r.c) := block_cell H1.out.x rfl
 have p6 : W1.cell? ⟨b, 6, none⟩ = some (uu r.n) := block_cell H1.out.x rfl
 have p7 : W1.cell? ⟨b, 7, none⟩ = some (uw r.sp) := block_cell H1.out.x rfl
 have p8 : W1.cell? ⟨b, 8, none⟩ = some (uu r.sl) := block_cell H1.out.x rfl
 have p9 : W1.cell? ⟨b, 9, none⟩ = some (uw r.ap) := block_cell H1.out.x rfl
 have p10 : W1.cell? ⟨b, 10, none⟩ = some (uu r.al) := block_cell H1.out.x rfl
 have p11 : W1.cell? ⟨b, 11, none⟩ = some (sd r.prim) := block_cell H1.out.x rfl
 have p12 : W1.cell? ⟨b, 12, none⟩ = some (uw r.np) := block_cell H1.out.x rfl
 have p13 : W1.cell? ⟨b, 13, none⟩ = some (uu r.nl) := block_cell H1.out.x rfl
 obtain ⟨q0, hq0⟩ := xj (r.k == 0)
 have HQ0 : Hid ((r.k == 0) = q0) := hq0
 cases q0
 ·skip
  go_enter Tryz.func70, Tryz.ntmps70
  (try simp only [List.append_eq, List.cons_append, List.nil_append])
  go_wp2_with fail
  go_ret
  exact ⟨ret_bool ((no_bool (fun h => by have h := sameR_iff.1 h; have g := HQ0.out; rw [h] at g; revert g; first | decide | simp [zR, bs_nil_empty])).symm), by first | exact H1.out.bel | exact al _⟩
 obtain ⟨q1, hq1⟩ := xj (r.er == 0)
 have HQ1 : Hid ((r.er == 0) = q1) := hq1
 cases q1
 ·skip
  go_enter Tryz.func70, Tryz.ntmps70
  (try simp only [List.append_eq, List.cons_append, List.nil_append])
  go_wp2_with fail
  go_ret
  exact ⟨ret_bool ((no_bool (fun h => by have h := sameR_iff.1 h; have g := HQ1.out; rw [h] at g; revert g; first | decide | simp [zR, bs_nil_empty])).symm), by first | exact H1.out.bel | exact al _⟩
 obtain ⟨q2, hq2⟩ := xj r.fd
 have HQ2 : Hid (r.fd = q2) := hq2
 cases q2
 rotate_left
 ·skip
  go_enter Tryz.func70, Tryz.ntmps70
  (try simp only [List.append_eq, List.cons_append, List.nil_append])
  go_wp2_with fail
  go_ret
  exact ⟨ret_bool ((no_bool (fun h => by have h := sameR_iff.1 h; have g := HQ2.out; rw [h] at g; revert g; first | decide | simp [zR, bs_nil_empty])).symm), by first | exact H1.out.bel | exact al _⟩
 obtain ⟨q3, hq3⟩ := xj (bs r.val).toList.isEmpty
 have HQ3 : Hid ((bs r.val).toList.isEmpty = q3) := hq3
 cases q3
 ·skip
  go_enter Tryz.func70, Tryz.ntmps70
  (try simp only [List.append_eq, List.cons_append, List.nil_append])
  go_wp2_with fail
  go_ret
  exact ⟨ret_bool ((no_bool (fun h => by have h := sameR_iff.1 h; have g := HQ3.out; rw [h] at g; revert g; first | decide | simp [zR, bs_nil_empty])).symm), by first | exact H1.out.bel | exact al _⟩
 obtain ⟨q4, hq4⟩ := xj ((r.ps.length : Int) == 0)
 have HQ4 : Hid (((r.ps.length : Int) == 0) = q4) := hq4
 cases q4
 ·skip
  go_enter Tryz.func70, Tryz.ntmps70
  (try simp only [List.append_eq, List.cons_append, List.nil_append])
  go_wp2_with fail
  go_ret
  exact ⟨ret_bool ((no_bool (fun h => by have h := sameR_iff.1 h; have g := HQ4.out; rw [h] at g; revert g; first | decide | simp [zR, bs_nil_empty])).symm), by first | exact H1.out.bel | exact al _⟩
 obtain ⟨q5, hq5⟩ := xj (r.c == 0 && r.n == 0)
 have E5 : ∀ W : World, (binOp .eql 38 (.agg #[uu r.c, uu r.n]) (.agg #[.int .u32 0, .int .u32 0])).run Tryz.prog W = .ok (.bool q5) W := fun W => by rw [← hq5]; exact run_eql24 r.c r.n 0 0 W
 have HQ5 : Hid ((r.c == 0 && r.n == 0) = q5) := hq5
 clear hq5
 cases q5
 ·skip
  go_enter Tryz.func70, Tryz.ntmps70
  (try simp only [List.append_eq, List.cons_append, List.nil_append])
  go_wp2_with fail
  go_ret
  exact ⟨ret_bool ((no_bool (fun h => by have h := sameR_iff.1 h; have g := HQ5.out; rw [h] at g; revert g; first | decide | simp [zR, bs_nil_empty])).symm), by first | exact H1.out.bel | exact al _⟩
 obtain ⟨q6, hq6⟩ := xj (r.sp == 0 && r.sl == 0)
 have E6 : ∀ W : World, (binOp .eql 34 (.agg #[uw r.sp, uu r.sl]) (.agg #[.int .u64 0, .int .u32 0])).run Tryz.prog W = .ok (.bool q6) W := fun W => by rw [← hq6]; exact run_eql27 r.sp r.sl 0 0 W
 have HQ6 : Hid ((r.sp == 0 && r.sl == 0) = q6) := hq6
 clear hq6
 cases q6
 ·skip
  go_enter Tryz.func70, Tryz.ntmps70
  (try simp only [List.append_eq, List.cons_append, List.nil_append])
  go_wp2_with fail
  go_ret
  exact ⟨ret_bool ((no_bool (fun h => by have h := sameR_iff.1 h; have g := HQ6.out; rw [h] at g; revert g; first | decide | simp [zR, bs_nil_empty])).symm), by first | exact H1.out.bel | exact al _⟩
 obtain ⟨q7, hq7⟩ := xj (r.ap == 0 && r.al == 0)
 have E7 : ∀ W : World, (binOp .eql 34 (.agg #[uw r.ap, uu r.al]) (.agg #[.int .u64 0, .int .u32 0])).run Tryz.prog W = .ok (.bool q7) W := fun W => by rw [← hq7]; exact run_eql27 r.ap r.al 0 0 W
 have HQ7 : Hid ((r.ap == 0 && r.al == 0) = q7) := hq7
 clear hq7
 cases q7
 ·skip
  go_enter Tryz.func70, Tryz.ntmps70
  (try simp only [List.append_eq, List.cons_append, List.nil_append])
  go_wp2_with fail
  go_ret
  exact ⟨ret_bool ((no_bool (fun h => by have h := sameR_iff.1 h; have g := HQ7.out; rw [h] at g; revert g; first | decide | simp [zR, bs_nil_empty])).symm), by first | exact H1.out.bel | exact al _⟩
 obtain ⟨q8, hq8⟩ := xj (bs r.prim).toList.isEmpty
 have HQ8 : Hid ((bs r.prim).toList.isEmpty = q8) := hq8
 cases q8
 ·skip
  go_enter Tryz.func70, Tryz.ntmps70
  (try simp only [List.append_eq, List.cons_append, List.nil_append])
  go_wp2_with fail
  go_ret
  exact ⟨ret_bool ((no_bool (fun h => by have h := sameR_iff.1 h; have g := HQ8.out; rw [h] at g; revert g; first | decide | simp [zR, bs_nil_empty])).symm), by first | exact H1.out.bel | exact al _⟩
 obtain ⟨q9, hq9⟩ := xj (r.np == 0 && r.nl == 0)
 have E9 : ∀ W : World, (binOp .eql 34 (.agg #[uw r.np, uu r.nl]) (.agg #[.int .u64 0, .int .u32 0])).run Tryz.prog W = .ok (.bool q9) W := fun W => by rw [← hq9]; exact run_eql27 r.np r.nl 0 0 W
 have HQ9 : Hid ((r.np == 0 && r.nl == 0) = q9) := hq9
 clear hq9
 cases q9
 ·skip
  go_enter Tryz.func70, Tryz.ntmps70
  (try simp only [List.append_eq, List.cons_append, List.nil_append])
  go_wp2_with fail
  go_ret
  exact ⟨ret_bool ((no_bool (fun h => by have h := sameR_iff.1 h; have g := HQ9.out; rw [h] at g; revert g; first | decide | simp [zR, bs_nil_empty])).symm), by first | exact H1.out.bel | exact al _⟩
 go_enter Tryz.func70, Tryz.ntmps70
 (try simp only [List.append_eq, List.cons_append, List.nil_append])
 go_wp2_with fail
 go_ret
 exact ⟨ret_bool ((r_zero HQ0.out HQ1.out HQ2.out HQ3.out HQ4.out HQ5.out HQ6.out HQ7.out HQ8.out HQ9.out).symm), by first | exact H1.out.bel | exact al _⟩
end Go.Proofs.YtkdkgdollmmcnaaGreat
