import Derived.Test.YtkdkgdollmmcnaaGreatWax
set_option maxHeartbeats 4000000
set_option maxRecDepth 100000
set_option linter.unusedVariables false
set_option linter.unusedSimpArgs false
namespace Go.Proofs.YtkdkgdollmmcnaaGreat
open Go.RowKit Go.Sort Go.Shelf
variable {M M' G N : Nat → Prop} {W W' w : World} {f f' : Fo} {X X' : Ss}
theorem eqlN (w : World) : (binOp .eql 74 .nilFunc .nilFunc).run Tryz.prog w = .ok (.bool true) w := by first | rfl | kernel_rfl | simp [go_sem]
theorem eqlF (fn : Fn) (fi cp : Array Value) (w : World) : (binOp .eql 74 (.func fn fi cp) .nilFunc).run Tryz.prog w = .ok (.bool false) w := by first | rfl | kernel_rfl | simp [go_sem]
theorem abort34 (h : SC f N X w) (hn : Nok N f X.act w) (b : Bd f X) : Calls Tryz.prog 34 #[pz f.sb] w (Got f N X w { X with act := false } (resF X 1)) := by
 have X0 : Hid (Cx (f.In X.act) N w f X [] [(w.heap.size, RZ, 41)] (w.alloc (.cells RZ 41))) := (Cx.start h hn nb).newm _ _
 obtain ⟨W1, hW1⟩ := xj (w.alloc (.cells RZ 41))
 rw [hW1] at X0
 obtain ⟨rb, hrb⟩ := xj w.heap.size
 rw [hrb] at X0
 have hz : (resF X 1).er = 0 := by unfold resF; split <;> rfl
 have C2 : Hid (1 = 1 → Calls Tryz.prog 74 #[pz f.sb, iw 1, iw 0] W1 fun r w' => r = .returned (rsV (resF X 1)) ∧ Cx (f.In X.act) N w f X [] [(rb, RZ, 41)] w') := fun _ => (told74 1 0 X0.out.sc).mono fun e w' ⟨h1, h2⟩ => ⟨by rw [h1, show ({ resF X 1 with er := 0 } : Rs) = resF X 1 from by rw [← hz]], X0.out.on h2⟩
 have HBd : Hid (Bd f { X with act := false }) := ⟨b.sc, b.co, b.gs⟩
 clear h X0 b hz
 go_enter Tryz.func34, Tryz.ntmps34
 go_wp2_with fail
 refine (C2.out (by trivial)).mono ?_
 rintro r w3 ⟨rfl, h3⟩
 have X4 : Hid (Cx (f.In X.act) N w f X [(w3.heap.size, (rsc (resF X 1) sy).toArray, 41)] [(rb, RZ, 41)] (w3.alloc (.cells (rsc (resF X 1) sy).toArray 41))) := h3.new _ _
 obtain ⟨W4, hW4⟩ := xj (w3.alloc (.cells (rsc (resF X 1) sy).toArray 41))
 rw [hW4] at X4
 have p6 : W4.cell? ⟨f.sb, 6, none⟩ = some (vtV f.tb X.act) := block_cell X4.out.sc.blk rfl
 have g6 : W4.frozen? ⟨f.sb, 6, none⟩ = false := block_frozen X4.out.sc.blk 6
 have X5 : Hid (Cx (f.In X.act) N w f { X with act := false } [(w3.heap.size, (rsc (resF X 1) sy).toArray, 41)] [(rb, RZ, 41)] (W4.setCell ⟨f.sb, 6, none⟩ (.pointer none))) := X4.out.next (X4.out.sc.end (set_kept' W4 f.sb 6 _) (block_set (j := 6) (.pointer none) X4.out.sc.blk))
 obtain ⟨W5, hW5⟩ := xj (W4.setCell ⟨f.sb, 6, none⟩ (.pointer none))
 rw [hW5] at X5
 generalize vtV f.tb X.act = v6 at *
 clear h3 C2 X4 hW1
 unfold rsV
 go_wp2_with (first
  | (refine wpList_store_row rfl 41 _ _ rfl w3.heap.size (rsc (resF X 1) sy).toArray rfl rfl 41 _ (heap_alloc_new w3 _) (by kernel_rfl) rfl (rsc_all _ _ rfl) ?_; rewrite [World.setRow_alloc_new, hW4])
  | (refine wpList_load_row rfl 41 _ rfl w3.heap.size rfl 41 _ (0, 0) _ (X5.out.bx mc) Tryz.underlying41 rfl (by kernel_rfl) ?_)
  | (refine wpList_store_row rfl 41 _ _ rfl rb _ rfl rfl 41 _ (X5.out.bm mc) (by kernel_rfl) rfl (rsc_all _ _ rfl) ?_))
 refine bj X5.out ?_
 exact ⟨rfl, _, (X5.out.poke (setRow_kept _ _ _) (setRow_at (X5.out.bm mc)) nb).to, rfl, HBd.out⟩
theorem give12a (h : SC f N X w) (hn : Nok N f X.act w) (b : Bd f X) (ho : X.op.k = 0) : Calls Tryz.prog 12 #[pz f.sb] w (Got f N X w X (badF X 41)) := by
 have X0 : Hid (Cx (f.In X.act) N w f X [] [(w.heap.size, RZ, 41)] (w.alloc (.cells RZ 41))) := (Cx.start h hn nb).newm _ _
 obtain ⟨W1, hW1⟩ := xj (w.alloc (.cells RZ 41))
 rw [hW1] at X0
 have C2 : Hid (1 = 1 → Calls Tryz.prog 28 #[pz f.sb, iw 41] W1 fun r w' => r = .returned (rsV (badF X 41)) ∧ Cx (f.In X.act) N w f X [] [(w.heap.size, RZ, 41)] w') := fun _ => (refuse28 41 X0.out.sc).mono fun e w' ⟨h1, h2⟩ => ⟨h1, X0.out.on h2⟩
 have p7 : W1.cell? ⟨f.sb, 7, none⟩ = some .nilFunc := block_cell X0.out.sc.blk (by simp [sbA, vsV, ho])
 have HBd : Hid (Bd f X) := b
 clear h X0 b ho
 have eN := eqlN W1
 go_enter Tryz.func12, Tryz.ntmps12
 go_wp2_with fail
 refine (C2.out (by trivial)).mono ?_
 rintro r w3 ⟨rfl, h3⟩
 have X3 : Hid _ := h3
 clear h3 C2 p7 hW1
 unfold rsV
 go_wp2_with (refine wpList_store_row rfl 41 _ _ rfl w.heap.size _ rfl rfl 41 _ (X3.out.bm mc) (by kernel_rfl) rfl (rsc_all _ _ rfl) ?_)
 refine bj X3.out ?_
 exact ⟨rfl, _, (X3.out.poke (setRow_kept _ _ _) (setRow_at (X3.out.bm mc)) nb).to, rfl, HBd.out⟩
theorem give12b (u : Un f N X 9 w) (ho : X.op.k ≠ 0) : Calls Tryz.prog 12 #[pz f.sb] w (Got f N X w (stopR X 42).1 (stopR X 42).2) := by
 obtain ⟨sf, hsf, ent, hcs⟩ := stop_fn f.sb X ho
 have X0 : Hid (Cx (f.In X.act) N w f X [] [(w.heap.size, RZ, 41)] (w.alloc (.cells RZ 41))) := (Cx.start u.sc u.nk nb).newm _ _
 obtain ⟨W1, hW1⟩ := xj (w.alloc (.cells RZ 41))
 rw [hW1] at X0
 have HC := gh (hcs f _ W1 42 rfl ((u.of X0.out).le (by decide))) X0.out
 have p7 : W1.cell? ⟨f.sb, 7, none⟩ = some (.func (.func sf) #[pz f.sb] #[]) := block_cell X0.out.sc.blk (by rw [← hsf]; rfl)
 clear u X0 hcs hsf ho
 have eF := eqlF (.func sf) #[pz f.sb] #[] W1
 go_enter Tryz.func12, Tryz.ntmps12
 go_wp2_with fail
 refine (HC.out (by trivial)).mono ?_
 rintro e w2 ⟨rfl, f', x2, hsb, hbd⟩
 have X2 : Hid _ := x2
 have HF : Hid _ := And.intro hsb hbd
 clear x2 hsb hbd HC p7 hW1
 unfold rsV
 go_wp2_with (refine wpList_store_row rfl 41 _ _ rfl w.heap.size _ rfl rfl 41 _ (X2.out.bm mc) (by kernel_rfl) rfl (rsc_all _ _ rfl) ?_)
 refine bj X2.out ?_
 exact ej X2.out HF.out
theorem give_eq (ho : X.op.k ≠ 0) : giveF bt X = stopR X 42 := by
 unfold giveF stopR
 rw [if_neg ho]
 by_cases h6 : X.op.k = 6
 ·rw [if_neg (fun e => e h6), if_pos h6]
 ·rw [if_pos h6, if_neg h6]
theorem give12 (h : SC f N X w) (hn : Nok N f X.act w) (b : Bd f X) (hu : X.op.k ≠ 0 → Un f N X 9 w) : Calls Tryz.prog 12 #[pz f.sb] w (Got f N X w (giveF bt X).1 (giveF bt X).2) := by
 by_cases ho : X.op.k = 0
 ·have e : giveF bt X = (X, badF X 41) := by unfold giveF; rw [if_pos ho]
  rw [e]
  exact give12a h hn b ho
 ·rw [give_eq ho]
  exact give12b (hu ho) ho
theorem SC.begin (h : SC f N X W) (ha : X.act = false) (p l tb : Nat) (hk : Kept (fun k => k = f.sb) W W') (hb : W'.heap[f.sb]? = some (.cells (sbA { f with tb := tb, vw := sy } { X with np := p, nl := l, n := X.n + 1, act := true, sp := p, sl := l, ws := [] }) 77 (0, 0))) (ht : W'.heap[tb]? = some (.cells (txA { f with tb := tb, vw := sy } { X with np := p, nl := l, n := X.n + 1, act := true, sp := p, sl := l, ws := [] }) 79 (0, 0))) (hs : W.heap.size ≤ tb) : To f N X.act W { f with tb := tb, vw := sy } { X with np := p, nl := l, n := X.n + 1, act := true, sp := p, sl := l, ws := [] } W' := by
 have hin : ∀ i, ({ f with tb := tb, vw := sy } : Fo).In true i → f.In X.act i ∨ W.heap.size ≤ i := fun i hi => by
  rcases hi with e | e | e | ⟨-, e | e⟩ | e | e
  ·exact .inl (.inl e)
  ·exact .inl (.inr (.inl e))
  ·exact .inl (.inr (.inr (.inl e)))
  ·subst e; exact .inr hs
  ·cases e
  ·exact .inl (.inr (.inr (.inr (.inr (.inl e)))))
  ·exact .inl (.inr (.inr (.inr (.inr (.inr e)))))
 have s : Stay (fun k => k = f.sb) (f.Ex N X.act) (({ f with tb := tb, vw := sy } : Fo).Ex N true) W W' := ⟨hk, fun k e => .inr (.inl e), fun k hk e => e.elim .inl (fun e => (hin k e).elim .inr (fun e => absurd hk (by omega)))⟩
 have B : ∀ {b : Nat} {cs : Array Value} {ty : TypeId}, W.heap[b]? = some (.cells cs ty (0, 0)) → ty ≠ 77 → W'.heap[b]? = some (.cells cs ty (0, 0)) := fun {b cs ty} e h1 => by rw [hk.block b (lt_blk e) (ne_tag e h.blk h1)]; exact e
 have O : ∀ {base e size : Nat} {v : Value} {n : Nat} {cs : List Value}, W.ownsRow base e size v n cs → e ≠ 77 → W'.ownsRow base e size v n cs := fun h0 h1 => own_kept h0 hk fun k hv e => by
  subst e
  exact own_ne h0 h.blk h1 hv
 exact ⟨⟨hb, fun _ => ⟨ht, own_nil _ _ _ _⟩, O h.ra (by decide), O h.ro (by decide), h.ea, h.eo, ⟨fun a => B (h.bx.l a) (by decide), fun a => ⟨B (h.bx.p a).1 (by decide), O (h.bx.p a).2.1 (by decide), (h.bx.p a).2.2.stay s⟩, fun a => ⟨B (h.bx.c a).1 (by decide), (h.bx.c a).2⟩, h.bx.le⟩, fun n a => B (h.gb n a) (by decide), h.gd, fun x hx => (h.ak x hx).stay s ⟨rfl, rfl, rfl, rfl, fun _ h => ⟨h, rfl⟩⟩ rfl (fun _ _ => rfl), fun x hx => ⟨(h.lk x hx).1.stay s, (h.lk x hx).2⟩⟩, hk.mono (fun k e => .inl e), hin⟩
theorem begin29a (h : SC f N X w) (hn : Nok N f X.act w) (b : Bd f X) (ph : Nat) (ha : X.act = true) : Calls Tryz.prog 29 #[pz f.sb, uw ph] w (Got f N X w X (badF X 40)) := by
 have X0 : Hid (Cx (f.In X.act) N w f X [] [(w.heap.size, RZ, 41)] (w.alloc (.cells RZ 41))) := (Cx.start h hn nb).newm _ _
 obtain ⟨W1, hW1⟩ := xj (w.alloc (.cells RZ 41))
 rw [hW1] at X0
 have C2 : Hid (1 = 1 → Calls Tryz.prog 28 #[pz f.sb, iw 40] W1 fun r w' => r = .returned (rsV (badF X 40)) ∧ Cx (f.In X.act) N w f X [] [(w.heap.size, RZ, 41)] w') := fun _ => (refuse28 40 X0.out.sc).mono fun e w' ⟨h1, h2⟩ => ⟨h1, X0.out.on h2⟩
 have p6 : W1.cell? ⟨f.sb, 6, none⟩ = some (pz f.tb) := block_cell X0.out.sc.blk (by simp [sbA, vtV, ha])
 have HBd : Hid (Bd f X) := b
 clear h X0 b ha
 go_enter Tryz.func29, Tryz.ntmps29
 go_wp2_with fail
 refine (C2.out (by trivial)).mono ?_
 rintro r w3 ⟨rfl, h3⟩
 have X3 : Hid _ := h3
 clear h3 C2 p6 hW1
 unfold rsV
 go_wp2_with (refine wpList_store_row rfl 41 _ _ rfl w.heap.size _ rfl rfl 41 _ (X3.out.bm mc) (by kernel_rfl) rfl (rsc_all _ _ rfl) ?_)
 refine bj X3.out ?_
 exact ⟨rfl, _, (X3.out.poke (setRow_kept _ _ _) (setRow_at (X3.out.bm mc)) nb).to, rfl, HBd.out⟩
theorem begin29b (h : SC f N X w) (hn : Nok N f X.act w) (b : Bd f X) (ph : Nat) (ha : X.act = false) (p l : Nat) (er : Int) (ht : Clk.tickF (X.np : Int) (X.nl : Int) (ph : Int) = ((p : Int), (l : Int), er)) (he : er ≠ 0) : Calls Tryz.prog 29 #[pz f.sb, uw ph] w (Got f N X w X (badF X er)) := by
 have X0 : Hid (Cx (f.In X.act) N w f X [] [(w.heap.size, RZ, 41)] (w.alloc (.cells RZ 41))) := (Cx.start h hn nb).newm _ _
 obtain ⟨W1, hW1⟩ := xj (w.alloc (.cells RZ 41))
 rw [hW1] at X0
 have C75 : Hid (1 = 1 → Calls Tryz.prog 75 #[.agg #[uw X.np, uu X.nl], uw ph] W1 fun e w' => e = .returned (.tuple #[.agg #[uw p, uu l], iw er]) ∧ Cx (f.In X.act) N w f X [] [(w.heap.size, RZ, 41)] w') := fun _ => by
  have k := Clk.tick9 (X.np : Int) (X.nl : Int) (ph : Int) W1 (by omega) (by omega) (by omega)
  rw [ht] at k
  exact k.mono fun e w' ⟨h1, h2⟩ => ⟨h1, X0.out.on h2⟩
 have p6 : W1.cell? ⟨f.sb, 6, none⟩ = some (.pointer none) := block_cell X0.out.sc.blk (by simp [sbA, vtV, ha])
 have p2 : W1.cell? ⟨f.sb, 2, none⟩ = some (uw X.np) := block_cell X0.out.sc.blk rfl
 have p3 : W1.cell? ⟨f.sb, 3, none⟩ = some (uu X.nl) := block_cell X0.out.sc.blk rfl
 have HBd : Hid (Bd f X) := b
 have hee : (er == 0) = false := by simp [he]
 have hef : (er != 0) = true := by simp [he]
 clear h X0 b ha ht
 go_enter Tryz.func29, Tryz.ntmps29
 go_wp2_with fail
 refine (C75.out (by trivial)).mono ?_
 rintro e w2 ⟨rfl, h2⟩
 have XA : Hid (Cx (f.In X.act) N w f X [] [(w.heap.size, RZ, 41)] (w2.alloc (.cells #[uw p, uu l] 34))) := h2.on (al _)
 obtain ⟨W2, hW2⟩ := xj (w2.alloc (.cells #[uw p, uu l] 34))
 rw [hW2] at XA
 have C2 : Hid (1 = 1 → Calls Tryz.prog 28 #[pz f.sb, iw er] W2 fun r w' => r = .returned (rsV (badF X er)) ∧ Cx (f.In X.act) N w f X [] [(w.heap.size, RZ, 41)] w') := fun _ => (refuse28 er XA.out.sc).mono fun e w' ⟨h1, h2⟩ => ⟨h1, XA.out.on h2⟩
 clear h2 C75 p6 p2 p3 hW1 XA
 go_wp2_with fail
 refine (C2.out (by trivial)).mono ?_
 rintro r w3 ⟨rfl, h3⟩
 have X3 : Hid _ := h3
 clear h3 C2 hW2
 unfold rsV
 go_wp2_with (refine wpList_store_row rfl 41 _ _ rfl w.heap.size _ rfl rfl 41 _ (X3.out.bm mc) (by kernel_rfl) rfl (rsc_all _ _ rfl) ?_)
 refine bj X3.out ?_
 exact ⟨rfl, _, (X3.out.poke (setRow_kept _ _ _) (setRow_at (X3.out.bm mc)) nb).to, rfl, HBd.out⟩
theorem begin29c (h : SC f N X w) (hn : Nok N f X.act w) (b : Bd f X) (ph : Nat) (ha : X.act = false) (p l : Nat) (ht : Clk.tickF (X.np : Int) (X.nl : Int) (ph : Int) = ((p : Int), (l : Int), 0)) (hN : X.n + 1 < 4294967296) : Calls Tryz.prog 29 #[pz f.sb, uw ph] w (Got f N X w { X with np := p, nl := l, n := X.n + 1, act := true, sp := p, sl := l, ws := [] } { resF { X with np := p, nl := l, n := X.n + 1, act := true, sp := p, sl := l, ws := [] } 1 with ap := p, al := l }) := by
 have X0 : Hid (Cx (f.In X.act) N w f X [] [(w.heap.size, RZ, 41)] (w.alloc (.cells RZ 41))) := (Cx.start h hn nb).newm _ _
 obtain ⟨W1, hW1⟩ := xj (w.alloc (.cells RZ 41))
 rw [hW1] at X0
 have C75 : Hid (1 = 1 → Calls Tryz.prog 75 #[.agg #[uw X.np, uu X.nl], uw ph] W1 fun e w' => e = .returned (.tuple #[.agg #[uw p, uu l], iw 0]) ∧ Cx (f.In X.act) N w f X [] [(w.heap.size, RZ, 41)] w') := fun _ => by
  have k := Clk.tick9 (X.np : Int) (X.nl : Int) (ph : Int) W1 (by omega) (by omega) (by omega)
  rw [ht] at k
  exact k.mono fun e w' ⟨h1, h2⟩ => ⟨h1, X0.out.on h2⟩
 have p6 : W1.cell? ⟨f.sb, 6, none⟩ = some (.pointer none) := block_cell X0.out.sc.blk (by simp [sbA, vtV, ha])
 have p2 : W1.cell? ⟨f.sb, 2, none⟩ = some (uw X.np) := block_cell X0.out.sc.blk rfl
 have p3 : W1.cell? ⟨f.sb, 3, none⟩ = some (uu X.nl) := block_cell X0.out.sc.blk rfl
 have HB : Hid (Bd f X) := b
 have HA : Hid (X.act = false) := ha
 obtain ⟨n1, hn1⟩ := xj (X.n + 1)
 have hn1i : (X.n : Int) + 1 = (n1 : Int) := by omega
 have hn2 : (n1 : Int) < 4294967296 := by omega
 have HN1 : Hid (X.n + 1 = n1) := hn1
 clear h X0 b ha ht hN
 go_enter Tryz.func29, Tryz.ntmps29
 go_wp2_with fail
 refine (C75.out (by trivial)).mono ?_
 rintro e w2 ⟨rfl, h2⟩
 have XA : Hid (Cx (f.In X.act) N w f X [(w2.heap.size, #[uw p, uu l], 34)] [(w.heap.size, RZ, 41)] (w2.alloc (.cells #[uw p, uu l] 34))) := h2.new _ _
 clear h2 C75 p6 p2 p3 hW1
 obtain ⟨W2, hW2⟩ := xj (w2.alloc (.cells #[uw p, uu l] 34))
 rw [hW2] at XA
 obtain ⟨v7, hv7⟩ := xj (vsV f.sb X.op.k X.stg)
 have y0 : W2.heap[f.sb]? = some (.cells #[uu X.cl, iw (X.nsh : Int), uw X.np, uu X.nl, uu X.n, uu X.sq, .pointer none, v7, f.va, f.vo] 77 (0, 0)) := by
  have e := XA.out.sc.blk
  simp only [sbA, vtV, HA.out, hv7] at e
  exact e
 have x5 := XA.out.bx (b := w2.heap.size) (cs := #[uw p, uu l]) (ty := 34) (by simp)
 have hne : w2.heap.size ≠ f.sb := ne_tag x5 y0 (by decide)
 have q0 : W2.cell? ⟨w2.heap.size, 0, none⟩ = some (uw p) := block_cell x5 rfl
 have q1 : W2.cell? ⟨w2.heap.size, 1, none⟩ = some (uu l) := block_cell x5 rfl
 have a2 : W2.cell? ⟨f.sb, 2, none⟩ = some (uw X.np) := block_cell y0 rfl
 have b2 : W2.frozen? ⟨f.sb, 2, none⟩ = false := block_frozen y0 2
 have ya : (W2.setCell ⟨f.sb, 2, none⟩ (uw p)).heap[f.sb]? = some (.cells #[uu X.cl, iw (X.nsh : Int), uw p, uu X.nl, uu X.n, uu X.sq, .pointer none, v7, f.va, f.vo] 77 (0, 0)) := by simpa using block_set (j := 2) (uw p) y0
 have ka := set_kept' W2 f.sb 2 (uw p)
 obtain ⟨Wa, hWa⟩ := xj (W2.setCell ⟨f.sb, 2, none⟩ (uw p))
 rw [hWa] at ya ka
 have a3 : Wa.cell? ⟨f.sb, 3, none⟩ = some (uu X.nl) := block_cell ya rfl
 have b3 : Wa.frozen? ⟨f.sb, 3, none⟩ = false := block_frozen ya 3
 have yb : (Wa.setCell ⟨f.sb, 3, none⟩ (uu l)).heap[f.sb]? = some (.cells #[uu X.cl, iw (X.nsh : Int), uw p, uu l, uu X.n, uu X.sq, .pointer none, v7, f.va, f.vo] 77 (0, 0)) := by simpa using block_set (j := 3) (uu l) ya
 have kb := ka.trans (set_kept' Wa f.sb 3 (uu l)) (fun i e => .inl e)
 obtain ⟨Wb, hWb⟩ := xj (Wa.setCell ⟨f.sb, 3, none⟩ (uu l))
 rw [hWb] at yb kb
 have a4 : Wb.cell? ⟨f.sb, 4, none⟩ = some (uu X.n) := block_cell yb rfl
 have b4 : Wb.frozen? ⟨f.sb, 4, none⟩ = false := block_frozen yb 4
 have yc : (Wb.setCell ⟨f.sb, 4, none⟩ (uu n1)).heap[f.sb]? = some (.cells #[uu X.cl, iw (X.nsh : Int), uw p, uu l, uu n1, uu X.sq, .pointer none, v7, f.va, f.vo] 77 (0, 0)) := by simpa using block_set (j := 4) (uu n1) yb
 have kc := kb.trans (set_kept' Wb f.sb 4 (uu n1)) (fun i e => .inl e)
 obtain ⟨Wc, hWc⟩ := xj (Wb.setCell ⟨f.sb, 4, none⟩ (uu n1))
 rw [hWc] at yc kc
 have x5c : Wc.heap[w2.heap.size]? = some (.cells #[uw p, uu l] 34 (0, 0)) := by rw [kc.block _ (lt_blk x5) hne]; exact x5
 clear hn1
 go_upto_region 8 with fail
 have hlc : f.sb < Wc.heap.size := lt_blk yc
 have hlx : w2.heap.size < Wc.heap.size := lt_blk x5c
 have SD : Hid (∀ W : World, W.heap[f.sb]? = some (.cells #[uu X.cl, iw (X.nsh : Int), uw p, uu l, uu n1, uu X.sq, .pointer none, v7, f.va, f.vo] 77 (0, 0)) → W.heap[w2.heap.size]? = some (.cells #[uw p, uu l] 34 (0, 0)) → W.cell? ⟨f.sb, 0, none⟩ = some (uu X.cl) ∧ W.cell? ⟨f.sb, 4, none⟩ = some (uu n1) ∧ W.cell? ⟨w2.heap.size, 0, none⟩ = some (uw p) ∧ W.cell? ⟨w2.heap.size, 1, none⟩ = some (uu l)) := fun W e1 e2 => ⟨block_cell e1 rfl, block_cell e1 rfl, block_cell e2 rfl, block_cell e2 rfl⟩
 have ycd : Wc.drew.heap[f.sb]? = some (.cells #[uu X.cl, iw (X.nsh : Int), uw p, uu l, uu n1, uu X.sq, .pointer none, v7, f.va, f.vo] 77 (0, 0)) := yc
 have ycx : Wc.drew.heap[w2.heap.size]? = some (.cells #[uw p, uu l] 34 (0, 0)) := x5c
 have SX := SD.out _ ycd ycx
 have kd : Kept (fun k => k = f.sb) W2 ((Wc.alloc (.cells #[uu X.cl, uu n1, uw p, uu l, sy] 79)).drew) := kc.trans (Kept.of_below (F := fun k => k = f.sb) (al (W := Wc) (.cells #[uu X.cl, uu n1, uw p, uu l, sy] 79)).drew) (fun i e => .inl e)
 have zd : ((Wc.alloc (.cells #[uu X.cl, uu n1, uw p, uu l, sy] 79)).drew).heap[f.sb]? = some (.cells #[uu X.cl, iw (X.nsh : Int), uw p, uu l, uu n1, uu X.sq, .pointer none, v7, f.va, f.vo] 77 (0, 0)) := by
  show (Wc.alloc (.cells #[uu X.cl, uu n1, uw p, uu l, sy] 79)).heap[f.sb]? = _
  rw [(al (W := Wc) (.cells #[uu X.cl, uu n1, uw p, uu l, sy] 79)).block _ hlc]; exact yc
 have zx : ((Wc.alloc (.cells #[uu X.cl, uu n1, uw p, uu l, sy] 79)).drew).heap[w2.heap.size]? = some (.cells #[uw p, uu l] 34 (0, 0)) := by
  show (Wc.alloc (.cells #[uu X.cl, uu n1, uw p, uu l, sy] 79)).heap[w2.heap.size]? = _
  rw [(al (W := Wc) (.cells #[uu X.cl, uu n1, uw p, uu l, sy] 79)).block _ hlx]; exact x5c
 have zt : ((Wc.alloc (.cells #[uu X.cl, uu n1, uw p, uu l, sy] 79)).drew).heap[Wc.heap.size]? = some (.cells #[uu X.cl, uu n1, uw p, uu l, sy] 79 (0, 0)) := heap_alloc_new Wc _
 refine wp_region_held_drew (S := (fun W => W.cell? ⟨f.sb, 0, none⟩ = some (uu X.cl) ∧ W.cell? ⟨f.sb, 4, none⟩ = some (uu n1) ∧ W.cell? ⟨w2.heap.size, 0, none⟩ = some (uw p) ∧ W.cell? ⟨w2.heap.size, 1, none⟩ = some (uu l))) (by kernel_rfl) SX (fun hHeld => ?_)
 refine tq 0 ?_
 refine tq 1 ?_
 refine tq 2 ?_
 refine tq 3 ?_
 refine tw 4 ?_
 refine tq 5 ?_
 refine tq 6 ?_
 refine tq 7 ?_
 refine tw 8 ?_
 refine tq 9 ?_
 refine tw 10 ?_
 refine tq 11 ?_
 refine rd 12 (fun K hK => ?_)
 go_simp
 refine kj hK (SD.out _ zd zx) (fun hHeld => ?_)
 clear hK K
 have sz : Wc.drew.heap.size = Wc.heap.size := rfl
 try rw [sz]
 obtain ⟨Wd, hWd⟩ := xj (Wc.alloc (.cells #[uu X.cl, uu n1, uw p, uu l, sy] 79)).drew
 rw [hWd] at zd zx zt kd
 rw [hWd] at hHeld ⊢
 have a6 : Wd.cell? ⟨f.sb, 6, none⟩ = some (.pointer none) := block_cell zd rfl
 have b6 : Wd.frozen? ⟨f.sb, 6, none⟩ = false := block_frozen zd 6
 have ye : (Wd.setCell ⟨f.sb, 6, none⟩ (pz Wc.heap.size)).heap[f.sb]? = some (.cells #[uu X.cl, iw (X.nsh : Int), uw p, uu l, uu n1, uu X.sq, pz Wc.heap.size, v7, f.va, f.vo] 77 (0, 0)) := by simpa using block_set (j := 6) (pz Wc.heap.size) zd
 have ke := kd.trans (set_kept' Wd f.sb 6 (pz Wc.heap.size)) (fun i e => .inl e)
 have yt : (Wd.setCell ⟨f.sb, 6, none⟩ (pz Wc.heap.size)).heap[Wc.heap.size]? = some (.cells #[uu X.cl, uu n1, uw p, uu l, sy] 79 (0, 0)) := by rw [(set_kept' Wd f.sb 6 (pz Wc.heap.size)).block _ (lt_blk zt) (by omega)]; exact zt
 have yx : (Wd.setCell ⟨f.sb, 6, none⟩ (pz Wc.heap.size)).heap[w2.heap.size]? = some (.cells #[uw p, uu l] 34 (0, 0)) := by rw [(set_kept' Wd f.sb 6 (pz Wc.heap.size)).block _ (lt_blk zx) hne]; exact zx
 have hn1' : X.n + 1 = n1 := HN1.out
 have X5 : Hid (Cx (f.In X.act) N w { f with tb := Wc.heap.size, vw := sy } { X with np := p, nl := l, n := X.n + 1, act := true, sp := p, sl := l, ws := [] } [(w2.heap.size, #[uw p, uu l], 34)] [(w.heap.size, RZ, 41)] (Wd.setCell ⟨f.sb, 6, none⟩ (pz Wc.heap.size))) := XA.out.next (XA.out.sc.begin HA.out p l Wc.heap.size ke (by rw [ye, ← hn1', ← hv7]; rfl) (by rw [yt, ← hn1']; rfl) kc.size)
 refine tq 13 ?_
 refine tq 14 ?_
 refine rd 15 (fun K hK => ?_)
 go_simp
 refine kj hK ⟨block_cell ye rfl, block_cell ye rfl, block_cell yx rfl, block_cell yx rfl⟩ (fun hHeld => ?_)
 clear hK K
 refine wpAnyH_done (by kernel_rfl) ?_ _
 have HBd : Hid (Bd { f with tb := Wc.heap.size, vw := sy } { X with np := p, nl := l, n := X.n + 1, act := true, sp := p, sl := l, ws := [] }) := ⟨HB.out.sc, HB.out.co, HB.out.gs⟩
 obtain ⟨We, hWe⟩ := xj (Wd.setCell ⟨f.sb, 6, none⟩ (pz Wc.heap.size))
 rw [hWe] at X5 yx
 rw [hWe]
 have z0 : We.cell? ⟨w2.heap.size, 0, none⟩ = some (uw p) := block_cell yx rfl
 have z1 : We.cell? ⟨w2.heap.size, 1, none⟩ = some (uu l) := block_cell yx rfl
 have C76 : Hid (1 = 1 → Calls Tryz.prog 76 #[pz f.sb, iw 1, .agg #[uw p, uu l]] We fun e w' => e = .returned (rsV { resF { X with np := p, nl := l, n := X.n + 1, act := true, sp := p, sl := l, ws := [] } 1 with ap := p, al := l }) ∧ Cx (f.In X.act) N w { f with tb := Wc.heap.size, vw := sy } { X with np := p, nl := l, n := X.n + 1, act := true, sp := p, sl := l, ws := [] } [] [(w.heap.size, RZ, 41)] w') := fun _ => (toldAt76 1 p l X5.out.sc).mono fun e w' ⟨h1, h2⟩ => ⟨h1, (X5.out.less (Lo' := []) nb).on h2⟩
 clear hHeld SD SX XA y0 x5 q0 q1 a2 b2 ya ka hWa a3 b3 yb kb hWb a4 b4 yc kc hWc x5c hlc hlx ycd ycx kd zd zx zt hWd a6 b6 ke yt yx X5 hWe sz
 generalize ({ resF { X with np := p, nl := l, n := X.n + 1, act := true, sp := p, sl := l, ws := [] } 1 with ap := p, al := l } : Rs) = R9 at *
 generalize ({ X with np := p, nl := l, n := X.n + 1, act := true, sp := p, sl := l, ws := [] } : Ss) = X9 at *
 have HSB : Hid (({ f with tb := Wc.heap.size, vw := sy } : Fo).sb = f.sb) := rfl
 generalize ({ f with tb := Wc.heap.size, vw := sy } : Fo) = f9 at *
 go_wp2_with fail
 refine (C76.out (by trivial)).mono ?_
 rintro r w3 ⟨rfl, h3⟩
 have X3 : Hid _ := h3
 clear h3 C76 z0 z1
 unfold rsV
 go_wp2_with (refine wpList_store_row rfl 41 _ _ rfl w.heap.size _ rfl rfl 41 _ (X3.out.bm mc) (by kernel_rfl) rfl (rsc_all _ _ rfl) ?_)
 refine bj X3.out ?_
 exact ⟨rfl, _, (X3.out.poke (setRow_kept _ _ _) (setRow_at (X3.out.bm mc)) nb).to, HSB.out, HBd.out⟩
theorem clone35 (L : List Wr) (v : Value) (w : World) (hl : L.length ≤ 1000) (h : RwAt w.heap.size 3 v L.length (rowC wrc L) w) : Calls Tryz.prog 35 #[v] w fun r w' => ∃ v', r = .returned v' ∧ w'.ownsRow w.heap.size 70 3 v' L.length (rowC wrc L) ∧ Below w.heap.size w w' := by
 obtain ⟨i0, hin, hi0, hi1, hi2⟩ := info_parts Pla.info70
 have hs := h
 obtain ⟨ao, cap, rfl, h1, h2, h3, h4⟩ := hs
 have q : ∀ (w : World) (n c n' c' : Nat), (binOp .eql 50 (.slice ao n c) (.slice none n' c')).run Tryz.prog w = .ok (.bool ao.isNone) w := fun w n c n' c' => Lib.run_eql_slice_nil w _ _ ao n c n' c' Tryz.underlying50
 cases ao with
 | none =>
  have h0 : cap = 0 := by
   rcases Nat.eq_zero_or_pos cap with h0 | h0
   ·exact h0
   ·obtain ⟨b, o, e, _⟩ := h4 h0
    cases e
  have hn : L = [] := List.eq_nil_of_length_eq_zero (by omega)
  subst hn
  go_enter Tryz.func35, Tryz.ntmps35
  go_wp2_with fail
  go_ret
  exact ⟨_, rfl, World.ownsRow_nil _ _ _ _, Below.refl _ _⟩
 | some ad =>
  have hmade := World.ownsRow_made (e := 70) w #[] 0 (size := 3) (Nat.le_refl w.heap.size) (Nat.zero_le _) rfl
  have HOw : Hid (Ow w.heap.size 70 3 (.slice (some ⟨w.heap.size, 0, none⟩) 0 0) 0 [] w.heap.size (.slice (some ad) L.length cap) L.length (rowC wrc L) (w.alloc (.cells #[] 70))) := ⟨hmade, h.on (al _), rowC_cells wrc wrc_one _, by simp, by omega⟩
  clear h h1 h2 h3 h4 hmade
  go_enter Tryz.func35, Tryz.ntmps35
  go_wp2_with (at_builtin; refine wpList_append_rw HOw.out Tryz.underlying50 hin hi0 hi1 hi2 rfl (by decide) (by decide) (.tmp 5) (.tmp 6) rfl rfl rfl rfl ?_)
  intro v' w1 hown hg hat
  go_wp2_with fail
  go_ret
  exact ⟨v', rfl, by simpa using hown, ((Below.refl _ w).alloc (Nat.le_refl _) _).grown hg (by simp) (by intro k hk; simp [Value.ownBlock] at hk; omega)⟩
theorem clone36 (L : List Tn) (v : Value) (w : World) (hl : L.length ≤ 1000) (h : RwAt w.heap.size 2 v L.length (rowC tnc L) w) : Calls Tryz.prog 36 #[v] w fun r w' => ∃ v', r = .returned v' ∧ w'.ownsRow w.heap.size 38 2 v' L.length (rowC tnc L) ∧ Below w.heap.size w w' := by
 obtain ⟨i0, hin, hi0, hi1, hi2⟩ := info_parts info38
 have hs := h
 obtain ⟨ao, cap, rfl, h1, h2, h3, h4⟩ := hs
 have q : ∀ (w : World) (n c n' c' : Nat), (binOp .eql 51 (.slice ao n c) (.slice none n' c')).run Tryz.prog w = .ok (.bool ao.isNone) w := fun w n c n' c' => Lib.run_eql_slice_nil w _ _ ao n c n' c' Tryz.underlying51
 cases ao with
 | none =>
  have h0 : cap = 0 := by
   rcases Nat.eq_zero_or_pos cap with h0 | h0
   ·exact h0
   ·obtain ⟨b, o, e, _⟩ := h4 h0
    cases e
  have hn : L = [] := List.eq_nil_of_length_eq_zero (by omega)
  subst hn
  go_enter Tryz.func36, Tryz.ntmps36
  go_wp2_with fail
  go_ret
  exact ⟨_, rfl, World.ownsRow_nil _ _ _ _, Below.refl _ _⟩
 | some ad =>
  have hmade := World.ownsRow_made (e := 38) w #[] 0 (size := 2) (Nat.le_refl w.heap.size) (Nat.zero_le _) rfl
  have HOw : Hid (Ow w.heap.size 38 2 (.slice (some ⟨w.heap.size, 0, none⟩) 0 0) 0 [] w.heap.size (.slice (some ad) L.length cap) L.length (rowC tnc L) (w.alloc (.cells #[] 38))) := ⟨hmade, h.on (al _), rowC_cells tnc tnc_one _, by simp, by omega⟩
  clear h h1 h2 h3 h4 hmade
  go_enter Tryz.func36, Tryz.ntmps36
  go_wp2_with (at_builtin; refine wpList_append_rw HOw.out Tryz.underlying51 hin hi0 hi1 hi2 rfl (by decide) (by decide) (.tmp 5) (.tmp 6) rfl rfl rfl rfl ?_)
  intro v' w1 hown hg hat
  go_wp2_with fail
  go_ret
  exact ⟨v', rfl, by simpa using hown, ((Below.refl _ w).alloc (Nat.le_refl _) _).grown hg (by simp) (by intro k hk; simp [Value.ownBlock] at hk; omega)⟩
def Inc (s : Ss) : Prop := (s.asks.Pairwise fun a b => a.sq < b.sq) ∧ ∀ a ∈ s.asks, a.sq ≤ s.sq
def Nw (s S : Ss) : Prop := s.sq ≤ S.sq ∧ ∀ a ∈ S.asks, a ∈ s.asks ∨ s.sq < a.sq
def Iw (s S : Ss) : Prop := (Inc s → Inc S) ∧ Nw s S
theorem Iw.refl (s : Ss) : Iw s s := ⟨id, Nat.le_refl _, fun _ h => .inl h⟩
theorem Iw.same {s S : Ss} (h1 : S.asks = s.asks) (h2 : S.sq = s.sq) : Iw s S := by
 refine ⟨?_, by rw [h2]; exact Nat.le_refl _, fun a h => .inl (by rw [← h1]; exact h)⟩
 unfold Inc
 rw [h1, h2]
 exact id
theorem Iw.trans {a b c : Ss} (h : Iw a b) (g : Iw b c) : Iw a c := by
 refine ⟨fun x => g.1 (h.1 x), Nat.le_trans h.2.1 g.2.1, fun x hx => ?_⟩
 rcases g.2.2 x hx with h1 | h1
 ·exact h.2.2 x h1
 ·exact .inr (Nat.lt_of_le_of_lt h.2.1 h1)
theorem Iw.to {s S T : Ss} (h : Iw s S) (h1 : T.asks = S.asks) (h2 : T.sq = S.sq) : Iw s T := h.trans (Iw.same h1 h2)
theorem Iw.from {s S T : Ss} (h : Iw s S) (h1 : s.asks = T.asks) (h2 : s.sq = T.sq) : Iw T S := (Iw.same h1 h2).trans h
theorem ask_iw (s : Ss) (a : Ak) : Iw s (askF s a) := by
 refine ⟨fun h => ⟨?_, ?_⟩, Nat.le_succ _, fun x hx => ?_⟩
 ·show (s.asks ++ [{ a with sq := s.sq + 1 }]).Pairwise _
  rw [List.pairwise_append]
  refine ⟨h.1, List.pairwise_singleton _ _, fun x hx y hy => ?_⟩
  rw [List.mem_singleton] at hy
  subst hy
  exact Nat.lt_succ_of_le (h.2 x hx)
 ·intro x hx
  have hx' : x ∈ s.asks ++ [{ a with sq := s.sq + 1 }] := hx
  rw [List.mem_append, List.mem_singleton] at hx'
  rcases hx' with h1 | rfl
  ·exact Nat.le_succ_of_le (h.2 x h1)
  ·exact Nat.le_refl _
 ·have hx' : x ∈ s.asks ++ [{ a with sq := s.sq + 1 }] := hx
  rw [List.mem_append, List.mem_singleton] at hx'
  rcases hx' with h1 | rfl
  ·exact .inl h1
  ·exact .inr (Nat.lt_succ_self _)
theorem filter_iw (s : Ss) (p : Ak → Bool) : Iw s { s with asks := s.asks.filter p } := by
 refine ⟨fun h => ⟨h.1.filter _, fun a ha => h.2 a (List.mem_filter.1 ha).1⟩, Nat.le_refl _, fun a ha => .inl (List.mem_filter.1 ha).1⟩
theorem drop_iw (s : Ss) : Iw s (dropF s) := (filter_iw s Ak.ch).to rfl rfl
theorem scan_iw (s0 : Ss) (o : Op) : ∀ m i s, Iw s (scanAsks s0 o m i s)
 | 0, _, s => Iw.refl s
 | m + 1, i, s => (ask_iw s _).trans (scan_iw s0 o m (i + 1) _)
theorem lay_iw : ∀ l i s, Iw s (layAsks l i s)
 | [], _, s => Iw.refl s
 | p :: l, i, s => by
  unfold layAsks
  refine Iw.trans ?_ (lay_iw l (i + 1) _)
  split
  ·exact Iw.refl s
  ·exact (ask_iw s _).to rfl rfl
theorem chores_iw (q : Rq) (but : Option Nat) (h : Nat) : ∀ l i s, Iw s (choresF q but h l i s).1
 | [], _, s => Iw.refl s
 | p :: l, i, s => by
  unfold choresF
  split
  ·exact (ask_iw s _).trans (chores_iw q but h l (i + 1) _)
  ·exact chores_iw q but h l (i + 1) s
theorem fail_iw (s : Ss) (e : Int) : Iw s (failF s e).1 := drop_iw s
theorem given_iw (B : Bt) (s : Ss) (e : Int) : Iw s (givenF B s e).1 := ((drop_iw s).trans (chores_iw _ _ _ _ _ _)).to rfl rfl
theorem done_iw (s : Ss) (c n h : Nat) : Iw s (doneF s c n h) := ask_iw s _
theorem comm_aux (s : Ss) (c n h : Nat) (r : Ss × Nat) (hr : Iw s r.1) : Iw s (if r.2 = 0 then doneF r.1 c n h else r.1) := by
 split
 ·exact hr.trans (done_iw _ _ _ _)
 ·exact hr
theorem comm_iw (B : Bt) (s : Ss) (ap al : Nat) : Iw s (commF B s ap al).1 :=
 (comm_aux s s.cl s.n (homeF B s (priF s)) _ (((drop_iw s).to (T := { dropF s with np := (maxT (s.np, s.nl) (ap, al)).1, nl := (maxT (s.np, s.nl) (ap, al)).2 }) rfl rfl).trans (chores_iw { zQ with k := 5, c := s.cl, n := s.n, ap := ap, al := al } (some (homeF B s (priF s))) (homeF B s (priF s)) (B.parts s.ws s.nsh) 0 _))).to rfl rfl
theorem stop_iw (B : Bt) (s : Ss) (e : Int) : Iw s (stopF B s e).1 := by
 unfold stopF
 split
 ·exact given_iw B s e
 ·exact fail_iw s e
theorem lock_iw (B : Bt) (s : Ss) (a : Ak) (r : Rp) : Iw s (lockF B s a r).1 := by
 unfold lockF
 split
 ·exact stop_iw B s 1
 ·exact ask_iw s _
theorem push_iw (B : Bt) (s : Ss) (a : Ak) (r : Rp) : Iw s (pushF B s a r).1 := by
 unfold pushF
 split
 ·exact ask_iw s _
 split
 ·exact ask_iw s _
 split
 ·split
  ·exact given_iw B s 40
  split
  ·exact fail_iw s 3
  ·exact ask_iw s _
 ·exact stop_iw B s _
theorem ans_iw (B : Bt) (s : Ss) (a : Ak) (r : Rp) : Iw s (ansF B s a r).1 := by
 unfold ansF
 split
 ·exact lock_iw B s a r
 split
 ·exact drop_iw s
 split
 ·dsimp only
  split
  ·exact Iw.same rfl rfl
  ·exact (Iw.same (S := { s with ps := s.ps ++ r.ps, left := s.left - 1 }) rfl rfl).trans (drop_iw _)
 split
 ·dsimp only
  split
  ·exact (ask_iw _ _).from rfl rfl
  ·exact Iw.same rfl rfl
 split
 ·exact given_iw B s 40
 split
 ·exact given_iw B s 12
 ·exact stop_iw B s _
theorem dec_iw (B : Bt) (s : Ss) (r : Rp) : Iw s (decF B s r).1 := by
 unfold decF
 split
 ·exact comm_iw B s _ _
 split
 ·exact given_iw B s 12
 split
 ·exact given_iw B s _
 split
 ·exact (ask_iw _ _).from rfl rfl
 ·split
  ·exact (ask_iw _ _).from rfl rfl
  ·exact ask_iw _ _
theorem chore_iw (s : Ss) (a : Ak) (r : Rp) (h : r.k ≠ 0) : Iw s (choreF s a r) := by
 unfold choreF
 rw [if_neg h]
 split
 ·exact Iw.refl s
 split
 ·exact Iw.refl s
 ·exact done_iw s _ _ _
def restF (s : Ss) (l : Le) : Ss := { s with asks := s.asks.filter (fun x => !isA l x), np := (maxT (s.np, s.nl) (l.r.np, l.r.nl)).1, nl := (maxT (s.np, s.nl) (l.r.np, l.r.nl)).2 }
theorem rest_iw (s : Ss) (l : Le) : Iw s (restF s l) := (filter_iw s _).to rfl rfl
theorem hear_none (B : Bt) (s : Ss) (l : Le) (h : l.an = false ∨ l.cl ≠ s.cl ∨ pickA l s.asks = none) : hearF B s l = (s, zS) := by
 unfold hearF
 split
 ·rfl
 ·rename_i h1
  rcases h with h | h | h
  ·exact absurd (.inl h) h1
  ·exact absurd (.inr h) h1
  ·rw [h]
theorem hear_some (B : Bt) (s : Ss) (l : Le) (a : Ak) (hr : l.r.k ≠ 0) (h1 : l.an = true) (h2 : l.cl = s.cl) (h3 : pickA l s.asks = some a) : Iw (restF s l) (hearF B s l).1 := by
 unfold hearF
 rw [if_neg (by simp [h1, h2]), h3]
 dsimp only
 split
 ·exact chore_iw _ _ _ hr
 split
 ·exact push_iw B _ _ _
 split
 ·exact ask_iw _ _
 split
 ·exact ans_iw B _ _ _
 ·exact dec_iw B _ _
theorem hear_iw (B : Bt) (s : Ss) (l : Le) (hr : l.r.k ≠ 0) : Iw s (hearF B s l).1 := by
 by_cases h1 : l.an = true
 ·by_cases h2 : l.cl = s.cl
  ·cases h3 : pickA l s.asks with
   | none => rw [hear_none B s l (.inr (.inr h3))]; exact Iw.refl s
   | some a => exact (rest_iw s l).trans (hear_some B s l a hr h1 h2 h3)
  ·rw [hear_none B s l (.inr (.inl h2))]; exact Iw.refl s
 ·rw [hear_none B s l (.inl (by simpa using h1))]; exact Iw.refl s
theorem insA_mem (a : Ak) : ∀ (l : List Ak) (x : Ak), x ∈ insA a l ↔ x = a ∨ x ∈ l
 | [], x => by simp [insA]
 | y :: l, x => by
  unfold insA
  split
  ·rw [List.mem_cons, insA_mem a l x, List.mem_cons]
   constructor
   ·rintro (h | h | h)
    ·exact .inr (.inl h)
    ·exact .inl h
    ·exact .inr (.inr h)
   ·rintro (h | h | h)
    ·exact .inr (.inl h)
    ·exact .inl h
    ·exact .inr (.inr h)
  ·rw [List.mem_cons]
theorem insA_inc (a : Ak) : ∀ (l : List Ak), (l.Pairwise fun a b => a.sq < b.sq) → (∀ x ∈ l, x.sq ≠ a.sq) → (insA a l).Pairwise fun a b => a.sq < b.sq
 | [], _, _ => List.pairwise_singleton _ _
 | y :: l, h, hn => by
  rw [List.pairwise_cons] at h
  have hy := hn y (List.mem_cons_self)
  unfold insA
  split
  ·rename_i hlt
   rw [List.pairwise_cons]
   refine ⟨fun x hx => ?_, insA_inc a l h.2 fun x hx => hn x (List.mem_cons_of_mem _ hx)⟩
   rw [insA_mem] at hx
   rcases hx with rfl | hx
   ·exact hlt
   ·exact h.1 x hx
  ·rename_i hlt
   rw [List.pairwise_cons, List.pairwise_cons]
   refine ⟨fun x hx => ?_, h⟩
   rw [List.mem_cons] at hx
   rcases hx with rfl | hx
   ·omega
   ·have := h.1 x hx; omega
theorem one_sq {L : List Ak} (hp : L.Pairwise fun a b => a.sq < b.sq) {x a : Ak} (hx : x ∈ L) (ha : a ∈ L) (e : x.sq = a.sq) : x = a := by
 induction L with
 | nil => cases hx
 | cons y L ih =>
  rw [List.pairwise_cons] at hp
  rw [List.mem_cons] at hx ha
  rcases hx with rfl | hx
  ·rcases ha with rfl | ha
   ·rfl
   ·have := hp.1 a ha; omega
  ·rcases ha with rfl | ha
   ·have := hp.1 x hx; omega
   ·exact ih hp.2 hx ha
theorem inc_ne {s : Ss} (h : Inc s) (l : Le) (a : Ak) (ha : pickA l s.asks = some a) : ∀ x ∈ (restF s l).asks, x.sq ≠ a.sq := by
 intro x hx e
 obtain ⟨h1, h2⟩ := List.mem_filter.1 hx
 have hm : a ∈ s.asks := List.mem_of_find?_eq_some ha
 have hh : isA l a = true := List.find?_some ha
 have : x = a := one_sq h.1 h1 hm e
 subst this
 simp [hh] at h2
theorem hear_inc (B : Bt) (s : Ss) (l : Le) (hI : Inc s) : Inc (hearF B s l).1 := by
 by_cases hr : l.r.k = 0
 ·by_cases h1 : l.an = true
  ·by_cases h2 : l.cl = s.cl
   ·cases h3 : pickA l s.asks with
    | none => rw [hear_none B s l (.inr (.inr h3))]; exact hI
    | some a =>
     have hR := (rest_iw s l).1 hI
     have hne := inc_ne hI l a h3
     unfold hearF
     rw [if_neg (by simp [h1, h2]), h3]
     dsimp only
     split
     ·unfold choreF
      rw [if_pos hr]
      refine ⟨insA_inc _ _ hR.1 hne, fun x hx => ?_⟩
      have hx' : x ∈ insA { a with rs := true } (restF s l).asks := hx
      rw [insA_mem] at hx'
      rcases hx' with rfl | hx'
      ·exact hI.2 a (List.mem_of_find?_eq_some h3)
      ·exact hR.2 x hx'
     split
     ·exact (push_iw B _ _ _).1 hR
     split
     ·exact (stop_iw B _ _).1 hR
     split
     ·exact (ans_iw B _ _ _).1 hR
     ·exact (dec_iw B _ _).1 hR
   ·rw [hear_none B s l (.inr (.inl h2))]; exact hI
  ·rw [hear_none B s l (.inl (by simpa using h1))]; exact hI
 ·exact (hear_iw B s l hr).1 hI
theorem do_iw (B : Bt) (s : Ss) (phys : Nat) (o : Op) : Iw s (doF B s phys o).1 := by
 have hput : ∀ w, Iw s (putF B s w).1 := fun w => by
  unfold putF
  split
  ·exact Iw.refl s
  split
  ·exact Iw.same rfl rfl
  split
  ·exact Iw.refl s
  ·exact Iw.same rfl rfl
 unfold doF
 split
 ·exact Iw.refl s
 split
 ·split
  ·exact Iw.refl s
  split
  ·exact Iw.refl s
  ·exact Iw.same rfl rfl
 split
 ·exact Iw.refl s
 split
 ·exact hput _
 split
 ·exact hput _
 split
 ·split
  ·exact Iw.refl s
  split
  ·exact Iw.refl s
  ·exact (ask_iw _ _).from rfl rfl
 split
 ·split
  ·exact Iw.refl s
  ·exact (scan_iw s o _ _ _).from rfl rfl
 split
 ·unfold commitF
  split
  ·exact Iw.same rfl rfl
  ·exact (lay_iw _ _ _).from rfl rfl
 split
 ·exact Iw.same rfl rfl
 ·exact Iw.refl s
theorem give_iw (B : Bt) (s : Ss) : Iw s (giveF B s).1 := by
 unfold giveF
 split
 ·exact Iw.refl s
 split
 ·exact fail_iw s 42
 split
 ·exact given_iw B s 42
 ·exact (drop_iw s).to rfl rfl
theorem new_inc (c n : Nat) : Inc (Ss.new c n) := ⟨.nil, fun _ h => by cases h⟩
end Go.Proofs.YtkdkgdollmmcnaaGreat
