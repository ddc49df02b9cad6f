import Derived.Test.YtkdkgdollmmcnaaGreatWai
set_option maxHeartbeats 4000000
set_option maxRecDepth 100000
set_option linter.unusedVariables false
set_option linter.unusedSimpArgs false
namespace Go.Proofs.YtkdkgdollmmcnaaGreat
open Go.RowKit Go.Sort
variable {M M' G N : Nat → Prop} {W W' w : World} {f f' : Fo} {X X' : Ss}
def rsc (r : Rs) (vp : Value) : List Value := [iw r.k, iw r.er, uu r.c, uu r.n, uw r.sp, uu r.sl, uw r.ap, uu r.al, .bool r.fd, sd r.val, vp]
theorem rsc_all (r : Rs) (vp : Value) (h : vp.oneCell' = true) : (rsc r vp).toArray.all (·.oneCell') = true := by
 have i1 : ∀ k n, (Value.int k n).oneCell' = true := fun _ _ => rfl
 have i2 : ∀ b, (Value.bool b).oneCell' = true := fun _ => rfl
 have i3 : ∀ b, (Value.string b).oneCell' = true := fun _ => rfl
 simp [rsc, i1, i2, i3, h]
def rsV (r : Rs) : Value := .agg (rsc r sy).toArray
theorem info41 : (Tryz.prog.info? 41).map (·.size) = some 11 := by kernel_rfl
theorem res11 {fn : Func} {p : Tmp} (hf : fn.results = #[.cell p 41]) {tmps : Array Value} {b : Nat} (hp : tmps.getD p undef = .pointer (some ⟨b, 0, none⟩)) {vs : Array Value} (hs : vs.size = 11) (h : W.heap[b]? = some (.cells vs 41 (0, 0))) : (results fn tmps).run Tryz.prog W = .ok (.agg vs) W :=
 results_cell_row hf tmps W b 41 vs (0, 0) _ hp h Tryz.underlying41 rfl (by rw [hs]; exact info41)
theorem setRow_kept (W : World) (b : Nat) (cs : Array Value) : Kept (fun k => k = b) W (W.setRow b cs) := by
 refine ⟨rfl, rfl, rfl, by simp [World.setRow], fun k hk hn => ?_⟩
 simp only [World.setRow]
 rw [Array.getElem?_modify, if_neg (fun e => hn e.symm)]
theorem setRow_at {b : Nat} {cs cs' : Array Value} {ty : TypeId} (h : W.heap[b]? = some (.cells cs ty (0, 0))) : (W.setRow b cs').heap[b]? = some (.cells cs' ty (0, 0)) := by
 simp only [World.setRow]
 rw [Array.getElem?_modify, if_pos rfl, h]
 rfl
theorem below_row {b : Nat} (h : Below w.heap.size w W) (hb : w.heap.size ≤ b) (cs : Array Value) : Below w.heap.size w (W.setRow b cs) := by
 have k := setRow_kept W b cs
 exact h.trans (k.below h.size (fun i e => by omega))
theorem two_new1 (w : World) (a b : Obj) : ((w.alloc a).alloc b).heap[w.heap.size]? = some a := by
 rw [(al (W := w.alloc a) b).block _ (by rw [size_al]; omega)]
 exact heap_alloc_new w a
theorem told74f (k e : Int) (h : SC f N X w) (ha : X.act = false) : Calls Tryz.prog 74 #[pz f.sb, iw k, iw e] w fun r w' => r = .returned (rsV { resF X k with er := e }) ∧ Below w.heap.size w w' := by
 have p6 : w.cell? ⟨f.sb, 6, none⟩ = some (.pointer none) := block_cell (h.blk) (by simp [sbA, vtV, ha])
 have hl : f.sb < w.heap.size := lt_blk h.blk
 have hr : Hid (resF X k = { zS with k := k }) := by show _ = _; unfold resF; rw [ha]; rfl
 clear h ha
 go_enter Tryz.func74, Tryz.ntmps74
 go_wp2_with fail
 refine bodyPost_ret (res11 rfl rfl rfl (two_new1 _ _ _)) rfl ?_
 exact ⟨by rw [hr.out]; rfl, (al _).trans ((al _).mono (al _).size)⟩
theorem told74t (k e : Int) (h : SC f N X w) (ha : X.act = true) : Calls Tryz.prog 74 #[pz f.sb, iw k, iw e] w fun r w' => r = .returned (rsV { resF X k with er := e }) ∧ Below w.heap.size w w' := by
 have p6 : w.cell? ⟨f.sb, 6, none⟩ = some (pz f.tb) := block_cell (h.blk) (by simp [sbA, vtV, ha])
 have t0 : w.cell? ⟨f.tb, 0, none⟩ = some (uu X.cl) := block_cell (h.tx ha).1 rfl
 have t1 : w.cell? ⟨f.tb, 1, none⟩ = some (uu X.n) := block_cell (h.tx ha).1 rfl
 have t2 : w.cell? ⟨f.tb, 2, none⟩ = some (uw X.sp) := block_cell (h.tx ha).1 rfl
 have t3 : w.cell? ⟨f.tb, 3, none⟩ = some (uu X.sl) := block_cell (h.tx ha).1 rfl
 have hl : f.sb < w.heap.size := lt_blk h.blk
 have hlt : f.tb < w.heap.size := lt_blk (h.tx ha).1
 have hr : Hid (resF X k = { zS with k := k, c := X.cl, n := X.n, sp := X.sp, sl := X.sl }) := by show _ = _; unfold resF; rw [ha]; rfl
 clear h ha
 go_enter Tryz.func74, Tryz.ntmps74
 go_upto_region 3 with fail
 go_region_held3 (fun W => W.cell? ⟨f.sb, 6, none⟩ = some (pz f.tb) ∧ W.cell? ⟨f.tb, 0, none⟩ = some (uu X.cl) ∧ W.cell? ⟨f.tb, 1, none⟩ = some (uu X.n) ∧ W.cell? ⟨f.tb, 2, none⟩ = some (uw X.sp) ∧ W.cell? ⟨f.tb, 3, none⟩ = some (uu X.sl))
  (go_keep) (fail)
 rename_i hHeld
 clear hHeld p6 t0 t1 t2 t3
 go_wp2_with fail
 refine bodyPost_ret (res11 rfl rfl rfl (two_new1 _ _ _)) rfl ?_
 exact ⟨by rw [hr.out]; rfl, ((al _).trans ((al _).mono (al _).size)).drew⟩
theorem told74 (k e : Int) (h : SC f N X w) : Calls Tryz.prog 74 #[pz f.sb, iw k, iw e] w fun r w' => r = .returned (rsV { resF X k with er := e }) ∧ Below w.heap.size w w' := by
 cases ha : X.act
 ·exact told74f k e h ha
 ·exact told74t k e h ha
theorem box_res {b : Nat} {vs : Array Value} (h : W.heap[b]? = some (.cells vs 41 (0, 0))) (hb : Below W.heap.size W W') : W'.heap[b]? = some (.cells vs 41 (0, 0)) := by rw [hb.block b (lt_blk h)]; exact h
theorem refuse28 (e : Int) (h : SC f N X w) : Calls Tryz.prog 28 #[pz f.sb, iw e] w fun r w' => r = .returned (rsV (badF X e)) ∧ Below w.heap.size w w' := by
 have B1 : Hid _ := bx_new w RZ 41
 obtain ⟨W1, hW1⟩ := xj (w.alloc (.cells RZ 41))
 rw [hW1] at B1
 have C : Hid (1 = 1 → Calls Tryz.prog 74 #[pz f.sb, iw 6, iw e] W1 fun r w' => r = .returned (rsV (badF X e)) ∧ Below W1.heap.size W1 w') := fun _ => told74 6 e (h.on B1.out.bel)
 obtain ⟨b, hb⟩ := xj w.heap.size
 rw [hb] at B1
 clear h
 go_enter Tryz.func28, Tryz.ntmps28
 go_wp2_with fail
 refine (C.out (by trivial)).mono ?_
 rintro r w2 ⟨rfl, hb2⟩
 have B2 : Hid _ := B1.out.on hb2
 clear hb2 C B1 hW1
 unfold rsV
 go_wp2_with (refine wpList_store_row rfl 41 _ _ rfl b _ rfl rfl 41 _ B2.out.x (by kernel_rfl) rfl (rsc_all _ _ rfl) ?_)
 refine bodyPost_ret (res11 rfl rfl rfl (setRow_at B2.out.x)) rfl ?_
 exact ⟨rfl, by have k := below_row B2.out.bel (b := b) (by omega) (rsc (badF X e) sy).toArray; first | exact k | (rw [hb] at k; exact k)⟩
theorem toldAt76 (k : Int) (p l : Nat) (h : SC f N X w) : Calls Tryz.prog 76 #[pz f.sb, iw k, .agg #[uw p, uu l]] w fun r w' => r = .returned (rsV { resF X k with ap := p, al := l }) ∧ Below w.heap.size w w' := by
 obtain ⟨Y, hY⟩ := xj (resF X k)
 have hz : Hid (Y.er = 0) := by show _ = _; rw [← hY]; unfold resF; split <;> rfl
 have C : Hid (∀ W, Below w.heap.size w W → Calls Tryz.prog 74 #[pz f.sb, iw k, iw 0] W fun r w' => r = .returned (rsV Y) ∧ Below W.heap.size W w') := fun W hb => by
  have c := told74 k 0 (h.on hb)
  rw [hY] at c
  have e : { Y with er := 0 } = Y := by
   have e := hz.out
   cases Y
   simp only at e
   subst e
   rfl
  rw [e] at c
  exact c
 rw [hY]
 clear h hY
 obtain ⟨k0, e0, c0, n0, sp0, sl0, ap0, al0, fd0, val0, ps0⟩ := Y
 have HB : Hid (Below w.heap.size w ((w.alloc (.cells #[uw p, uu l] 34)).alloc (.cells RZ 41))) := (al _).trans ((al _).mono (al _).size)
 go_enter Tryz.func76, Tryz.ntmps76
 go_wp2_with fail
 refine (C.out _ HB.out).mono ?_
 rintro r w2 ⟨rfl, hb2⟩
 have B2 : Hid (Below w.heap.size w w2) := HB.out.trans (hb2.mono HB.out.size)
 have X2 : Hid (w2.heap[w.heap.size + 1]? = some (.cells RZ 41 (0, 0))) := by
  show _ = _
  have z := heap_alloc_new (w.alloc (.cells #[uw p, uu l] 34)) (.cells RZ 41)
  rw [hb2.block _ (by rw [size_al, size_al]; omega), ← size_al w (.cells #[uw p, uu l] 34)]
  exact z
 have y0 : w2.cell? ⟨w.heap.size, 0, none⟩ = some (uw p) := block_cell (by rw [hb2.block _ (by rw [size_al, size_al]; omega)]; exact two_new1 _ _ _) rfl
 have y1 : w2.cell? ⟨w.heap.size, 1, none⟩ = some (uu l) := block_cell (by rw [hb2.block _ (by rw [size_al, size_al]; omega)]; exact two_new1 _ _ _) rfl
 have hlt : w.heap.size + 1 < w2.heap.size := lt_blk X2.out
 clear hb2 C HB
 unfold rsV rsc
 dsimp only
 have hls : w.heap.size < w2.heap.size := by omega
 go_upto_region 3 with fail
 have X3 : Hid _ := heap_alloc_new w2 (.cells (rsc ⟨k0, e0, c0, n0, sp0, sl0, p, l, fd0, val0, ps0⟩ sy).toArray 41)
 have R3 : Hid _ := box_res X2.out (al (W := w2) (.cells (rsc ⟨k0, e0, c0, n0, sp0, sl0, p, l, fd0, val0, ps0⟩ sy).toArray 41))
 have B3 : Hid _ := B2.out.trans ((al (W := w2) (.cells (rsc ⟨k0, e0, c0, n0, sp0, sl0, p, l, fd0, val0, ps0⟩ sy).toArray 41)).mono B2.out.size)
 unfold rsc at X3 R3 B3
 dsimp only at X3 R3 B3
 obtain ⟨b3, hb3⟩ := xj w2.heap.size
 rw [hb3] at X3
 obtain ⟨W3, hW3⟩ := xj (w2.alloc (.cells #[iw k0, iw e0, uu c0, uu n0, uw sp0, uu sl0, uw p, uu l, .bool fd0, sd val0, sy] 41))
 rw [hW3] at X3 R3 B3
 rw [hW3, hb3]
 clear X2 B2 y0 y1 hW3 hb3
 go_wp2_with (first
  | (refine wpList_load_row rfl 41 _ rfl b3 rfl 41 _ (0, 0) _ X3.out Tryz.underlying41 rfl (by kernel_rfl) ?_)
  | (refine wpList_store_row rfl 41 _ _ rfl (w.heap.size + 1) _ rfl rfl 41 _ R3.out (by kernel_rfl) rfl (rsc_all ⟨k0, e0, c0, n0, sp0, sl0, p, l, fd0, val0, ps0⟩ _ rfl) ?_))
 refine bodyPost_ret (res11 rfl rfl rfl (setRow_at R3.out)) rfl ?_
 exact ⟨rfl, below_row B3.out (by omega) _⟩
theorem toldValue78 (fd : Bool) (val : List UInt8) (h : SC f N X w) : Calls Tryz.prog 78 #[pz f.sb, .bool fd, sd val] w fun r w' => r = .returned (rsV { resF X 2 with fd := fd, val := val }) ∧ Below w.heap.size w w' := by
 obtain ⟨Y, hY⟩ := xj (resF X 2)
 have hz : Hid (Y.er = 0) := by show _ = _; rw [← hY]; unfold resF; split <;> rfl
 have C : Hid (∀ W, Below w.heap.size w W → Calls Tryz.prog 74 #[pz f.sb, iw 2, iw 0] W fun r w' => r = .returned (rsV Y) ∧ Below W.heap.size W w') := fun W hb => by
  have c := told74 2 0 (h.on hb)
  rw [hY] at c
  have e : { Y with er := 0 } = Y := by
   have e := hz.out
   cases Y
   simp only at e
   subst e
   rfl
  rw [e] at c
  exact c
 rw [hY]
 clear h hY
 obtain ⟨k0, e0, c0, n0, sp0, sl0, ap0, al0, fd0, val0, ps0⟩ := Y
 have HB : Hid (Below w.heap.size w (w.alloc (.cells RZ 41))) := al _
 go_enter Tryz.func78, Tryz.ntmps78
 go_wp2_with fail
 refine (C.out _ HB.out).mono ?_
 rintro r w2 ⟨rfl, hb2⟩
 have B2 : Hid (Below w.heap.size w w2) := HB.out.trans (hb2.mono HB.out.size)
 have X2 : Hid (w2.heap[w.heap.size]? = some (.cells RZ 41 (0, 0))) := box_res (heap_alloc_new w _) hb2
 have hlt : w.heap.size < w2.heap.size := lt_blk X2.out
 clear hb2 C HB
 unfold rsV rsc
 dsimp only
 go_upto_region 3 with fail
 have X3 : Hid _ := heap_alloc_new w2 (.cells (rsc ⟨k0, e0, c0, n0, sp0, sl0, ap0, al0, fd, val, ps0⟩ sy).toArray 41)
 have R3 : Hid _ := box_res X2.out (al (W := w2) (.cells (rsc ⟨k0, e0, c0, n0, sp0, sl0, ap0, al0, fd, val, ps0⟩ sy).toArray 41))
 have B3 : Hid _ := B2.out.trans ((al (W := w2) (.cells (rsc ⟨k0, e0, c0, n0, sp0, sl0, ap0, al0, fd, val, ps0⟩ sy).toArray 41)).mono B2.out.size)
 unfold rsc at X3 R3 B3
 dsimp only at X3 R3 B3
 obtain ⟨b3, hb3⟩ := xj w2.heap.size
 rw [hb3] at X3
 obtain ⟨W3, hW3⟩ := xj (w2.alloc (.cells #[iw k0, iw e0, uu c0, uu n0, uw sp0, uu sl0, uw ap0, uu al0, .bool fd, sd val, sy] 41))
 rw [hW3] at X3 R3 B3
 rw [hW3, hb3]
 clear X2 B2 hW3 hb3
 go_wp2_with (first
  | (refine wpList_load_row rfl 41 _ rfl b3 rfl 41 _ (0, 0) _ X3.out Tryz.underlying41 rfl (by kernel_rfl) ?_)
  | (refine wpList_store_row rfl 41 _ _ rfl w.heap.size _ rfl rfl 41 _ R3.out (by kernel_rfl) rfl (rsc_all ⟨k0, e0, c0, n0, sp0, sl0, ap0, al0, fd, val, ps0⟩ _ rfl) ?_))
 refine bodyPost_ret (res11 rfl rfl rfl (setRow_at R3.out)) rfl ?_
 exact ⟨rfl, below_row B3.out (by omega) _⟩
def rpc (r : Rp) (vp : Value) : List Value := [iw r.k, iw r.er, .bool r.fd, sd r.val, vp, uu r.c, uu r.n, uw r.sp, uu r.sl, uw r.ap, uu r.al, sd r.prim, uw r.np, uu r.nl]
theorem errorOf82 (r : Rp) (vp : Value) (w : World) : Calls Tryz.prog 82 #[.agg (rpc r vp).toArray] w fun e w' => e = .returned (iw (wrongF r)) ∧ Below w.heap.size w w' := by
 have X1 : (w.alloc (.cells (rpc r vp).toArray 49)).heap[w.heap.size]? = some (.cells (rpc r vp).toArray 49 (0, 0)) := heap_alloc_new w _
 have p0 : (w.alloc (.cells (rpc r vp).toArray 49)).cell? ⟨w.heap.size, 0, none⟩ = some (iw r.k) := block_cell X1 rfl
 have p1 : (w.alloc (.cells (rpc r vp).toArray 49)).cell? ⟨w.heap.size, 1, none⟩ = some (iw r.er) := block_cell X1 rfl
 have HB : Hid (Below w.heap.size w (w.alloc (.cells (rpc r vp).toArray 49))) := al _
 obtain ⟨W1, hW1⟩ := xj (w.alloc (.cells (rpc r vp).toArray 49))
 rw [hW1] at p0 p1 HB
 clear X1
 obtain ⟨b, hb⟩ := xj w.heap.size
 rw [hb] at p0 p1
 obtain ⟨z1, hz1⟩ : ∃ z : Bool, (r.k == 0) = z := ⟨_, rfl⟩
 obtain ⟨z2, hz2⟩ : ∃ z : Bool, (r.er == 0) = z := ⟨_, rfl⟩
 have HV : Hid (wrongF r = if z1 && !z2 then r.er else 2) := by
  show _ = _
  subst hz1 hz2
  unfold wrongF
  by_cases h1 : r.k = 0 <;> by_cases h2 : r.er = 0 <;> simp [h1, h2]
 cases z1 <;> cases z2
 all_goals
  rw [HV.out]
  clear HV
  have hy1 : (r.k != 0) = !(r.k == 0) := rfl
  rw [hz1] at hy1
  simp only [Bool.not_true, Bool.not_false, Bool.and_true, Bool.and_false, Bool.false_eq_true, if_false, if_true] at hy1 ⊢
  go_enter Tryz.func82, Tryz.ntmps82
  go_wp2_with fail
  go_ret
  exact ⟨by first | rfl | simp, by first | exact HB.out | (rw [← hb]; exact HB.out) | (rw [hb] at HB; exact HB.out)⟩
end Go.Proofs.YtkdkgdollmmcnaaGreat
