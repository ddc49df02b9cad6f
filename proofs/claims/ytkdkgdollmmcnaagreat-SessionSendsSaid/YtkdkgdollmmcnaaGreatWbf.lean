import Derived.Test.YtkdkgdollmmcnaaGreatWbe
set_option maxHeartbeats 4000000
set_option maxRecDepth 100000
set_option linter.unusedVariables false
set_option linter.unusedSimpArgs false
namespace Go.Proofs.YtkdkgdollmmcnaaGreat
open Go.RowKit Go.Sort Go.Shelf
variable {M M' G N : Nat → Prop} {W W' w : World} {f f' : Fo} {X X' : Ss}
theorem not134 (rc : Array Value) (w : World) : Calls Tryz.prog 134 #[.agg rc] w fun e w' => e = .returned (rsV zS) ∧ Below w.heap.size w w' := by
 have hx : ((w.alloc (.cells rc 49)).alloc (.cells RZ 41)).heap[w.heap.size + 1]? = some (.cells RZ 41 (0, 0)) := by
  have := heap_alloc_new (w.alloc (.cells rc 49)) (.cells RZ 41)
  rw [size_al] at this
  exact this
 have hb : Below w.heap.size w ((w.alloc (.cells rc 49)).alloc (.cells RZ 41)) := (al _).trans ((al _).mono (by simp))
 obtain ⟨W1, hW1⟩ := xj ((w.alloc (.cells rc 49)).alloc (.cells RZ 41))
 rw [hW1] at hx hb
 have HX : Hid _ := hx
 have HB : Hid _ := hb
 have hr := rsc_all zS sy rfl
 clear hx hb
 go_enter Tryz.func134, Tryz.ntmps134
 go_wp2_with (refine wpList_store_row rfl 41 _ _ rfl (w.heap.size + 1) (rsc zS sy).toArray rfl rfl 41 _ HX.out (by kernel_rfl) rfl hr ?_)
 refine bodyPost_ret (res11 rfl rfl rfl (setRow_at HX.out)) rfl ?_
 exact ⟨rfl, below_row HB.out (by omega) _⟩
theorem fin155 (h : SC f N X w) (rm : Room f X) (n c hm : Nat) (hh : hm < 4294967296) (bs' bh bt' : Nat) (k2 : W.heap[bs']? = W.heap[bs']?) (e2 : w.heap[bs']? = some (.cells #[pz f.sb] 24 (0, 0))) (e3 : w.heap[bh]? = some (.cells #[iw (hm : Int)] 3 (0, 0))) (e4 : w.heap[bt']? = some (.cells #[uu c, uu n] 38 (0, 0))) : Calls Tryz.prog 155 #[pz bs', pz bh, pz bt'] w fun e w' => e = .returned (.tuple #[]) ∧ ∃ va vo, To f N X.act w (f.ask X { akF hm { zQ with k := 9, c := c, n := n } with ch := true, oc := c, on := n } sy sy (.func (.func 134) #[] #[]) va vo) (doneF X c n hm) w' := by
 have c2 : w.cell? ⟨bs', 0, none⟩ = some (pz f.sb) := block_cell e2 rfl
 have c3 : w.cell? ⟨bh, 0, none⟩ = some (iw (hm : Int)) := block_cell e3 rfl
 have c4 : w.cell? ⟨bt', 0, none⟩ = some (uu c) := block_cell e4 rfl
 have c5 : w.cell? ⟨bt', 1, none⟩ = some (uu n) := block_cell e4 rfl
 have C : Hid (1 = 1 → Calls Tryz.prog 132 #[pz f.sb, iw (hm : Int), .agg #[iw 9, uu c, uu n, .int .u64 0, .int .u32 0, .int .u64 0, .int .u32 0, su, su, iw 0, .int .u8 0, sy, sy], .func (.func 134) #[] #[]] w (Asked f N X w { akF hm { zQ with k := 9, c := c, n := n } with ch := true, oc := c, on := n } sy sy (.func (.func 134) #[] #[]))) := fun _ => chore132 h rm hm _ sy sy (.func 134) #[] #[] #[iw 9, uu c, uu n, .int .u64 0, .int .u32 0, .int .u64 0, .int .u32 0, su, su, iw 0, .int .u8 0, sy, sy] rfl rfl rfl hh (chore_is (h := 0) (show (9 : Int) ≠ 5 by decide) rfl rfl)
 clear h rm e2 e3 e4 k2
 go_enter Tryz.func155, Tryz.ntmps155
 go_wp2_with fail
 refine (C.out (by trivial)).mono ?_
 rintro e w2 ⟨rfl, va, vo, ht⟩
 have HT : Hid _ := ht
 clear ht C
 go_wp2_with fail
 go_end0
 exact ⟨rfl, va, vo, HT.out⟩
theorem SC.count (h : SC f N X W) {n : Nat} (hg : n ∈ f.gs) (L1 : Int) (hk : Kept (fun k => k = f.gl n) W W') (hb : W'.heap[f.gl n]? = some (.cells #[iw L1] 3 (0, 0))) : To f N X.act W { f with gv := fun m => if m = n then L1 else f.gv m } X W' := by
 have hxi : f.In X.act (f.gl n) := .inr (.inr (.inr (.inr (.inr ⟨n, hg, rfl⟩))))
 have s : Stay (fun k => k = f.gl n) (f.Ex N X.act) (({ f with gv := fun m => if m = n then L1 else f.gv m } : Fo).Ex N X.act) W W' := ⟨hk, fun k e => by subst e; exact .inr hxi, fun k _ e => e⟩
 have hx := h.gb n hg
 have B : ∀ {b : Nat} {cs : Array Value} {ty : TypeId}, W.heap[b]? = some (.cells cs ty (0, 0)) → ty ≠ 3 → W'.heap[b]? = some (.cells cs ty (0, 0)) := fun {b cs ty} e h1 => by rw [hk.block b (lt_blk e) (ne_tag e hx h1)]; exact e
 have O : ∀ {base e size : Nat} {v : Value} {n : Nat} {cs : List Value}, W.ownsRow base e size v n cs → e ≠ 3 → W'.ownsRow base e size v n cs := fun h0 h1 => own_kept h0 hk fun k hv e => by
  subst e
  exact own_ne h0 hx h1 hv
 refine ⟨⟨B h.blk (by decide), fun a => ⟨B (h.tx a).1 (by decide), O (h.tx a).2 (by decide)⟩, O h.ra (by decide), O h.ro (by decide), h.ea, h.eo, ⟨fun a => by rw [hk.block _ (lt_blk (h.bx.l a)) (fun e => (h.gd n hg).1 a e.symm)]; exact h.bx.l a, fun a => ⟨B (h.bx.p a).1 (by decide), O (h.bx.p a).2.1 (by decide), (h.bx.p a).2.2.stay s⟩, fun a => ⟨B (h.bx.c a).1 (by decide), (h.bx.c a).2⟩, h.bx.le⟩, fun m a => ?_, h.gd, fun x hx => (h.ak x hx).stay s ⟨rfl, rfl, rfl, rfl, fun _ h => ⟨h, rfl⟩⟩ rfl (fun _ _ => rfl), fun x hx => ⟨(h.lk x hx).1.stay s, (h.lk x hx).2⟩⟩, hk.mono (fun k e => by subst e; exact hxi), fun i hi => .inl hi⟩
 by_cases e : m = n
 ·subst e
  simp only [if_true]
  exact hb
 ·have hne : f.gl m ≠ f.gl n := fun e2 => e ((h.gd n hg).2 m a e2)
  simp only [e, if_false]
  rw [hk.block _ (lt_blk (h.gb m a)) hne]
  exact h.gb m a
theorem suc156a (h : SC f N X w) (hn : Nok N f X.act w) (rm : Room f X) (n c hm : Nat) (hh : hm < 4294967296) (bf bs' bh bt' : Nat) (hg : n ∈ f.gs) (k1 : Fx (f.Ex N X.act) w bf #[(.func (.func 155) #[] #[pz bs', pz bh, pz bt'])] 1) (k2 : Fx (f.Ex N X.act) w bs' #[pz f.sb] 24) (k3 : Fx (f.Ex N X.act) w bh #[iw (hm : Int)] 3) (k4 : Fx (f.Ex N X.act) w bt' #[uu c, uu n] 38) (r : Rp) (vp : Value) (L L1 : Int) (hL : f.gv n = L) (hL1 : L - 1 = L1) (hb : 1 ≤ L ∧ L ≤ 1048576) (hbd : Bd { f with gv := fun m => if m = n then L1 else f.gv m } X) (hz : ¬ (L1 = 0 ∧ r.k = 9)) : Calls Tryz.prog 156 #[.agg (rpc r vp).toArray, .pointer (some ⟨f.gl n, 0, none⟩), pz bf] w (Got f N X w X zS) := by
 obtain ⟨W1, hW1⟩ := xj ((w.alloc (.cells (rpc r vp).toArray 49)).alloc (.cells RZ 41))
 have X0 := nq (Cx.start h hn (fc k1 (fc k2 (fc k3 (fc k4 nb))))) hW1
 have g0 : W1.cell? ⟨f.gl n, 0, none⟩ = some (iw L) := by rw [← hL]; exact block_cell (X0.out.sc.gb n hg) rfl
 have g1 : W1.frozen? ⟨f.gl n, 0, none⟩ = false := block_frozen (X0.out.sc.gb n hg) 0
 have X1 : Hid (Cx (f.In X.act) N w { f with gv := fun m => if m = n then L1 else f.gv m } X ((w.heap.size, (rpc r vp).toArray, 49) :: [(bf, #[(.func (.func 155) #[] #[pz bs', pz bh, pz bt'])], 1), (bs', #[pz f.sb], 24), (bh, #[iw (hm : Int)], 3), (bt', #[uu c, uu n], 38)]) [(w.heap.size + 1, RZ, 41)] (W1.setCell ⟨f.gl n, 0, none⟩ (iw L1))) := X0.out.next (X0.out.sc.count hg L1 (set_kept' W1 (f.gl n) 0 _) (block_set (j := 0) (iw L1) (X0.out.sc.gb n hg)))
 obtain ⟨W2, hW2⟩ := xj (W1.setCell ⟨f.gl n, 0, none⟩ (iw L1))
 rw [hW2] at X1
 have q0 : W2.cell? ⟨f.gl n, 0, none⟩ = some (iw L1) := block_cell (cs := #[iw L1]) (ty := 3) (by have e := X1.out.sc.gb n hg; simpa using e) rfl
 have k0 : W2.cell? ⟨w.heap.size, 0, none⟩ = some (iw r.k) := X1.out.bc
 have hbl : -9223372036854775808 ≤ L1 := by omega
 have hbr : L1 < 9223372036854775808 := by omega
 have HB : Hid (Bd { f with gv := fun m => if m = n then L1 else f.gv m } X) := hbd
 have hr := rsc_all zS sy rfl
 by_cases h0 : L1 = 0
 ·have hk9 : (r.k == 9) = false := by
   have : r.k ≠ 9 := fun e => hz ⟨h0, e⟩
   simp [this]
  have hl0 : (L1 == 0) = true := by rw [h0]; rfl
  clear h hn rm k1 k2 k3 k4 hL hb hbd hz h0 X0
  go_enter Tryz.func156, Tryz.ntmps156
  go_wp2_with (refine wpList_store_row rfl 41 _ _ rfl (w.heap.size + 1) (rsc zS sy).toArray rfl rfl 41 _ (X1.out.bm mc) (by kernel_rfl) rfl hr ?_)
  refine bj X1.out ?_
  exact ⟨rfl, _, (X1.out.poke (setRow_kept _ _ _) (setRow_at (X1.out.bm mc)) nb).to, rfl, HB.out⟩
 ·have hl0 : (L1 == 0) = false := by simp [h0]
  clear h hn rm k1 k2 k3 k4 hL hb hbd hz h0 X0
  go_enter Tryz.func156, Tryz.ntmps156
  go_wp2_with (refine wpList_store_row rfl 41 _ _ rfl (w.heap.size + 1) (rsc zS sy).toArray rfl rfl 41 _ (X1.out.bm mc) (by kernel_rfl) rfl hr ?_)
  refine bj X1.out ?_
  exact ⟨rfl, _, (X1.out.poke (setRow_kept _ _ _) (setRow_at (X1.out.bm mc)) nb).to, rfl, HB.out⟩
theorem suc156b (h : SC f N X w) (hn : Nok N f X.act w) (rm : Room f X) (n c hm : Nat) (hh : hm < 4294967296) (bf bs' bh bt' : Nat) (hg : n ∈ f.gs) (k1 : Fx (f.Ex N X.act) w bf #[(.func (.func 155) #[] #[pz bs', pz bh, pz bt'])] 1) (k2 : Fx (f.Ex N X.act) w bs' #[pz f.sb] 24) (k3 : Fx (f.Ex N X.act) w bh #[iw (hm : Int)] 3) (k4 : Fx (f.Ex N X.act) w bt' #[uu c, uu n] 38) (r : Rp) (vp : Value) (L L1 : Int) (hL : f.gv n = L) (hL1 : L - 1 = L1) (hb : 1 ≤ L ∧ L ≤ 1048576) (hbd : Bd { f with gv := fun m => if m = n then L1 else f.gv m } X) (h0 : L1 = 0) (hk : r.k = 9) : Calls Tryz.prog 156 #[.agg (rpc r vp).toArray, .pointer (some ⟨f.gl n, 0, none⟩), pz bf] w (Got f N X w (doneF X c n hm) zS) := by
 obtain ⟨W1, hW1⟩ := xj ((w.alloc (.cells (rpc r vp).toArray 49)).alloc (.cells RZ 41))
 have X0 := nq (Cx.start h hn (fc k1 (fc k2 (fc k3 (fc k4 nb))))) hW1
 have g0 : W1.cell? ⟨f.gl n, 0, none⟩ = some (iw L) := by rw [← hL]; exact block_cell (X0.out.sc.gb n hg) rfl
 have g1 : W1.frozen? ⟨f.gl n, 0, none⟩ = false := block_frozen (X0.out.sc.gb n hg) 0
 have X1 : Hid (Cx (f.In X.act) N w { f with gv := fun m => if m = n then L1 else f.gv m } X ((w.heap.size, (rpc r vp).toArray, 49) :: [(bf, #[(.func (.func 155) #[] #[pz bs', pz bh, pz bt'])], 1), (bs', #[pz f.sb], 24), (bh, #[iw (hm : Int)], 3), (bt', #[uu c, uu n], 38)]) [(w.heap.size + 1, RZ, 41)] (W1.setCell ⟨f.gl n, 0, none⟩ (iw L1))) := X0.out.next (X0.out.sc.count hg L1 (set_kept' W1 (f.gl n) 0 _) (block_set (j := 0) (iw L1) (X0.out.sc.gb n hg)))
 obtain ⟨W2, hW2⟩ := xj (W1.setCell ⟨f.gl n, 0, none⟩ (iw L1))
 rw [hW2] at X1
 have q0 : W2.cell? ⟨f.gl n, 0, none⟩ = some (iw L1) := block_cell (cs := #[iw L1]) (ty := 3) (by have e := X1.out.sc.gb n hg; simpa using e) rfl
 have k0 : W2.cell? ⟨w.heap.size, 0, none⟩ = some (iw r.k) := X1.out.bc
 have hbl : -9223372036854775808 ≤ L1 := by omega
 have hbr : L1 < 9223372036854775808 := by omega
 have HB : Hid (Bd { f with gv := fun m => if m = n then L1 else f.gv m } X) := hbd
 have hr := rsc_all zS sy rfl
 have hk9 : (r.k == 9) = true := by rw [hk]; rfl
 have hl0 : (L1 == 0) = true := by rw [h0]; rfl
 have c0 : W2.cell? ⟨bf, 0, none⟩ = some (.func (.func 155) #[] #[pz bs', pz bh, pz bt']) := X1.out.bc
 have e155 : ∀ args w, (callFunc 155 args).run Tryz.prog w = .ok (.enter 155 args) w := enters_of Tryz.func155 (by kernel_rfl) rfl
 have C : Hid (1 = 1 → Calls Tryz.prog 155 #[pz bs', pz bh, pz bt'] W2 fun e w' => e = .returned (.tuple #[]) ∧ ∃ f', Cx (f.In X.act) N w f' (doneF X c n hm) ((w.heap.size, (rpc r vp).toArray, 49) :: [(bf, #[(.func (.func 155) #[] #[pz bs', pz bh, pz bt'])], 1), (bs', #[pz f.sb], 24), (bh, #[iw (hm : Int)], 3), (bt', #[uu c, uu n], 38)]) [(w.heap.size + 1, RZ, 41)] w' ∧ f'.sb = f.sb ∧ Bd f' (doneF X c n hm)) := fun _ => (fin155 (W := W2) X1.out.sc ⟨rm.sq, rm.la, rm.lo⟩ n c hm hh bs' bh bt' rfl (X1.out.bx (by simp)) (X1.out.bx (by simp)) (X1.out.bx (by simp))).mono fun e w' ⟨h1, va, vo, h2⟩ => ⟨h1, _, X1.out.next h2, rfl, HB.out.ask rfl⟩
 clear h hn rm k1 k2 k3 k4 hL hb hbd X0 hk h0
 go_enter Tryz.func156, Tryz.ntmps156
 go_wp2_with fail
 refine (C.out (by trivial)).mono ?_
 rintro e w3 ⟨rfl, f', x3, hsb, hbd⟩
 have X3 : Hid _ := x3
 have HF : Hid _ := And.intro hsb hbd
 clear x3 hsb hbd C c0 q0 k0 g0 g1 hW1 hW2
 go_wp2_with (refine wpList_store_row rfl 41 _ _ rfl (w.heap.size + 1) (rsc zS sy).toArray rfl rfl 41 _ (X3.out.bm mc) (by kernel_rfl) rfl hr ?_)
 refine bj X3.out ?_
 exact ej X3.out HF.out
theorem neqN (w : World) : (binOp .neq 74 .nilFunc .nilFunc).run Tryz.prog w = .ok (.bool false) w := by first | rfl | kernel_rfl | simp [go_sem]
theorem neqF (fn : Fn) (fi cp : Array Value) (w : World) : (binOp .neq 74 (.func fn fi cp) .nilFunc).run Tryz.prog w = .ok (.bool true) w := by first | rfl | kernel_rfl | simp [go_sem]
theorem do11_busy (h : SC f N X w) (hn : Nok N f X.act w) (ph : Nat) (o : Op) (hi : X.op.k ≠ 0) (X2 : Ss) (r2 : Rs) (hc : ∀ N' W, SC f N' X W → Nok N' f X.act W → Calls Tryz.prog 28 #[pz f.sb, iw 40] W (Got f N' X W X2 r2)) : Calls Tryz.prog 11 #[pz f.sb, uw ph, .agg #[iw o.k, sd o.key, sd o.val, sd o.to, iw o.lim]] w (Got f N X w X2 r2) := by
 have X0 := (Cx.start (Lo := []) h hn nb).box11 #[iw o.k, sd o.key, sd o.val, sd o.to, iw o.lim] 44 RZ 41
 obtain ⟨W1, hW1⟩ := xj ((w.alloc (.cells #[iw o.k, sd o.key, sd o.val, sd o.to, iw o.lim] 44)).alloc (.cells RZ 41))
 rw [hW1] at X0
 have ob := X0.bx (b := w.heap.size) (cs := #[iw o.k, sd o.key, sd o.val, sd o.to, iw o.lim]) (ty := 44) (by simp)
 have o0 : W1.cell? ⟨w.heap.size, 0, none⟩ = some (iw o.k) := block_cell ob rfl
 have o1 : W1.cell? ⟨w.heap.size, 1, none⟩ = some (sd o.key) := block_cell ob rfl
 have o2 : W1.cell? ⟨w.heap.size, 2, none⟩ = some (sd o.val) := block_cell ob rfl
 have o3 : W1.cell? ⟨w.heap.size, 3, none⟩ = some (sd o.to) := block_cell ob rfl
 have o4 : W1.cell? ⟨w.heap.size, 4, none⟩ = some (iw o.lim) := block_cell ob rfl
 obtain ⟨sf, hsf, -, -⟩ := stop_fn f.sb X hi
 have p7 : W1.cell? ⟨f.sb, 7, none⟩ = some (.func (.func sf) #[pz f.sb] #[]) := block_cell X0.sc.blk (by rw [← hsf]; rfl)
 have eF := neqF (.func sf) #[pz f.sb] #[] W1
 clear hsf
 have p6 : 1 = 1 := rfl
 have HC := gh (hc _ W1 X0.sc X0.nok) X0
 clear h hn X0 ob hc hi
 go_enter Tryz.func11, Tryz.ntmps11
 go_wp2_with fail
 refine (HC.out (by trivial)).mono ?_
 rintro e w2 ⟨rfl, f', x2, hsb, hbd⟩
 have X2' : Hid _ := x2
 have HF : Hid _ := And.intro hsb hbd
 clear x2 hsb hbd HC p7 p6 o0 o1 o2 o3 o4 hW1
 unfold rsV
 go_wp2_with (refine sr X2'.out ?_)
 refine bj X2'.out ?_
 exact ej X2'.out HF.out
theorem do11_1 (h : SC f N X w) (hn : Nok N f X.act w) (ph : Nat) (o : Op) (hi : X.op.k = 0) (hk : o.k = 1) (X2 : Ss) (r2 : Rs) (hc : ∀ N' W, SC f N' X W → Nok N' f X.act W → Calls Tryz.prog 29 #[pz f.sb, uw ph] W (Got f N' X W X2 r2)) : Calls Tryz.prog 11 #[pz f.sb, uw ph, .agg #[iw o.k, sd o.key, sd o.val, sd o.to, iw o.lim]] w (Got f N X w X2 r2) := by
 have X0 := (Cx.start (Lo := []) h hn nb).box11 #[iw o.k, sd o.key, sd o.val, sd o.to, iw o.lim] 44 RZ 41
 obtain ⟨W1, hW1⟩ := xj ((w.alloc (.cells #[iw o.k, sd o.key, sd o.val, sd o.to, iw o.lim] 44)).alloc (.cells RZ 41))
 rw [hW1] at X0
 have ob := X0.bx (b := w.heap.size) (cs := #[iw o.k, sd o.key, sd o.val, sd o.to, iw o.lim]) (ty := 44) (by simp)
 have o0 : W1.cell? ⟨w.heap.size, 0, none⟩ = some (iw o.k) := block_cell ob rfl
 have o1 : W1.cell? ⟨w.heap.size, 1, none⟩ = some (sd o.key) := block_cell ob rfl
 have o2 : W1.cell? ⟨w.heap.size, 2, none⟩ = some (sd o.val) := block_cell ob rfl
 have o3 : W1.cell? ⟨w.heap.size, 3, none⟩ = some (sd o.to) := block_cell ob rfl
 have o4 : W1.cell? ⟨w.heap.size, 4, none⟩ = some (iw o.lim) := block_cell ob rfl
 have p7 : W1.cell? ⟨f.sb, 7, none⟩ = some .nilFunc := block_cell X0.sc.blk (by simp [sbA, vsV, hi])
 have eN := neqN W1
 have p6 : 1 = 1 := rfl
 have hb1 : (o.k == 1) = true := by rw [hk]; rfl
 have HC := gh (hc _ W1 X0.sc X0.nok) X0
 clear h hn X0 ob hc hi hk
 go_enter Tryz.func11, Tryz.ntmps11
 go_wp2_with fail
 refine (HC.out (by trivial)).mono ?_
 rintro e w2 ⟨rfl, f', x2, hsb, hbd⟩
 have X2' : Hid _ := x2
 have HF : Hid _ := And.intro hsb hbd
 clear x2 hsb hbd HC p7 p6 o0 o1 o2 o3 o4 hW1
 unfold rsV
 go_wp2_with (refine sr X2'.out ?_)
 refine bj X2'.out ?_
 exact ej X2'.out HF.out
theorem do11_none (h : SC f N X w) (hn : Nok N f X.act w) (ph : Nat) (o : Op) (hi : X.op.k = 0) (ha : X.act = false) (hk : o.k ≠ 1) (X2 : Ss) (r2 : Rs) (hc : ∀ N' W, SC f N' X W → Nok N' f X.act W → Calls Tryz.prog 28 #[pz f.sb, iw 41] W (Got f N' X W X2 r2)) : Calls Tryz.prog 11 #[pz f.sb, uw ph, .agg #[iw o.k, sd o.key, sd o.val, sd o.to, iw o.lim]] w (Got f N X w X2 r2) := by
 have X0 := (Cx.start (Lo := []) h hn nb).box11 #[iw o.k, sd o.key, sd o.val, sd o.to, iw o.lim] 44 RZ 41
 obtain ⟨W1, hW1⟩ := xj ((w.alloc (.cells #[iw o.k, sd o.key, sd o.val, sd o.to, iw o.lim] 44)).alloc (.cells RZ 41))
 rw [hW1] at X0
 have ob := X0.bx (b := w.heap.size) (cs := #[iw o.k, sd o.key, sd o.val, sd o.to, iw o.lim]) (ty := 44) (by simp)
 have o0 : W1.cell? ⟨w.heap.size, 0, none⟩ = some (iw o.k) := block_cell ob rfl
 have o1 : W1.cell? ⟨w.heap.size, 1, none⟩ = some (sd o.key) := block_cell ob rfl
 have o2 : W1.cell? ⟨w.heap.size, 2, none⟩ = some (sd o.val) := block_cell ob rfl
 have o3 : W1.cell? ⟨w.heap.size, 3, none⟩ = some (sd o.to) := block_cell ob rfl
 have o4 : W1.cell? ⟨w.heap.size, 4, none⟩ = some (iw o.lim) := block_cell ob rfl
 have p7 : W1.cell? ⟨f.sb, 7, none⟩ = some .nilFunc := block_cell X0.sc.blk (by simp [sbA, vsV, hi])
 have eN := neqN W1
 have p6 : W1.cell? ⟨f.sb, 6, none⟩ = some (.pointer none) := block_cell X0.sc.blk (by simp [sbA, vtV, ha])
 have hb1 : (o.k == 1) = false := by simp; exact hk
 have HC := gh (hc _ W1 X0.sc X0.nok) X0
 clear h hn X0 ob hc hi ha hk
 go_enter Tryz.func11, Tryz.ntmps11
 go_wp2_with fail
 refine (HC.out (by trivial)).mono ?_
 rintro e w2 ⟨rfl, f', x2, hsb, hbd⟩
 have X2' : Hid _ := x2
 have HF : Hid _ := And.intro hsb hbd
 clear x2 hsb hbd HC p7 p6 o0 o1 o2 o3 o4 hW1
 unfold rsV
 go_wp2_with (refine sr X2'.out ?_)
 refine bj X2'.out ?_
 exact ej X2'.out HF.out
theorem do11_2 (h : SC f N X w) (hn : Nok N f X.act w) (ph : Nat) (o : Op) (hi : X.op.k = 0) (ha : X.act = true) (hk : o.k = 2) (X2 : Ss) (r2 : Rs) (hc : ∀ N' W, SC f N' X W → Nok N' f X.act W → Calls Tryz.prog 30 #[pz f.sb, sd o.key] W (Got f N' X W X2 r2)) : Calls Tryz.prog 11 #[pz f.sb, uw ph, .agg #[iw o.k, sd o.key, sd o.val, sd o.to, iw o.lim]] w (Got f N X w X2 r2) := by
 have X0 := (Cx.start (Lo := []) h hn nb).box11 #[iw o.k, sd o.key, sd o.val, sd o.to, iw o.lim] 44 RZ 41
 obtain ⟨W1, hW1⟩ := xj ((w.alloc (.cells #[iw o.k, sd o.key, sd o.val, sd o.to, iw o.lim] 44)).alloc (.cells RZ 41))
 rw [hW1] at X0
 have ob := X0.bx (b := w.heap.size) (cs := #[iw o.k, sd o.key, sd o.val, sd o.to, iw o.lim]) (ty := 44) (by simp)
 have o0 : W1.cell? ⟨w.heap.size, 0, none⟩ = some (iw o.k) := block_cell ob rfl
 have o1 : W1.cell? ⟨w.heap.size, 1, none⟩ = some (sd o.key) := block_cell ob rfl
 have o2 : W1.cell? ⟨w.heap.size, 2, none⟩ = some (sd o.val) := block_cell ob rfl
 have o3 : W1.cell? ⟨w.heap.size, 3, none⟩ = some (sd o.to) := block_cell ob rfl
 have o4 : W1.cell? ⟨w.heap.size, 4, none⟩ = some (iw o.lim) := block_cell ob rfl
 have p7 : W1.cell? ⟨f.sb, 7, none⟩ = some .nilFunc := block_cell X0.sc.blk (by simp [sbA, vsV, hi])
 have eN := neqN W1
 have p6 : W1.cell? ⟨f.sb, 6, none⟩ = some (pz f.tb) := block_cell X0.sc.blk (by simp [sbA, vtV, ha])
 have hb1 : (o.k == 1) = false := by rw [hk]; rfl
 have hb2 : (o.k == 2) = true := by rw [hk]; rfl
 have HC := gh (hc _ W1 X0.sc X0.nok) X0
 clear h hn X0 ob hc hi ha hk
 go_enter Tryz.func11, Tryz.ntmps11
 go_wp2_with fail
 refine (HC.out (by trivial)).mono ?_
 rintro e w2 ⟨rfl, f', x2, hsb, hbd⟩
 have X2' : Hid _ := x2
 have HF : Hid _ := And.intro hsb hbd
 clear x2 hsb hbd HC p7 p6 o0 o1 o2 o3 o4 hW1
 unfold rsV
 go_wp2_with (refine sr X2'.out ?_)
 refine bj X2'.out ?_
 exact ej X2'.out HF.out
theorem do11_3 (h : SC f N X w) (hn : Nok N f X.act w) (ph : Nat) (o : Op) (hi : X.op.k = 0) (ha : X.act = true) (hk : o.k = 3) (X2 : Ss) (r2 : Rs) (hc : ∀ N' W, SC f N' X W → Nok N' f X.act W → Calls Tryz.prog 31 #[pz f.sb, .agg #[iw o.k, sd o.key, sd o.val, sd o.to, iw o.lim]] W (Got f N' X W X2 r2)) : Calls Tryz.prog 11 #[pz f.sb, uw ph, .agg #[iw o.k, sd o.key, sd o.val, sd o.to, iw o.lim]] w (Got f N X w X2 r2) := by
 have X0 := (Cx.start (Lo := []) h hn nb).box11 #[iw o.k, sd o.key, sd o.val, sd o.to, iw o.lim] 44 RZ 41
 obtain ⟨W1, hW1⟩ := xj ((w.alloc (.cells #[iw o.k, sd o.key, sd o.val, sd o.to, iw o.lim] 44)).alloc (.cells RZ 41))
 rw [hW1] at X0
 have ob := X0.bx (b := w.heap.size) (cs := #[iw o.k, sd o.key, sd o.val, sd o.to, iw o.lim]) (ty := 44) (by simp)
 have o0 : W1.cell? ⟨w.heap.size, 0, none⟩ = some (iw o.k) := block_cell ob rfl
 have o1 : W1.cell? ⟨w.heap.size, 1, none⟩ = some (sd o.key) := block_cell ob rfl
 have o2 : W1.cell? ⟨w.heap.size, 2, none⟩ = some (sd o.val) := block_cell ob rfl
 have o3 : W1.cell? ⟨w.heap.size, 3, none⟩ = some (sd o.to) := block_cell ob rfl
 have o4 : W1.cell? ⟨w.heap.size, 4, none⟩ = some (iw o.lim) := block_cell ob rfl
 have p7 : W1.cell? ⟨f.sb, 7, none⟩ = some .nilFunc := block_cell X0.sc.blk (by simp [sbA, vsV, hi])
 have eN := neqN W1
 have p6 : W1.cell? ⟨f.sb, 6, none⟩ = some (pz f.tb) := block_cell X0.sc.blk (by simp [sbA, vtV, ha])
 have hb1 : (o.k == 1) = false := by rw [hk]; rfl
 have hb2 : (o.k == 2) = false := by rw [hk]; rfl
 have hb3 : (o.k == 3) = true := by rw [hk]; rfl
 have HC := gh (hc _ W1 X0.sc X0.nok) X0
 clear h hn X0 ob hc hi ha hk
 go_enter Tryz.func11, Tryz.ntmps11
 go_wp2_with fail
 refine (HC.out (by trivial)).mono ?_
 rintro e w2 ⟨rfl, f', x2, hsb, hbd⟩
 have X2' : Hid _ := x2
 have HF : Hid _ := And.intro hsb hbd
 clear x2 hsb hbd HC p7 p6 o0 o1 o2 o3 o4 hW1
 unfold rsV
 go_wp2_with (refine sr X2'.out ?_)
 refine bj X2'.out ?_
 exact ej X2'.out HF.out
theorem do11_4 (h : SC f N X w) (hn : Nok N f X.act w) (ph : Nat) (o : Op) (hi : X.op.k = 0) (ha : X.act = true) (hk : o.k = 4) (X2 : Ss) (r2 : Rs) (hc : ∀ N' W, SC f N' X W → Nok N' f X.act W → Calls Tryz.prog 32 #[pz f.sb, .agg #[sd o.key, sd o.val, .bool false]] W (Got f N' X W X2 r2)) : Calls Tryz.prog 11 #[pz f.sb, uw ph, .agg #[iw o.k, sd o.key, sd o.val, sd o.to, iw o.lim]] w (Got f N X w X2 r2) := by
 have X0 := (Cx.start (Lo := []) h hn nb).box11 #[iw o.k, sd o.key, sd o.val, sd o.to, iw o.lim] 44 RZ 41
 obtain ⟨W1, hW1⟩ := xj ((w.alloc (.cells #[iw o.k, sd o.key, sd o.val, sd o.to, iw o.lim] 44)).alloc (.cells RZ 41))
 rw [hW1] at X0
 have ob := X0.bx (b := w.heap.size) (cs := #[iw o.k, sd o.key, sd o.val, sd o.to, iw o.lim]) (ty := 44) (by simp)
 have o0 : W1.cell? ⟨w.heap.size, 0, none⟩ = some (iw o.k) := block_cell ob rfl
 have o1 : W1.cell? ⟨w.heap.size, 1, none⟩ = some (sd o.key) := block_cell ob rfl
 have o2 : W1.cell? ⟨w.heap.size, 2, none⟩ = some (sd o.val) := block_cell ob rfl
 have o3 : W1.cell? ⟨w.heap.size, 3, none⟩ = some (sd o.to) := block_cell ob rfl
 have o4 : W1.cell? ⟨w.heap.size, 4, none⟩ = some (iw o.lim) := block_cell ob rfl
 have p7 : W1.cell? ⟨f.sb, 7, none⟩ = some .nilFunc := block_cell X0.sc.blk (by simp [sbA, vsV, hi])
 have eN := neqN W1
 have p6 : W1.cell? ⟨f.sb, 6, none⟩ = some (pz f.tb) := block_cell X0.sc.blk (by simp [sbA, vtV, ha])
 have hb1 : (o.k == 1) = false := by rw [hk]; rfl
 have hb2 : (o.k == 2) = false := by rw [hk]; rfl
 have hb3 : (o.k == 3) = false := by rw [hk]; rfl
 have hb4 : (o.k == 4) = true := by rw [hk]; rfl
 have HC := gh (hc _ W1 X0.sc X0.nok) X0
 clear h hn X0 ob hc hi ha hk
 go_enter Tryz.func11, Tryz.ntmps11
 go_wp2_with fail
 refine (HC.out (by trivial)).mono ?_
 rintro e w2 ⟨rfl, f', x2, hsb, hbd⟩
 have X2' : Hid _ := x2
 have HF : Hid _ := And.intro hsb hbd
 clear x2 hsb hbd HC p7 p6 o0 o1 o2 o3 o4 hW1
 unfold rsV
 go_wp2_with (refine sr X2'.out ?_)
 refine bj X2'.out ?_
 exact ej X2'.out HF.out
theorem do11_5 (h : SC f N X w) (hn : Nok N f X.act w) (ph : Nat) (o : Op) (hi : X.op.k = 0) (ha : X.act = true) (hk : o.k = 5) (X2 : Ss) (r2 : Rs) (hc : ∀ N' W, SC f N' X W → Nok N' f X.act W → Calls Tryz.prog 32 #[pz f.sb, .agg #[sd o.key, su, .bool true]] W (Got f N' X W X2 r2)) : Calls Tryz.prog 11 #[pz f.sb, uw ph, .agg #[iw o.k, sd o.key, sd o.val, sd o.to, iw o.lim]] w (Got f N X w X2 r2) := by
 have X0 := (Cx.start (Lo := []) h hn nb).box11 #[iw o.k, sd o.key, sd o.val, sd o.to, iw o.lim] 44 RZ 41
 obtain ⟨W1, hW1⟩ := xj ((w.alloc (.cells #[iw o.k, sd o.key, sd o.val, sd o.to, iw o.lim] 44)).alloc (.cells RZ 41))
 rw [hW1] at X0
 have ob := X0.bx (b := w.heap.size) (cs := #[iw o.k, sd o.key, sd o.val, sd o.to, iw o.lim]) (ty := 44) (by simp)
 have o0 : W1.cell? ⟨w.heap.size, 0, none⟩ = some (iw o.k) := block_cell ob rfl
 have o1 : W1.cell? ⟨w.heap.size, 1, none⟩ = some (sd o.key) := block_cell ob rfl
 have o2 : W1.cell? ⟨w.heap.size, 2, none⟩ = some (sd o.val) := block_cell ob rfl
 have o3 : W1.cell? ⟨w.heap.size, 3, none⟩ = some (sd o.to) := block_cell ob rfl
 have o4 : W1.cell? ⟨w.heap.size, 4, none⟩ = some (iw o.lim) := block_cell ob rfl
 have p7 : W1.cell? ⟨f.sb, 7, none⟩ = some .nilFunc := block_cell X0.sc.blk (by simp [sbA, vsV, hi])
 have eN := neqN W1
 have p6 : W1.cell? ⟨f.sb, 6, none⟩ = some (pz f.tb) := block_cell X0.sc.blk (by simp [sbA, vtV, ha])
 have hb1 : (o.k == 1) = false := by rw [hk]; rfl
 have hb2 : (o.k == 2) = false := by rw [hk]; rfl
 have hb3 : (o.k == 3) = false := by rw [hk]; rfl
 have hb4 : (o.k == 4) = false := by rw [hk]; rfl
 have hb5 : (o.k == 5) = true := by rw [hk]; rfl
 have HC := gh (hc _ W1 X0.sc X0.nok) X0
 clear h hn X0 ob hc hi ha hk
 go_enter Tryz.func11, Tryz.ntmps11
 go_wp2_with fail
 refine (HC.out (by trivial)).mono ?_
 rintro e w2 ⟨rfl, f', x2, hsb, hbd⟩
 have X2' : Hid _ := x2
 have HF : Hid _ := And.intro hsb hbd
 clear x2 hsb hbd HC p7 p6 o0 o1 o2 o3 o4 hW1
 unfold rsV
 go_wp2_with (refine sr X2'.out ?_)
 refine bj X2'.out ?_
 exact ej X2'.out HF.out
theorem do11_6 (h : SC f N X w) (hn : Nok N f X.act w) (ph : Nat) (o : Op) (hi : X.op.k = 0) (ha : X.act = true) (hk : o.k = 6) (X2 : Ss) (r2 : Rs) (hc : ∀ N' W, SC f N' X W → Nok N' f X.act W → Calls Tryz.prog 33 #[pz f.sb] W (Got f N' X W X2 r2)) : Calls Tryz.prog 11 #[pz f.sb, uw ph, .agg #[iw o.k, sd o.key, sd o.val, sd o.to, iw o.lim]] w (Got f N X w X2 r2) := by
 have X0 := (Cx.start (Lo := []) h hn nb).box11 #[iw o.k, sd o.key, sd o.val, sd o.to, iw o.lim] 44 RZ 41
 obtain ⟨W1, hW1⟩ := xj ((w.alloc (.cells #[iw o.k, sd o.key, sd o.val, sd o.to, iw o.lim] 44)).alloc (.cells RZ 41))
 rw [hW1] at X0
 have ob := X0.bx (b := w.heap.size) (cs := #[iw o.k, sd o.key, sd o.val, sd o.to, iw o.lim]) (ty := 44) (by simp)
 have o0 : W1.cell? ⟨w.heap.size, 0, none⟩ = some (iw o.k) := block_cell ob rfl
 have o1 : W1.cell? ⟨w.heap.size, 1, none⟩ = some (sd o.key) := block_cell ob rfl
 have o2 : W1.cell? ⟨w.heap.size, 2, none⟩ = some (sd o.val) := block_cell ob rfl
 have o3 : W1.cell? ⟨w.heap.size, 3, none⟩ = some (sd o.to) := block_cell ob rfl
 have o4 : W1.cell? ⟨w.heap.size, 4, none⟩ = some (iw o.lim) := block_cell ob rfl
 have p7 : W1.cell? ⟨f.sb, 7, none⟩ = some .nilFunc := block_cell X0.sc.blk (by simp [sbA, vsV, hi])
 have eN := neqN W1
 have p6 : W1.cell? ⟨f.sb, 6, none⟩ = some (pz f.tb) := block_cell X0.sc.blk (by simp [sbA, vtV, ha])
 have hb1 : (o.k == 1) = false := by rw [hk]; rfl
 have hb2 : (o.k == 2) = false := by rw [hk]; rfl
 have hb3 : (o.k == 3) = false := by rw [hk]; rfl
 have hb4 : (o.k == 4) = false := by rw [hk]; rfl
 have hb5 : (o.k == 5) = false := by rw [hk]; rfl
 have hb6 : (o.k == 6) = true := by rw [hk]; rfl
 have HC := gh (hc _ W1 X0.sc X0.nok) X0
 clear h hn X0 ob hc hi ha hk
 go_enter Tryz.func11, Tryz.ntmps11
 go_wp2_with fail
 refine (HC.out (by trivial)).mono ?_
 rintro e w2 ⟨rfl, f', x2, hsb, hbd⟩
 have X2' : Hid _ := x2
 have HF : Hid _ := And.intro hsb hbd
 clear x2 hsb hbd HC p7 p6 o0 o1 o2 o3 o4 hW1
 unfold rsV
 go_wp2_with (refine sr X2'.out ?_)
 refine bj X2'.out ?_
 exact ej X2'.out HF.out
theorem do11_7 (h : SC f N X w) (hn : Nok N f X.act w) (ph : Nat) (o : Op) (hi : X.op.k = 0) (ha : X.act = true) (hk : o.k = 7) (X2 : Ss) (r2 : Rs) (hc : ∀ N' W, SC f N' X W → Nok N' f X.act W → Calls Tryz.prog 34 #[pz f.sb] W (Got f N' X W X2 r2)) : Calls Tryz.prog 11 #[pz f.sb, uw ph, .agg #[iw o.k, sd o.key, sd o.val, sd o.to, iw o.lim]] w (Got f N X w X2 r2) := by
 have X0 := (Cx.start (Lo := []) h hn nb).box11 #[iw o.k, sd o.key, sd o.val, sd o.to, iw o.lim] 44 RZ 41
 obtain ⟨W1, hW1⟩ := xj ((w.alloc (.cells #[iw o.k, sd o.key, sd o.val, sd o.to, iw o.lim] 44)).alloc (.cells RZ 41))
 rw [hW1] at X0
 have ob := X0.bx (b := w.heap.size) (cs := #[iw o.k, sd o.key, sd o.val, sd o.to, iw o.lim]) (ty := 44) (by simp)
 have o0 : W1.cell? ⟨w.heap.size, 0, none⟩ = some (iw o.k) := block_cell ob rfl
 have o1 : W1.cell? ⟨w.heap.size, 1, none⟩ = some (sd o.key) := block_cell ob rfl
 have o2 : W1.cell? ⟨w.heap.size, 2, none⟩ = some (sd o.val) := block_cell ob rfl
 have o3 : W1.cell? ⟨w.heap.size, 3, none⟩ = some (sd o.to) := block_cell ob rfl
 have o4 : W1.cell? ⟨w.heap.size, 4, none⟩ = some (iw o.lim) := block_cell ob rfl
 have p7 : W1.cell? ⟨f.sb, 7, none⟩ = some .nilFunc := block_cell X0.sc.blk (by simp [sbA, vsV, hi])
 have eN := neqN W1
 have p6 : W1.cell? ⟨f.sb, 6, none⟩ = some (pz f.tb) := block_cell X0.sc.blk (by simp [sbA, vtV, ha])
 have hb1 : (o.k == 1) = false := by rw [hk]; rfl
 have hb2 : (o.k == 2) = false := by rw [hk]; rfl
 have hb3 : (o.k == 3) = false := by rw [hk]; rfl
 have hb4 : (o.k == 4) = false := by rw [hk]; rfl
 have hb5 : (o.k == 5) = false := by rw [hk]; rfl
 have hb6 : (o.k == 6) = false := by rw [hk]; rfl
 have hb7 : (o.k == 7) = true := by rw [hk]; rfl
 have HC := gh (hc _ W1 X0.sc X0.nok) X0
 clear h hn X0 ob hc hi ha hk
 go_enter Tryz.func11, Tryz.ntmps11
 go_wp2_with fail
 refine (HC.out (by trivial)).mono ?_
 rintro e w2 ⟨rfl, f', x2, hsb, hbd⟩
 have X2' : Hid _ := x2
 have HF : Hid _ := And.intro hsb hbd
 clear x2 hsb hbd HC p7 p6 o0 o1 o2 o3 o4 hW1
 unfold rsV
 go_wp2_with (refine sr X2'.out ?_)
 refine bj X2'.out ?_
 exact ej X2'.out HF.out
theorem do11_bad (h : SC f N X w) (hn : Nok N f X.act w) (ph : Nat) (o : Op) (hi : X.op.k = 0) (ha : X.act = true) (hk : o.k < 1 ∨ 7 < o.k) (X2 : Ss) (r2 : Rs) (hc : ∀ N' W, SC f N' X W → Nok N' f X.act W → Calls Tryz.prog 28 #[pz f.sb, iw 1] W (Got f N' X W X2 r2)) : Calls Tryz.prog 11 #[pz f.sb, uw ph, .agg #[iw o.k, sd o.key, sd o.val, sd o.to, iw o.lim]] w (Got f N X w X2 r2) := by
 have X0 := (Cx.start (Lo := []) h hn nb).box11 #[iw o.k, sd o.key, sd o.val, sd o.to, iw o.lim] 44 RZ 41
 obtain ⟨W1, hW1⟩ := xj ((w.alloc (.cells #[iw o.k, sd o.key, sd o.val, sd o.to, iw o.lim] 44)).alloc (.cells RZ 41))
 rw [hW1] at X0
 have ob := X0.bx (b := w.heap.size) (cs := #[iw o.k, sd o.key, sd o.val, sd o.to, iw o.lim]) (ty := 44) (by simp)
 have o0 : W1.cell? ⟨w.heap.size, 0, none⟩ = some (iw o.k) := block_cell ob rfl
 have o1 : W1.cell? ⟨w.heap.size, 1, none⟩ = some (sd o.key) := block_cell ob rfl
 have o2 : W1.cell? ⟨w.heap.size, 2, none⟩ = some (sd o.val) := block_cell ob rfl
 have o3 : W1.cell? ⟨w.heap.size, 3, none⟩ = some (sd o.to) := block_cell ob rfl
 have o4 : W1.cell? ⟨w.heap.size, 4, none⟩ = some (iw o.lim) := block_cell ob rfl
 have p7 : W1.cell? ⟨f.sb, 7, none⟩ = some .nilFunc := block_cell X0.sc.blk (by simp [sbA, vsV, hi])
 have eN := neqN W1
 have p6 : W1.cell? ⟨f.sb, 6, none⟩ = some (pz f.tb) := block_cell X0.sc.blk (by simp [sbA, vtV, ha])
 have hb1 : (o.k == 1) = false := by simp; omega
 have hb2 : (o.k == 2) = false := by simp; omega
 have hb3 : (o.k == 3) = false := by simp; omega
 have hb4 : (o.k == 4) = false := by simp; omega
 have hb5 : (o.k == 5) = false := by simp; omega
 have hb6 : (o.k == 6) = false := by simp; omega
 have hb7 : (o.k == 7) = false := by simp; omega
 have HC := gh (hc _ W1 X0.sc X0.nok) X0
 clear h hn X0 ob hc hi ha hk
 go_enter Tryz.func11, Tryz.ntmps11
 go_wp2_with fail
 refine (HC.out (by trivial)).mono ?_
 rintro e w2 ⟨rfl, f', x2, hsb, hbd⟩
 have X2' : Hid _ := x2
 have HF : Hid _ := And.intro hsb hbd
 clear x2 hsb hbd HC p7 p6 o0 o1 o2 o3 o4 hW1
 unfold rsV
 go_wp2_with (refine sr X2'.out ?_)
 refine bj X2'.out ?_
 exact ej X2'.out HF.out
end Go.Proofs.YtkdkgdollmmcnaaGreat
