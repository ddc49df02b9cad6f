import Derived.Test.YtkdkgdollmmcnaaGreatWau
import Derived.Test.YtkdkgdollmmcnaaGreatWav
set_option maxHeartbeats 4000000
set_option maxRecDepth 100000
set_option linter.unusedVariables false
set_option linter.unusedSimpArgs false
namespace Go.Proofs.YtkdkgdollmmcnaaGreat
open Go.RowKit Go.Sort Go.Shelf
variable {M M' G N : Nat → Prop} {W W' w : World} {f f' : Fo} {X X' : Ss}
theorem SC.least (h : SC f N X W) (ho : f.ok = 2) (p l : Nat) (hk : Kept (fun k => k = f.xb) W W') (hb : W'.heap[f.xb]? = some (.cells #[uw p, uu l] 34 (0, 0))) : To f N X.act W f { X with cp := p, cll := l } W' := by
 have hxi : f.In X.act f.xb := .inr (.inr (.inr (.inr (.inl ⟨by omega, .inl rfl⟩))))
 have s : Stay (fun k => k = f.xb) (f.Ex N X.act) (f.Ex N X.act) W W' := ⟨hk, fun k e => by subst e; exact .inr hxi, fun k _ e => e⟩
 have hx := (h.bx.c ho).1
 have B : ∀ {b : Nat} {cs : Array Value} {ty : TypeId}, W.heap[b]? = some (.cells cs ty (0, 0)) → ty ≠ 34 → W'.heap[b]? = some (.cells cs ty (0, 0)) := fun {b cs ty} e h1 => by rw [hk.block b (lt_blk e) (ne_tag e hx h1)]; exact e
 have O : ∀ {base e size : Nat} {v : Value} {n : Nat} {cs : List Value}, W.ownsRow base e size v n cs → e ≠ 34 → W'.ownsRow base e size v n cs := fun h0 h1 => own_kept h0 hk fun k hv e => by
  subst e
  exact own_ne h0 hx h1 hv
 exact ⟨⟨B h.blk (by decide), fun a => ⟨B (h.tx a).1 (by decide), O (h.tx a).2 (by decide)⟩, O h.ra (by decide), O h.ro (by decide), h.ea, h.eo, ⟨fun a => B (h.bx.l a) (by decide), (fun a => absurd (a.symm.trans ho) (by decide)), fun a => ⟨hb, (h.bx.c a).2⟩, h.bx.le⟩, fun n a => B (h.gb n a) (by decide), h.gd, fun x hx => (h.ak x hx).stay s (SameF.refl f) rfl (fun _ _ => rfl), fun x hx => ⟨(h.lk x hx).1.stay s, (h.lk x hx).2⟩⟩, hk.mono (fun k e => by subst e; exact hxi), fun i hi => .inl hi⟩
theorem SC.left (h : SC f N X W) (ho : f.ok ≠ 0) (v : Int) (hk : Kept (fun k => k = f.lb) W W') (hb : W'.heap[f.lb]? = some (.cells #[iw v] 3 (0, 0))) : To f N X.act W { f with lv := v } { X with left := v } W' := by
 have hxi : f.In X.act f.lb := .inr (.inr (.inr (.inr (.inl ⟨ho, .inr (.inl rfl)⟩))))
 have s : Stay (fun k => k = f.lb) (f.Ex N X.act) (({ f with lv := v } : Fo).Ex N X.act) W W' := ⟨hk, fun k e => by subst e; exact .inr hxi, fun k _ e => e⟩
 have hx := h.bx.l ho
 have B : ∀ {b : Nat} {cs : Array Value} {ty : TypeId}, W.heap[b]? = some (.cells cs ty (0, 0)) → ty ≠ 3 → W'.heap[b]? = some (.cells cs ty (0, 0)) := fun {b cs ty} e h1 => by rw [hk.block b (lt_blk e) (ne_tag e hx h1)]; exact e
 have O : ∀ {base e size : Nat} {v : Value} {n : Nat} {cs : List Value}, W.ownsRow base e size v n cs → e ≠ 3 → W'.ownsRow base e size v n cs := fun h0 h1 => own_kept h0 hk fun k hv e => by
  subst e
  exact own_ne h0 hx h1 hv
 exact ⟨⟨B h.blk (by decide), fun a => ⟨B (h.tx a).1 (by decide), O (h.tx a).2 (by decide)⟩, O h.ra (by decide), O h.ro (by decide), h.ea, h.eo, ⟨fun _ => hb, fun a => ⟨B (h.bx.p a).1 (by decide), O (h.bx.p a).2.1 (by decide), (h.bx.p a).2.2.stay s⟩, fun a => ⟨B (h.bx.c a).1 (by decide), (h.bx.c a).2⟩, h.bx.le⟩, fun n a => by rw [hk.block _ (lt_blk (h.gb n a)) ((h.gd n a).1 ho)]; exact h.gb n a, h.gd, fun x hx => (h.ak x hx).stay s ⟨rfl, rfl, rfl, rfl, fun _ h => ⟨h, rfl⟩⟩ rfl (fun _ _ => rfl), fun x hx => ⟨(h.lk x hx).1.stay s, (h.lk x hx).2⟩⟩, hk.mono (fun k e => by subst e; exact hxi), fun i hi => .inl hi⟩
theorem max_T (a b c d : Nat) : Clk.maxL [((a : Int), (b : Int)), ((c : Int), (d : Int))] = (((maxT (a, b) (c, d)).1 : Int), ((maxT (a, b) (c, d)).2 : Int)) := by
 have h1 : Clk.maxF 0 0 (a : Int) (b : Int) = ((a : Int), (b : Int)) := by
  unfold Clk.maxF
  split
  ·rfl
  ·rename_i h
   rw [Bool.not_eq_true, Clk.lessB_not] at h
   have e1 : (a : Int) = 0 := by omega
   have e2 : (b : Int) = 0 := by omega
   rw [e1, e2]
 have h2 : Clk.maxL [((a : Int), (b : Int)), ((c : Int), (d : Int))] = Clk.maxF (a : Int) (b : Int) (c : Int) (d : Int) := by
  show Clk.maxF (Clk.maxF 0 0 (a : Int) (b : Int)).1 (Clk.maxF 0 0 (a : Int) (b : Int)).2 (c : Int) (d : Int) = _
  rw [h1]
 rw [h2]
 unfold Clk.maxF maxT
 by_cases h : a < c ∨ a = c ∧ b < d
 ·rw [if_pos h, if_pos ((Clk.lessB_iff ..).2 (by omega))]
 ·rw [if_neg h, if_neg (fun e => h (by have := (Clk.lessB_iff ..).1 e; omega))]
theorem max49 (a b c d bk : Nat) (ty : TypeId) (w : World) (h : w.heap[bk]? = some (.cells #[uw a, uu b, uw c, uu d] ty (0, 0))) : Calls Tryz.prog 49 #[.slice (some ⟨bk, 0, none⟩) 2 2] w fun e w' => e = .returned (.agg #[.int .u64 ((maxT (a, b) (c, d)).1 : Int), .int .u32 ((maxT (a, b) (c, d)).2 : Int)]) ∧ Below w.heap.size w w' := by
 have k := Clk.max23_row bk w (lt_blk h) 2 [((a : Int), (b : Int)), ((c : Int), (d : Int))] rfl (by decide) (fun i hi => by
  rcases i with _ | _ | i
  ·exact ⟨block_cell h rfl, block_cell h rfl⟩
  ·exact ⟨block_cell h rfl, block_cell h rfl⟩
  ·omega)
 rw [max_T] at k
 exact k
theorem com92b (u : Un f N X 9 w) (b : Nat) (hb : Fx (f.Ex N X.act) w b #[pz f.sb] 24) (r : Rp) (vp : Value) (ho : X.op.k = 6) (hs : X.stg = 1) (hr : r.k = 10) : Calls Tryz.prog 92 #[.agg (rpc r vp).toArray, pz f.xb, pz f.lb, pz b] w (Got f N X w (stopR X 40).1 (stopR X 40).2) := by
 obtain ⟨sf, hsf, ent, hcs⟩ := stop_fn f.sb X (by rw [ho]; decide)
 obtain ⟨W1, hW1⟩ := xj ((w.alloc (.cells (rpc r vp).toArray 49)).alloc (.cells RZ 41))
 have X0 := nq (Cx.start u.sc u.nk (fc hb nb)) hW1
 have k0 : W1.cell? ⟨w.heap.size, 0, none⟩ = some (iw r.k) := X0.out.bc
 have hr4 : (r.k == 4) = false := by rw [hr]; rfl
 have hr10 : (r.k == 10) = true := by rw [hr]; rfl
 have c1 : W1.cell? ⟨b, 0, none⟩ = some (pz f.sb) := X0.out.bc
 have p7 : W1.cell? ⟨f.sb, 7, none⟩ = some (.func (.func sf) #[pz f.sb] #[]) := block_cell X0.out.sc.blk (by rw [← hsf]; rfl)
 have HC := gh (hcs f _ W1 40 rfl ((u.of X0.out).le (by decide))) (X0.out.less (Lo' := []) nb)
 clear u X0 hcs hsf hb hr
 go_enter Tryz.func92, Tryz.ntmps92
 go_wp2_with fail
 refine (HC.out (by trivial)).mono ?_
 clear p7 k0 c1 hW1
 rintro e w2 ⟨rfl, f', x2, hsb, hbd⟩
 have X2 : Hid _ := x2
 have HF : Hid _ := And.intro hsb hbd
 clear x2 hsb hbd HC
 unfold rsV
 go_wp2_with (refine sr X2.out ?_)
 refine bj X2.out ?_
 exact ej X2.out HF.out
theorem com92c (u : Un f N X 9 w) (b : Nat) (hb : Fx (f.Ex N X.act) w b #[pz f.sb] 24) (r : Rp) (vp : Value) (ho : X.op.k = 6) (hs : X.stg = 1) (hr : r.k = 5) : Calls Tryz.prog 92 #[.agg (rpc r vp).toArray, pz f.xb, pz f.lb, pz b] w (Got f N X w (stopR X 12).1 (stopR X 12).2) := by
 obtain ⟨sf, hsf, ent, hcs⟩ := stop_fn f.sb X (by rw [ho]; decide)
 obtain ⟨W1, hW1⟩ := xj ((w.alloc (.cells (rpc r vp).toArray 49)).alloc (.cells RZ 41))
 have X0 := nq (Cx.start u.sc u.nk (fc hb nb)) hW1
 have k0 : W1.cell? ⟨w.heap.size, 0, none⟩ = some (iw r.k) := X0.out.bc
 have hr4 : (r.k == 4) = false := by rw [hr]; rfl
 have hr10 : (r.k == 10) = false := by rw [hr]; rfl
 have hr5 : (r.k == 5) = true := by rw [hr]; rfl
 have c1 : W1.cell? ⟨b, 0, none⟩ = some (pz f.sb) := X0.out.bc
 have p7 : W1.cell? ⟨f.sb, 7, none⟩ = some (.func (.func sf) #[pz f.sb] #[]) := block_cell X0.out.sc.blk (by rw [← hsf]; rfl)
 have HC := gh (hcs f _ W1 12 rfl ((u.of X0.out).le (by decide))) (X0.out.less (Lo' := []) nb)
 clear u X0 hcs hsf hb hr
 go_enter Tryz.func92, Tryz.ntmps92
 go_wp2_with fail
 refine (HC.out (by trivial)).mono ?_
 clear p7 k0 c1 hW1
 rintro e w2 ⟨rfl, f', x2, hsb, hbd⟩
 have X2 : Hid _ := x2
 have HF : Hid _ := And.intro hsb hbd
 clear x2 hsb hbd HC
 unfold rsV
 go_wp2_with (refine sr X2.out ?_)
 refine bj X2.out ?_
 exact ej X2.out HF.out
theorem com92d (u : Un f N X 9 w) (b : Nat) (hb : Fx (f.Ex N X.act) w b #[pz f.sb] 24) (r : Rp) (vp : Value) (ho : X.op.k = 6) (hs : X.stg = 1) (hr : r.k = 6) : Calls Tryz.prog 92 #[.agg (rpc r vp).toArray, pz f.xb, pz f.lb, pz b] w (Got f N X w (stopR X 12).1 (stopR X 12).2) := by
 obtain ⟨sf, hsf, ent, hcs⟩ := stop_fn f.sb X (by rw [ho]; decide)
 obtain ⟨W1, hW1⟩ := xj ((w.alloc (.cells (rpc r vp).toArray 49)).alloc (.cells RZ 41))
 have X0 := nq (Cx.start u.sc u.nk (fc hb nb)) hW1
 have k0 : W1.cell? ⟨w.heap.size, 0, none⟩ = some (iw r.k) := X0.out.bc
 have hr4 : (r.k == 4) = false := by rw [hr]; rfl
 have hr10 : (r.k == 10) = false := by rw [hr]; rfl
 have hr5 : (r.k == 5) = false := by rw [hr]; rfl
 have hr6 : (r.k == 6) = true := by rw [hr]; rfl
 have c1 : W1.cell? ⟨b, 0, none⟩ = some (pz f.sb) := X0.out.bc
 have p7 : W1.cell? ⟨f.sb, 7, none⟩ = some (.func (.func sf) #[pz f.sb] #[]) := block_cell X0.out.sc.blk (by rw [← hsf]; rfl)
 have HC := gh (hcs f _ W1 12 rfl ((u.of X0.out).le (by decide))) (X0.out.less (Lo' := []) nb)
 clear u X0 hcs hsf hb hr
 go_enter Tryz.func92, Tryz.ntmps92
 go_wp2_with fail
 refine (HC.out (by trivial)).mono ?_
 clear p7 k0 c1 hW1
 rintro e w2 ⟨rfl, f', x2, hsb, hbd⟩
 have X2 : Hid _ := x2
 have HF : Hid _ := And.intro hsb hbd
 clear x2 hsb hbd HC
 unfold rsV
 go_wp2_with (refine sr X2.out ?_)
 refine bj X2.out ?_
 exact ej X2.out HF.out
theorem com92a (u : Un f N X 9 w) (b : Nat) (hb : Fx (f.Ex N X.act) w b #[pz f.sb] 24) (r : Rp) (vp : Value) (ho : X.op.k = 6) (hs : X.stg = 1) (hl : 1 < X.left) (hl8 : X.left ≤ 8) (hr : r.k = 4) : Calls Tryz.prog 92 #[.agg (rpc r vp).toArray, pz f.xb, pz f.lb, pz b] w (Got f N X w { X with cp := (maxT (X.cp, X.cll) (r.ap, r.al)).1, cll := (maxT (X.cp, X.cll) (r.ap, r.al)).2, left := X.left - 1 } zS) := by
 obtain ⟨hok, hlv⟩ := u.bd.co ho hs
 obtain ⟨W1, hW1⟩ := xj ((w.alloc (.cells (rpc r vp).toArray 49)).alloc (.cells RZ 41))
 have X0 := nq (Cx.start u.sc u.nk (fc hb nb)) hW1
 have k0 : W1.cell? ⟨w.heap.size, 0, none⟩ = some (iw r.k) := X0.out.bc
 have hr4 : (r.k == 4) = true := by rw [hr]; rfl
 have k9 : W1.cell? ⟨w.heap.size, 9, none⟩ = some (uw r.ap) := X0.out.bc
 have k10 : W1.cell? ⟨w.heap.size, 10, none⟩ = some (uu r.al) := X0.out.bc
 have x0 : W1.cell? ⟨f.xb, 0, none⟩ = some (uw X.cp) := block_cell (X0.out.sc.bx.c hok).1 rfl
 have x1 : W1.cell? ⟨f.xb, 1, none⟩ = some (uu X.cll) := block_cell (X0.out.sc.bx.c hok).1 rfl
 obtain ⟨mp, hmp⟩ := xj (maxT (X.cp, X.cll) (r.ap, r.al)).1
 obtain ⟨ml, hml⟩ := xj (maxT (X.cp, X.cll) (r.ap, r.al)).2
 obtain ⟨L, hL⟩ := xj X.left
 obtain ⟨L1, hL1⟩ := xj (X.left - 1)
 rw [hmp, hml, hL1]
 have hLL : L - 1 = L1 := by rw [← hL, ← hL1]
 have hb1 : -9223372036854775808 ≤ L1 := by omega
 have hb2 : L1 < 9223372036854775808 := by omega
 have hg : 0 < L1 := by omega
 have HL : Hid (X.left = L) := hL
 clear hL hL1 hl
 have C49 : Hid (1 = 1 → Calls Tryz.prog 49 #[.slice (some ⟨W1.heap.size, 0, none⟩) 2 2] (W1.alloc (.cells #[uw X.cp, uu X.cll, uw r.ap, uu r.al] 34)) fun e w' => e = .returned (.agg #[uw mp, uu ml]) ∧ Cx (f.In X.act) N w f X ((w.heap.size, (rpc r vp).toArray, 49) :: [(b, #[pz f.sb], 24)]) [(w.heap.size + 1, RZ, 41)] w') := fun _ => by
  have k := max49 X.cp X.cll r.ap r.al W1.heap.size 34 _ (heap_alloc_new W1 _)
  rw [hmp, hml] at k
  exact k.mono fun e w' ⟨h1, h2⟩ => ⟨h1, (X0.out.on (al _)).on h2⟩
 have HU : Hid (Un f N X 9 w) := u
 have HO : Hid (X.op.k = 6 ∧ X.stg = 1) := ⟨ho, hs⟩
 have HK : Hid (f.ok = 2 ∧ f.lv = X.left) := ⟨hok, hlv⟩
 clear u hb hr ho hs hok hlv hmp hml X0
 go_enter Tryz.func92, Tryz.ntmps92
 go_wp2_with fail
 refine (C49.out (by trivial)).mono ?_
 rintro e w2 ⟨rfl, h2⟩
 have X2 : Hid _ := h2
 clear h2 C49 k0 k9 k10 x0 x1 hW1
 have y0 := (X2.out.sc.bx.c HK.out.1).1
 have a0 : w2.cell? ⟨f.xb, 0, none⟩ = some (uw X.cp) := block_cell y0 rfl
 have b0 : w2.frozen? ⟨f.xb, 0, none⟩ = false := block_frozen y0 0
 have y1 := block_set (j := 0) (uw mp) y0
 have kk := set_kept' w2 f.xb 0 (uw mp)
 obtain ⟨W2a, hW2a⟩ := xj (w2.setCell ⟨f.xb, 0, none⟩ (uw mp))
 rw [hW2a] at y1 kk
 have a1 : W2a.cell? ⟨f.xb, 1, none⟩ = some (uu X.cll) := block_cell y1 rfl
 have b1 : W2a.frozen? ⟨f.xb, 1, none⟩ = false := block_frozen y1 1
 have y2 : (W2a.setCell ⟨f.xb, 1, none⟩ (uu ml)).heap[f.xb]? = some (.cells #[uw mp, uu ml] 34 (0, 0)) := by
  have e := block_set (j := 1) (uu ml) y1
  simpa using e
 have X3 := X2.out.next (X2.out.sc.least HK.out.1 mp ml (kk.trans (set_kept' W2a f.xb 1 (uu ml)) (fun i e => .inl e)) y2)
 obtain ⟨W3, hW3⟩ := xj (W2a.setCell ⟨f.xb, 1, none⟩ (uu ml))
 rw [hW3] at X3
 clear y0 y1 y2 kk
 have l0 : W3.cell? ⟨f.lb, 0, none⟩ = some (iw L) := by
  rw [← HL.out, ← HK.out.2]
  exact block_cell (X3.sc.bx.l (by rw [HK.out.1]; decide)) rfl
 have l1 : W3.frozen? ⟨f.lb, 0, none⟩ = false := block_frozen (X3.sc.bx.l (by rw [HK.out.1]; decide)) 0
 have X4 : Hid (Cx (f.In X.act) N w { f with lv := L1 } { X with cp := mp, cll := ml, left := L1 } ((w.heap.size, (rpc r vp).toArray, 49) :: [(b, #[pz f.sb], 24)]) [(w.heap.size + 1, RZ, 41)] (W3.setCell ⟨f.lb, 0, none⟩ (iw L1))) := X3.next (X3.sc.left (by rw [HK.out.1]; decide) L1 (set_kept' W3 f.lb 0 _) (block_set (j := 0) (iw L1) (X3.sc.bx.l (by rw [HK.out.1]; decide))))
 obtain ⟨W4, hW4⟩ := xj (W3.setCell ⟨f.lb, 0, none⟩ (iw L1))
 rw [hW4] at X4
 have m0 : W4.cell? ⟨f.lb, 0, none⟩ = some (iw L1) := block_cell (X4.out.sc.bx.l (by rw [show ({ f with lv := L1 } : Fo).ok = 2 from HK.out.1]; decide)) rfl
 have hbd4 : Bd { f with lv := L1 } { X with cp := mp, cll := ml, left := L1 } := ⟨fun e => absurd (HO.out.1.symm.trans e) (by decide), fun _ _ => ⟨HK.out.1, rfl⟩, HU.out.bd.gs⟩
 clear X3
 have HB4 : Hid _ := hbd4
 have hr := rsc_all zS sy rfl
 clear hbd4
 go_wp2_with (first
  | (refine wpList_store_row rfl 41 _ _ rfl (w.heap.size + 1) (rsc zS sy).toArray rfl rfl 41 _ (X4.out.bm mc) (by kernel_rfl) rfl hr ?_))
 refine bj X4.out ?_
 exact ⟨rfl, _, (X4.out.poke (setRow_kept _ _ _) (setRow_at (X4.out.bm mc)) nb).to, rfl, HB4.out⟩
theorem com92e (u : Un f N X 9 w) (b : Nat) (hb : Fx (f.Ex N X.act) w b #[pz f.sb] 24) (r : Rp) (vp : Value) (ho : X.op.k = 6) (hs : X.stg = 1) (hl : X.left = 1) (hne : X.ws ≠ []) (hr : r.k = 4) : Calls Tryz.prog 92 #[.agg (rpc r vp).toArray, pz f.xb, pz f.lb, pz b] w (Got f N X w (decideF bt { { X with cp := (maxT (X.cp, X.cll) (r.ap, r.al)).1, cll := (maxT (X.cp, X.cll) (r.ap, r.al)).2, left := X.left - 1 } with stg := 2 }) zS) := by
 obtain ⟨hok, hlv⟩ := u.bd.co ho hs
 obtain ⟨W1, hW1⟩ := xj ((w.alloc (.cells (rpc r vp).toArray 49)).alloc (.cells RZ 41))
 have X0 := nq (Cx.start u.sc u.nk (fc hb nb)) hW1
 have k0 : W1.cell? ⟨w.heap.size, 0, none⟩ = some (iw r.k) := X0.out.bc
 have hr4 : (r.k == 4) = true := by rw [hr]; rfl
 have k9 : W1.cell? ⟨w.heap.size, 9, none⟩ = some (uw r.ap) := X0.out.bc
 have k10 : W1.cell? ⟨w.heap.size, 10, none⟩ = some (uu r.al) := X0.out.bc
 have x0 : W1.cell? ⟨f.xb, 0, none⟩ = some (uw X.cp) := block_cell (X0.out.sc.bx.c hok).1 rfl
 have x1 : W1.cell? ⟨f.xb, 1, none⟩ = some (uu X.cll) := block_cell (X0.out.sc.bx.c hok).1 rfl
 obtain ⟨mp, hmp⟩ := xj (maxT (X.cp, X.cll) (r.ap, r.al)).1
 obtain ⟨ml, hml⟩ := xj (maxT (X.cp, X.cll) (r.ap, r.al)).2
 obtain ⟨L, hL⟩ := xj X.left
 obtain ⟨L1, hL1⟩ := xj (X.left - 1)
 rw [hmp, hml, hL1]
 have hLL : L - 1 = L1 := by rw [← hL, ← hL1]
 have hb1 : -9223372036854775808 ≤ L1 := by omega
 have hb2 : L1 < 9223372036854775808 := by omega
 have hg : ¬ 0 < L1 := by omega
 have HL : Hid (X.left = L) := hL
 clear hL hL1 hl
 have C49 : Hid (1 = 1 → Calls Tryz.prog 49 #[.slice (some ⟨W1.heap.size, 0, none⟩) 2 2] (W1.alloc (.cells #[uw X.cp, uu X.cll, uw r.ap, uu r.al] 34)) fun e w' => e = .returned (.agg #[uw mp, uu ml]) ∧ Cx (f.In X.act) N w f X ((w.heap.size, (rpc r vp).toArray, 49) :: [(b, #[pz f.sb], 24)]) [(w.heap.size + 1, RZ, 41)] w') := fun _ => by
  have k := max49 X.cp X.cll r.ap r.al W1.heap.size 34 _ (heap_alloc_new W1 _)
  rw [hmp, hml] at k
  exact k.mono fun e w' ⟨h1, h2⟩ => ⟨h1, (X0.out.on (al _)).on h2⟩
 have HU : Hid (Un f N X 9 w) := u
 have HO : Hid (X.op.k = 6 ∧ X.stg = 1) := ⟨ho, hs⟩
 have HK : Hid (f.ok = 2 ∧ f.lv = X.left) := ⟨hok, hlv⟩
 clear u hb hr ho hs hok hlv hmp hml X0
 go_enter Tryz.func92, Tryz.ntmps92
 go_wp2_with fail
 refine (C49.out (by trivial)).mono ?_
 rintro e w2 ⟨rfl, h2⟩
 have X2 : Hid _ := h2
 clear h2 C49 k0 k9 k10 x0 x1 hW1
 have y0 := (X2.out.sc.bx.c HK.out.1).1
 have a0 : w2.cell? ⟨f.xb, 0, none⟩ = some (uw X.cp) := block_cell y0 rfl
 have b0 : w2.frozen? ⟨f.xb, 0, none⟩ = false := block_frozen y0 0
 have y1 := block_set (j := 0) (uw mp) y0
 have kk := set_kept' w2 f.xb 0 (uw mp)
 obtain ⟨W2a, hW2a⟩ := xj (w2.setCell ⟨f.xb, 0, none⟩ (uw mp))
 rw [hW2a] at y1 kk
 have a1 : W2a.cell? ⟨f.xb, 1, none⟩ = some (uu X.cll) := block_cell y1 rfl
 have b1 : W2a.frozen? ⟨f.xb, 1, none⟩ = false := block_frozen y1 1
 have y2 : (W2a.setCell ⟨f.xb, 1, none⟩ (uu ml)).heap[f.xb]? = some (.cells #[uw mp, uu ml] 34 (0, 0)) := by
  have e := block_set (j := 1) (uu ml) y1
  simpa using e
 have X3 := X2.out.next (X2.out.sc.least HK.out.1 mp ml (kk.trans (set_kept' W2a f.xb 1 (uu ml)) (fun i e => .inl e)) y2)
 obtain ⟨W3, hW3⟩ := xj (W2a.setCell ⟨f.xb, 1, none⟩ (uu ml))
 rw [hW3] at X3
 clear y0 y1 y2 kk
 have l0 : W3.cell? ⟨f.lb, 0, none⟩ = some (iw L) := by
  rw [← HL.out, ← HK.out.2]
  exact block_cell (X3.sc.bx.l (by rw [HK.out.1]; decide)) rfl
 have l1 : W3.frozen? ⟨f.lb, 0, none⟩ = false := block_frozen (X3.sc.bx.l (by rw [HK.out.1]; decide)) 0
 have X4 : Hid (Cx (f.In X.act) N w { f with lv := L1 } { X with cp := mp, cll := ml, left := L1 } ((w.heap.size, (rpc r vp).toArray, 49) :: [(b, #[pz f.sb], 24)]) [(w.heap.size + 1, RZ, 41)] (W3.setCell ⟨f.lb, 0, none⟩ (iw L1))) := X3.next (X3.sc.left (by rw [HK.out.1]; decide) L1 (set_kept' W3 f.lb 0 _) (block_set (j := 0) (iw L1) (X3.sc.bx.l (by rw [HK.out.1]; decide))))
 obtain ⟨W4, hW4⟩ := xj (W3.setCell ⟨f.lb, 0, none⟩ (iw L1))
 rw [hW4] at X4
 have m0 : W4.cell? ⟨f.lb, 0, none⟩ = some (iw L1) := block_cell (X4.out.sc.bx.l (by rw [show ({ f with lv := L1 } : Fo).ok = 2 from HK.out.1]; decide)) rfl
 have hbd4 : Bd { f with lv := L1 } { X with cp := mp, cll := ml, left := L1 } := ⟨fun e => absurd (HO.out.1.symm.trans e) (by decide), fun _ _ => ⟨HK.out.1, rfl⟩, HU.out.bd.gs⟩
 clear X3
 have u4 : Un { f with lv := L1 } (Nm N [(w.heap.size + 1, RZ, 41)]) { X with cp := mp, cll := ml, left := L1 } 9 W4 := ⟨X4.out.sc, X4.out.nok, hbd4, HU.out.act, HU.out.ns, HU.out.ws, ⟨HU.out.rm.sq, HU.out.rm.la, HU.out.rm.lo⟩⟩
 have C93 : Hid (1 = 1 → Calls Tryz.prog 93 #[pz f.sb, .agg #[uw mp, uu ml]] W4 fun e w' => e = .returned (rsV zS) ∧ ∃ f', Cx (f.In X.act) N w f' (decideF bt { { X with cp := mp, cll := ml, left := L1 } with stg := 2 }) [] [(w.heap.size + 1, RZ, 41)] w' ∧ f'.sb = f.sb ∧ Bd f' (decideF bt { { X with cp := mp, cll := ml, left := L1 } with stg := 2 })) := fun _ => (decide93 u4 HO.out.1 hne mp ml).mono fun e w' g => (by have k := Got.next (N0 := N) (X4.out.less (Lo' := []) nb) g; exact k)
 have z1 : W4.cell? ⟨b, 0, none⟩ = some (pz f.sb) := X4.out.bc
 have z2 : W4.cell? ⟨f.xb, 0, none⟩ = some (uw mp) := block_cell (X4.out.sc.bx.c (show ({ f with lv := L1 } : Fo).ok = 2 from HK.out.1)).1 rfl
 have z3 : W4.cell? ⟨f.xb, 1, none⟩ = some (uu ml) := block_cell (X4.out.sc.bx.c (show ({ f with lv := L1 } : Fo).ok = 2 from HK.out.1)).1 rfl
 clear hbd4 u4
 go_wp2_with fail
 refine (C93.out (by trivial)).mono ?_
 rintro e w5 ⟨rfl, f', x5, hsb, hbd⟩
 have X5 : Hid _ := x5
 have HF : Hid _ := And.intro hsb hbd
 clear x5 hsb hbd C93 hW3 hW4 m0 l0 l1 z1 z2 z3 a0 a1 b0 b1 hW2a
 unfold rsV
 go_wp2_with (refine sr X5.out ?_)
 refine bj X5.out ?_
 exact ej X5.out HF.out
theorem com92f (u : Un f N X 9 w) (b : Nat) (hb : Fx (f.Ex N X.act) w b #[pz f.sb] 24) (r : Rp) (vp : Value) (ho : X.op.k = 6) (hs : X.stg = 1) (hr4 : r.k ≠ 4) (hr10 : r.k ≠ 10) (hr5 : r.k ≠ 5) (hr6 : r.k ≠ 6) : Calls Tryz.prog 92 #[.agg (rpc r vp).toArray, pz f.xb, pz f.lb, pz b] w (Got f N X w (stopR X (wrongF r)).1 (stopR X (wrongF r)).2) := by
 obtain ⟨sf, hsf, ent, hcs⟩ := stop_fn f.sb X (by rw [ho]; decide)
 obtain ⟨W1, hW1⟩ := xj ((w.alloc (.cells (rpc r vp).toArray 49)).alloc (.cells RZ 41))
 have X0 := nq (Cx.start u.sc u.nk (fc hb nb)) hW1
 have k0 : W1.cell? ⟨w.heap.size, 0, none⟩ = some (iw r.k) := X0.out.bc
 have XD : Hid _ := X0.out.drew
 have HU : Hid (Un f N X 9 w) := u
 have h4b : (r.k == 4) = false := by simp [hr4]
 have h10b : (r.k == 10) = false := by simp [hr10]
 have h5b : (r.k == 5) = false := by simp [hr5]
 have h6b : (r.k == 6) = false := by simp [hr6]
 clear u hb hr4 hr10 hr5 hr6 ho hs X0
 go_enter Tryz.func92, Tryz.ntmps92
 go_upto_region 13 with fail
 have SN : Hid (∀ (f2 : Fo) (X2 : Ss) W, Cx (f.In X.act) N w f2 X2 ((w.heap.size, (rpc r vp).toArray, 49) :: [(b, #[pz f.sb], 24)]) [(w.heap.size + 1, RZ, 41)] W → W.cell? ⟨b, 0, none⟩ = some (pz f.sb) ∧ W.rangeAt w.heap.size 0 (rpc r vp)) := fun f2 X2 W c => ⟨c.bc, range_box (n := 14) (c.bx (b := w.heap.size) (cs := (rpc r vp).toArray) (ty := 49) (by simp))⟩
 have C82 : Hid (∀ W, Cx (f.In X.act) N w f X ((w.heap.size, (rpc r vp).toArray, 49) :: [(b, #[pz f.sb], 24)]) [(w.heap.size + 1, RZ, 41)] W → Calls Tryz.prog 82 #[.agg (rpc r vp).toArray] W fun e w' => e = .returned (iw (wrongF r)) ∧ Cx (f.In X.act) N w f X ((w.heap.size, (rpc r vp).toArray, 49) :: [(b, #[pz f.sb], 24)]) [(w.heap.size + 1, RZ, 41)] w') := fun W c => (errorOf82 r vp W).mono fun e w' ⟨h1, h2⟩ => ⟨h1, c.on h2⟩
 have CS : Hid (∀ W, Cx (f.In X.act) N w f X ((w.heap.size, (rpc r vp).toArray, 49) :: [(b, #[pz f.sb], 24)]) [(w.heap.size + 1, RZ, 41)] W → Calls Tryz.prog sf #[pz f.sb, iw (wrongF r)] W fun e w' => e = .returned (rsV (stopR X (wrongF r)).2) ∧ ∃ f', Cx (f.In X.act) N w f' (stopR X (wrongF r)).1 ((w.heap.size, (rpc r vp).toArray, 49) :: [(b, #[pz f.sb], 24)]) [(w.heap.size + 1, RZ, 41)] w' ∧ f'.sb = f.sb ∧ Bd f' (stopR X (wrongF r)).1) := fun W c => (hcs f _ W (wrongF r) rfl ((HU.out.of c).le (by decide))).mono fun e w' g => Got.next (N0 := N) c g
 have S7 : Hid (∀ W, Cx (f.In X.act) N w f X ((w.heap.size, (rpc r vp).toArray, 49) :: [(b, #[pz f.sb], 24)]) [(w.heap.size + 1, RZ, 41)] W → W.cell? ⟨f.sb, 7, none⟩ = some (.func (.func sf) #[pz f.sb] #[])) := fun W c => block_cell c.sc.blk (by rw [← hsf]; rfl)
 have p7 := S7.out _ XD.out
 generalize wrongF r = er at *
 refine wp_region_held_drew (S := (fun W => W.cell? ⟨b, 0, none⟩ = some (pz f.sb) ∧ W.rangeAt w.heap.size 0 (rpc r vp))) (by kernel_rfl) (SN.out _ _ _ XD.out) (fun hHeld => ?_)
 refine tw 0 ?_
 refine tq 1 ?_
 refine tq 2 ?_
 refine tl 4 49 w.heap.size 0 (rpc r vp) (fun W hW => hW.2) Tryz.underlying49 ?_
 refine wpAnyH_ready (rs := [3, 5]) (by kernel_rfl) (by simp) ?_
 refine AllReadyH.cons rfl (fun K hK => ?_) (AllReadyH.cons rfl (fun K hK => ?_) AllReadyH.nil)
 go_simp
 refine kj hK (SN.out _ _ _ XD.out) (fun hHeld => ?_)
 clear hK K
 refine rd 5 (fun K hK => ?_)
 go_simp
 refine (C82.out _ XD.out).mono ?_
 rintro e w3 ⟨rfl, h3⟩
 have X3 : Hid _ := h3
 clear h3
 go_wp2_with fail
 refine kj hK (SN.out _ _ _ X3.out) (fun hHeld => ?_)
 clear hK K
 rotate_left 1
 go_simp
 refine (C82.out _ XD.out).mono ?_
 rintro e w3 ⟨rfl, h3⟩
 have X3 : Hid _ := h3
 clear h3
 go_wp2_with fail
 refine kj hK (SN.out _ _ _ X3.out) (fun hHeld => ?_)
 clear hK K
 refine rd 3 (fun K hK => ?_)
 have z7 := S7.out _ X3.out
 go_simp
 refine kj hK (SN.out _ _ _ X3.out) (fun hHeld => ?_)
 clear hK K
 all_goals
  refine rd 6 (fun K hK => ?_)
  go_simp
  refine (CS.out _ X3.out).mono ?_
  rintro e w4 ⟨rfl, f', x4, hsb, hbd⟩
  have X4 : Hid _ := x4
  have HF : Hid _ := And.intro hsb hbd
  clear x4 hsb hbd
  unfold rsV
  go_wp2_with fail
  refine kj hK (SN.out _ _ _ X4.out) (fun hHeld => ?_)
  clear hK K
  refine rd 7 (fun K hK => ?_)
  rw [if_pos (by rfl)]
  refine wp_store_row 41 _ _ rfl (w.heap.size + 1) _ rfl rfl 41 _ (X4.out.bm mc) (by kernel_rfl) rfl (rsc_all _ _ rfl) ?_
  have X5 : Hid _ := X4.out.poke (setRow_kept _ _ (rsc (stopR X er).2 sy).toArray) (setRow_at (X4.out.bm mc)) nb
  have S5 : Hid _ := X5.out.less (Lo' := ((w.heap.size, (rpc r vp).toArray, 49) :: [(b, #[pz f.sb], 24)])) (fun _ e => e)
  refine kj hK ⟨X5.out.bc, range_box (n := 14) (X5.out.bx (b := w.heap.size) (cs := (rpc r vp).toArray) (ty := 49) (by simp))⟩ (fun hHeld => ?_)
  clear hK K
  refine wpAnyH_done (by kernel_rfl) ?_ _
  clear hHeld SN C82 CS S7 p7 X3
  go_wp2_with fail
  refine bodyPost_ret (res11 rfl rfl rfl (X5.out.bm mc)) rfl ?_
  exact ⟨rfl, _, X5.out.to, HF.out.1, HF.out.2⟩
theorem com92 (u : Un f N X 9 w) (b : Nat) (hb : Fx (f.Ex N X.act) w b #[pz f.sb] 24) (r : Rp) (vp : Value) (ho : X.op.k = 6) (hs : X.stg = 1) (hl : 1 ≤ X.left ∧ X.left ≤ 8) (hne : X.ws ≠ []) (a : Ak) (ha : a.q.k = 3) (hr : r.k ≠ 3) : Calls Tryz.prog 92 #[.agg (rpc r vp).toArray, pz f.xb, pz f.lb, pz b] w (Got f N X w (ansF bt X a r).1 (ansF bt X a r).2) := by
 have hst : X.op.k = 6 → X.stg = 1 := fun _ => hs
 have hG : ∀ e, stopR X e = givenF bt X e := fun e => by rw [stop_eq hst, stopF, if_pos ho]
 unfold ansF
 rw [if_neg hr, ha, if_neg (fun e => absurd e.1 (by decide)), if_neg (fun e => absurd e.1 (by decide))]
 by_cases h4 : r.k = 4
 ·rw [if_pos ⟨rfl, h4⟩]
  by_cases h1 : X.left = 1
  ·have c := com92e u b hb r vp ho hs h1 hne h4
   have e0 : X.left - 1 = 0 := by omega
   show Calls _ _ _ _ (Got f N X w (if X.left - 1 = 0 then _ else _) zS)
   rw [if_pos e0]
   exact c
  ·have c := com92a u b hb r vp ho hs (by omega) hl.2 h4
   have e0 : X.left - 1 ≠ 0 := by omega
   show Calls _ _ _ _ (Got f N X w (if X.left - 1 = 0 then _ else _) zS)
   rw [if_neg e0]
   exact c
 ·rw [if_neg (fun e => h4 e.2)]
  by_cases h10 : r.k = 10
  ·rw [if_pos ⟨rfl, h10⟩, ← hG]
   exact com92b u b hb r vp ho hs h10
  ·rw [if_neg (fun e => h10 e.2)]
   by_cases h5 : r.k = 5
   ·rw [if_pos ⟨rfl, .inl h5⟩, ← hG]
    exact com92c u b hb r vp ho hs h5
   ·by_cases h6 : r.k = 6
    ·rw [if_pos ⟨rfl, .inr h6⟩, ← hG]
     exact com92d u b hb r vp ho hs h6
    ·rw [if_neg (fun e => e.2.elim h5 h6), ← stop_eq hst]
     exact com92f u b hb r vp ho hs h4 h10 h5 h6
def GotP (f : Fo) (N : Nat → Prop) (X : Ss) (w : World) (X' : Ss) (r : Rs) (e : Ending) (w' : World) : Prop := ∃ vp f', e = .returned (.agg (rsc r vp).toArray) ∧ vp.oneCell' = true ∧ RwF (f'.Ex N X'.act) 2 vp r.ps.length (rowC prc r.ps) w' ∧ To f N X.act w f' X' w' ∧ f'.sb = f.sb ∧ Bd f' X'
theorem Got.p {X2 : Ss} {r : Rs} {e : Ending} (g : Got f N X w X2 r e W) (h : r.ps = []) : GotP f N X w X2 r e W := by
 obtain ⟨h1, f', h2, h3, h4⟩ := g
 exact ⟨_, f', h1, rfl, by rw [h]; exact RwF.nil _ _ _, h2, h3, h4⟩
theorem GotP.next {Lo Lm : List Bo} {X2 : Ss} {r : Rs} {e : Ending} (c : Cx M N w f X Lo Lm W) (g : GotP f (Nm N Lm) X W X2 r e W') : ∃ vp f', e = .returned (.agg (rsc r vp).toArray) ∧ vp.oneCell' = true ∧ RwF (f'.Ex (Nm N Lm) X2.act) 2 vp r.ps.length (rowC prc r.ps) W' ∧ Cx M N w f' X2 Lo Lm W' ∧ f'.sb = f.sb ∧ Bd f' X2 := by
 obtain ⟨vp, f', h1, h2, h3, h4, h5, h6⟩ := g
 exact ⟨vp, f', h1, h2, h3, c.next h4, h5, h6⟩
theorem try117a (u : Un f N X 9 w) (n : Nat) (q : Rq) (hk : 1 ≤ q.k ∧ q.k ≤ 3) (bs' bn bq bd : Nat) (hb : Bq (f.Ex N X.act) f w bs' bn bq bd n q) (r : Rp) (vp : Value) (ho : X.op.k ≠ 0) (hst : X.op.k = 6 → X.stg = 1) (hsp : q.k ≠ 3 → q.sp = X.sp ∧ q.sl = X.sl) (a : Ak) (haq : a.q = q) (hash : a.sh = n) (hr : r.k = 3) : Calls Tryz.prog 117 #[.agg (rpc r vp).toArray, pz bs', pz bn, pz bq, pz bd] w (Got f N X w (lockF bt X a r).1 (lockF bt X a r).2) := by
 obtain ⟨vw, vs, dv, h1, h2, h3, h4, h5, h6⟩ := hb.of
 obtain ⟨fn, fi, cp, rfl⟩ := h6.func hk
 obtain ⟨W1, hW1⟩ := xj ((w.alloc (.cells (rpc r vp).toArray 49)).alloc (.cells RZ 41))
 obtain ⟨qc, hqc⟩ := xj (rqc q vw vs).toArray
 rw [hqc] at h3
 have X0 := nq (Cx.start u.sc u.nk (fc h5 (fc h3 (fc h2 (fc h1 nb))))) hW1
 have k0 : W1.cell? ⟨w.heap.size, 0, none⟩ = some (iw r.k) := X0.out.bc
 have c1 : W1.cell? ⟨bs', 0, none⟩ = some (pz f.sb) := X0.out.bc
 have c2 : W1.cell? ⟨bn, 0, none⟩ = some (iw (n : Int)) := X0.out.bc
 have c3 : Hid (W1.heap[bq]? = some (.cells qc 53 (0, 0))) := X0.out.bx (by simp)
 have c4 : W1.cell? ⟨bd, 0, none⟩ = some (.func fn fi cp) := X0.out.bc
 have c5 : Hid (W1.heap[w.heap.size]? = some (.cells (rpc r vp).toArray 49 (0, 0))) := X0.out.bx (by simp)
 have hs : (Tryz.prog.info? 53).map (·.size) = some qc.size := by rw [← hqc]; kernel_rfl
 obtain ⟨rc, hrc⟩ := xj (rpc r vp).toArray
 have hs2 : (Tryz.prog.info? 49).map (·.size) = some rc.size := by rw [← hrc]; kernel_rfl
 have hr3 : (r.k == 3) = true := by rw [hr]; rfl
 have CU := gh (push118 (u.of X0.out) ho hst n q r _ _ vp fn fi cp qc rc hqc.symm hrc.symm hsp (h4.stay X0.out.stay0) (h6.stay X0.out.stay0 (SameF.refl f)) a haq hash) (X0.out.less (Lo' := []) nb)
 rw [hrc] at c5
 have HRC : Hid ((rpc r vp).toArray = rc) := hrc
 clear u hb h1 h2 h3 h4 h5 h6 hqc hr hrc hsp hst ho
 go_enter Tryz.func117, Tryz.ntmps117
 go_wp2_with (first
  | (refine wpList_load_row rfl 53 _ rfl bq rfl 53 _ (0, 0) _ c3.out Tryz.underlying53 rfl hs ?_)
  | (refine wpList_load_row rfl 49 _ rfl w.heap.size rfl 49 _ (0, 0) _ c5.out Tryz.underlying49 rfl hs2 ?_))
 refine (CU.out (by trivial)).mono ?_
 rintro e w2 ⟨rfl, f', x2, hsb, hbd⟩
 have X2 : Hid _ := x2
 have HF : Hid _ := And.intro hsb hbd
 clear x2 hsb hbd CU X0 hW1 k0 c1 c2 c3 c4 c5
 unfold rsV
 go_wp2_with (refine sr X2.out ?_)
 refine bj X2.out ?_
 exact ej X2.out HF.out
theorem ent81 : ∀ args w, (callFunc 81 args).run Tryz.prog w = .ok (.enter 81 args) w := enters_of Tryz.func81 (by kernel_rfl) rfl
theorem ent84 : ∀ args w, (callFunc 84 args).run Tryz.prog w = .ok (.enter 84 args) w := enters_of Tryz.func84 (by kernel_rfl) rfl
theorem ent92 : ∀ args w, (callFunc 92 args).run Tryz.prog w = .ok (.enter 92 args) w := enters_of Tryz.func92 (by kernel_rfl) rfl
theorem DoAt.fnum {k : Int} {dv : Value} (h : DoAt M f W k dv) (hk : 1 ≤ k ∧ k ≤ 3) : ∃ fnum cp, dv = .func (.func fnum) #[] cp ∧ ∀ args w, (callFunc fnum args).run Tryz.prog w = .ok (.enter fnum args) w := by
 obtain ⟨b, -, h1, h2, h3⟩ := h
 rcases (show k = 1 ∨ k = 2 ∨ k = 3 by omega) with e | e | e
 ·exact ⟨_, _, h1 e, ent81⟩
 ·exact ⟨_, _, h2 e, ent84⟩
 ·exact ⟨_, _, h3 e, ent92⟩
theorem RwF.poke {size : Nat} {v : Value} {n : Nat} {cs : List Value} {b : Nat} {act : Bool} {Lm : List Bo} (h : RwF (f.Ex (Nm N Lm) act) size v n cs W) (hs : 0 < size) (hk : Kept (fun k => k = b) W W') (hb : ∃ p ∈ Lm, p.1 = b) : RwF (f.Ex N act) size v n cs W' :=
 h.stay ⟨hk, fun k e => by subst e; exact .inl (.inr hb), fun k _ e => e.elim (fun e => .inl (.inl e)) .inr⟩ hs
theorem try117b (u : Un f N X 9 w) (n : Nat) (q : Rq) (hk : 1 ≤ q.k ∧ q.k ≤ 3) (bs' bn bq bd : Nat) (hb : Bq (f.Ex N X.act) f w bs' bn bq bd n q) (r : Rp) (vp : Value) (X2 : Ss) (r2 : Rs) (hdo : ∀ fnum cp N' W, Un f N' X 9 W → DoAt (f.Ex N' X.act) f W q.k (.func (.func fnum) #[] cp) → (∀ n cs, RwF (f.Ex N X.act) 2 vp n cs w → RwF (f.Ex N' X.act) 2 vp n cs W) → Calls Tryz.prog fnum (#[.agg (rpc r vp).toArray] ++ cp) W (GotP f N' X W X2 r2)) (hr : r.k ≠ 3) : Calls Tryz.prog 117 #[.agg (rpc r vp).toArray, pz bs', pz bn, pz bq, pz bd] w (GotP f N X w X2 r2) := by
 obtain ⟨vw, vs, dv, h1, h2, h3, h4, h5, h6⟩ := hb.of
 obtain ⟨fnum, cp, rfl, ent⟩ := h6.fnum hk
 obtain ⟨W1, hW1⟩ := xj ((w.alloc (.cells (rpc r vp).toArray 49)).alloc (.cells RZ 41))
 obtain ⟨qc, hqc⟩ := xj (rqc q vw vs).toArray
 rw [hqc] at h3
 have X0 := nq (Cx.start u.sc u.nk (fc h5 (fc h3 (fc h2 (fc h1 nb))))) hW1
 have k0 : W1.cell? ⟨w.heap.size, 0, none⟩ = some (iw r.k) := X0.out.bc
 have c1 : W1.cell? ⟨bs', 0, none⟩ = some (pz f.sb) := X0.out.bc
 have c2 : W1.cell? ⟨bn, 0, none⟩ = some (iw (n : Int)) := X0.out.bc
 have c3 : Hid (W1.heap[bq]? = some (.cells qc 53 (0, 0))) := X0.out.bx (by simp)
 have c4 : W1.cell? ⟨bd, 0, none⟩ = some (.func (.func fnum) #[] cp) := X0.out.bc
 have c5 : Hid (W1.heap[w.heap.size]? = some (.cells (rpc r vp).toArray 49 (0, 0))) := X0.out.bx (by simp)
 have hs : (Tryz.prog.info? 53).map (·.size) = some qc.size := by rw [← hqc]; kernel_rfl
 obtain ⟨rc, hrc⟩ := xj (rpc r vp).toArray
 have hs2 : (Tryz.prog.info? 49).map (·.size) = some rc.size := by rw [← hrc]; kernel_rfl
 have hr3 : (r.k == 3) = false := by simp [hr]
 have CU : Hid (1 = 1 → Calls Tryz.prog fnum (#[.agg rc] ++ cp) W1 fun e w' => ∃ vp f', e = .returned (.agg (rsc r2 vp).toArray) ∧ vp.oneCell' = true ∧ RwF (f'.Ex (Nm N [(w.heap.size + 1, RZ, 41)]) X2.act) 2 vp r2.ps.length (rowC prc r2.ps) w' ∧ Cx (f.In X.act) N w f' X2 [] [(w.heap.size + 1, RZ, 41)] w' ∧ f'.sb = f.sb ∧ Bd f' X2) := fun _ => by
  rw [← hrc]
  exact (hdo _ _ _ _ (u.of X0.out) (h6.stay X0.out.stay0 (SameF.refl f)) (fun n cs k => k.stay X0.out.stay0 (by decide))).mono fun e w' g => GotP.next (X0.out.less (Lo' := []) nb) g
 rw [hrc] at c5
 have HRC : Hid ((rpc r vp).toArray = rc) := hrc
 clear u hb h1 h2 h3 h4 h5 h6 hqc hr hrc hdo
 go_enter Tryz.func117, Tryz.ntmps117
 go_wp2_with (first
  | (refine wpList_load_row rfl 49 _ rfl w.heap.size rfl 49 _ (0, 0) _ c5.out Tryz.underlying49 rfl hs2 ?_))
 refine (CU.out (by trivial)).mono ?_
 rintro e w2 ⟨v2, f', rfl, ho2, hrw, x2, hsb, hbd⟩
 have X2 : Hid _ := x2
 have HF : Hid _ := And.intro hrw (And.intro hsb hbd)
 clear x2 hsb hbd hrw CU X0 hW1 k0 c1 c2 c3 c4 c5
 go_wp2_with (refine wpList_store_row rfl 41 _ _ rfl (w.heap.size + 1) _ rfl rfl 41 _ (X2.out.bm mc) (by kernel_rfl) rfl (rsc_all _ _ ho2) ?_)
 refine bj X2.out ?_
 exact ⟨v2, _, rfl, ho2, HF.out.1.poke (by decide) (setRow_kept _ _ _) ⟨_, List.mem_cons_self .., rfl⟩, (X2.out.poke (setRow_kept _ _ _) (setRow_at (X2.out.bm mc)) nb).to, HF.out.2.1, HF.out.2.2⟩
theorem eqlN (w : World) : (binOp .eql 74 .nilFunc .nilFunc).run Tryz.prog w = .ok (.bool true) w := by first | rfl | kernel_rfl | simp [go_sem]
theorem eqlF (fn : Fn) (fi cp : Array Value) (w : World) : (binOp .eql 74 (.func fn fi cp) .nilFunc).run Tryz.prog w = .ok (.bool false) w := by first | rfl | kernel_rfl | simp [go_sem]
theorem abort34 (h : SC f N X w) (hn : Nok N f X.act w) (b : Bd f X) : Calls Tryz.prog 34 #[pz f.sb] w (Got f N X w { X with act := false } (resF X 1)) := by
 have X0 : Hid (Cx (f.In X.act) N w f X [] [(w.heap.size, RZ, 41)] (w.alloc (.cells RZ 41))) := (Cx.start h hn nb).newm _ _
 obtain ⟨W1, hW1⟩ := xj (w.alloc (.cells RZ 41))
 rw [hW1] at X0
 obtain ⟨rb, hrb⟩ := xj w.heap.size
 rw [hrb] at X0
 have hz : (resF X 1).er = 0 := by unfold resF; split <;> rfl
 have C2 : Hid (1 = 1 → Calls Tryz.prog 74 #[pz f.sb, iw 1, iw 0] W1 fun r w' => r = .returned (rsV (resF X 1)) ∧ Cx (f.In X.act) N w f X [] [(rb, RZ, 41)] w') := fun _ => (told74 1 0 X0.out.sc).mono fun e w' ⟨h1, h2⟩ => ⟨by rw [h1, show ({ resF X 1 with er := 0 } : Rs) = resF X 1 from by rw [← hz]], X0.out.on h2⟩
 have HBd : Hid (Bd f { X with act := false }) := ⟨b.sc, b.co, b.gs⟩
 clear h X0 b hz
 go_enter Tryz.func34, Tryz.ntmps34
 go_wp2_with fail
 refine (C2.out (by trivial)).mono ?_
 rintro r w3 ⟨rfl, h3⟩
 have X4 : Hid (Cx (f.In X.act) N w f X [(w3.heap.size, (rsc (resF X 1) sy).toArray, 41)] [(rb, RZ, 41)] (w3.alloc (.cells (rsc (resF X 1) sy).toArray 41))) := h3.new _ _
 obtain ⟨W4, hW4⟩ := xj (w3.alloc (.cells (rsc (resF X 1) sy).toArray 41))
 rw [hW4] at X4
 have p6 : W4.cell? ⟨f.sb, 6, none⟩ = some (vtV f.tb X.act) := block_cell X4.out.sc.blk rfl
 have g6 : W4.frozen? ⟨f.sb, 6, none⟩ = false := block_frozen X4.out.sc.blk 6
 have X5 : Hid (Cx (f.In X.act) N w f { X with act := false } [(w3.heap.size, (rsc (resF X 1) sy).toArray, 41)] [(rb, RZ, 41)] (W4.setCell ⟨f.sb, 6, none⟩ (.pointer none))) := X4.out.next (X4.out.sc.end (set_kept' W4 f.sb 6 _) (block_set (j := 6) (.pointer none) X4.out.sc.blk))
 obtain ⟨W5, hW5⟩ := xj (W4.setCell ⟨f.sb, 6, none⟩ (.pointer none))
 rw [hW5] at X5
 generalize vtV f.tb X.act = v6 at *
 clear h3 C2 X4 hW1
 unfold rsV
 go_wp2_with (first
  | (refine wpList_store_row rfl 41 _ _ rfl w3.heap.size (rsc (resF X 1) sy).toArray rfl rfl 41 _ (heap_alloc_new w3 _) (by kernel_rfl) rfl (rsc_all _ _ rfl) ?_; rewrite [World.setRow_alloc_new, hW4])
  | (refine wpList_load_row rfl 41 _ rfl w3.heap.size rfl 41 _ (0, 0) _ (X5.out.bx mc) Tryz.underlying41 rfl (by kernel_rfl) ?_)
  | (refine wpList_store_row rfl 41 _ _ rfl rb _ rfl rfl 41 _ (X5.out.bm mc) (by kernel_rfl) rfl (rsc_all _ _ rfl) ?_))
 refine bj X5.out ?_
 exact ⟨rfl, _, (X5.out.poke (setRow_kept _ _ _) (setRow_at (X5.out.bm mc)) nb).to, rfl, HBd.out⟩
theorem give12a (h : SC f N X w) (hn : Nok N f X.act w) (b : Bd f X) (ho : X.op.k = 0) : Calls Tryz.prog 12 #[pz f.sb] w (Got f N X w X (badF X 41)) := by
 have X0 : Hid (Cx (f.In X.act) N w f X [] [(w.heap.size, RZ, 41)] (w.alloc (.cells RZ 41))) := (Cx.start h hn nb).newm _ _
 obtain ⟨W1, hW1⟩ := xj (w.alloc (.cells RZ 41))
 rw [hW1] at X0
 have C2 : Hid (1 = 1 → Calls Tryz.prog 28 #[pz f.sb, iw 41] W1 fun r w' => r = .returned (rsV (badF X 41)) ∧ Cx (f.In X.act) N w f X [] [(w.heap.size, RZ, 41)] w') := fun _ => (refuse28 41 X0.out.sc).mono fun e w' ⟨h1, h2⟩ => ⟨h1, X0.out.on h2⟩
 have p7 : W1.cell? ⟨f.sb, 7, none⟩ = some .nilFunc := block_cell X0.out.sc.blk (by simp [sbA, vsV, ho])
 have HBd : Hid (Bd f X) := b
 clear h X0 b ho
 have eN := eqlN W1
 go_enter Tryz.func12, Tryz.ntmps12
 go_wp2_with fail
 refine (C2.out (by trivial)).mono ?_
 rintro r w3 ⟨rfl, h3⟩
 have X3 : Hid _ := h3
 clear h3 C2 p7 hW1
 unfold rsV
 go_wp2_with (refine wpList_store_row rfl 41 _ _ rfl w.heap.size _ rfl rfl 41 _ (X3.out.bm mc) (by kernel_rfl) rfl (rsc_all _ _ rfl) ?_)
 refine bj X3.out ?_
 exact ⟨rfl, _, (X3.out.poke (setRow_kept _ _ _) (setRow_at (X3.out.bm mc)) nb).to, rfl, HBd.out⟩
theorem give12b (u : Un f N X 9 w) (ho : X.op.k ≠ 0) : Calls Tryz.prog 12 #[pz f.sb] w (Got f N X w (stopR X 42).1 (stopR X 42).2) := by
 obtain ⟨sf, hsf, ent, hcs⟩ := stop_fn f.sb X ho
 have X0 : Hid (Cx (f.In X.act) N w f X [] [(w.heap.size, RZ, 41)] (w.alloc (.cells RZ 41))) := (Cx.start u.sc u.nk nb).newm _ _
 obtain ⟨W1, hW1⟩ := xj (w.alloc (.cells RZ 41))
 rw [hW1] at X0
 have HC := gh (hcs f _ W1 42 rfl ((u.of X0.out).le (by decide))) X0.out
 have p7 : W1.cell? ⟨f.sb, 7, none⟩ = some (.func (.func sf) #[pz f.sb] #[]) := block_cell X0.out.sc.blk (by rw [← hsf]; rfl)
 clear u X0 hcs hsf ho
 have eF := eqlF (.func sf) #[pz f.sb] #[] W1
 go_enter Tryz.func12, Tryz.ntmps12
 go_wp2_with fail
 refine (HC.out (by trivial)).mono ?_
 rintro e w2 ⟨rfl, f', x2, hsb, hbd⟩
 have X2 : Hid _ := x2
 have HF : Hid _ := And.intro hsb hbd
 clear x2 hsb hbd HC p7 hW1
 unfold rsV
 go_wp2_with (refine wpList_store_row rfl 41 _ _ rfl w.heap.size _ rfl rfl 41 _ (X2.out.bm mc) (by kernel_rfl) rfl (rsc_all _ _ rfl) ?_)
 refine bj X2.out ?_
 exact ej X2.out HF.out
theorem give_eq (ho : X.op.k ≠ 0) : giveF bt X = stopR X 42 := by
 unfold giveF stopR
 rw [if_neg ho]
 by_cases h6 : X.op.k = 6
 ·rw [if_neg (fun e => e h6), if_pos h6]
 ·rw [if_pos h6, if_neg h6]
theorem give12 (h : SC f N X w) (hn : Nok N f X.act w) (b : Bd f X) (hu : X.op.k ≠ 0 → Un f N X 9 w) : Calls Tryz.prog 12 #[pz f.sb] w (Got f N X w (giveF bt X).1 (giveF bt X).2) := by
 by_cases ho : X.op.k = 0
 ·have e : giveF bt X = (X, badF X 41) := by unfold giveF; rw [if_pos ho]
  rw [e]
  exact give12a h hn b ho
 ·rw [give_eq ho]
  exact give12b (hu ho) ho
theorem quiet14 (h : SC f N X w) : Calls Tryz.prog 14 #[pz f.sb] w fun e w' => e = .returned (.bool (X.asks.length == 0)) ∧ Below w.heap.size w w' := by
 obtain ⟨ao, cap, hv, -, -, -, -⟩ := rw_own h.ra
 have p8 : w.cell? ⟨f.sb, 8, none⟩ = some (.slice ao f.la.length cap) := by rw [← hv]; exact block_cell h.blk rfl
 have hl : X.asks.length = f.la.length := by rw [h.ea, List.length_map]
 rw [hl]
 obtain ⟨n, hn⟩ := xj f.la.length
 rw [hn] at p8 ⊢
 have e : (((n : Int) == 0) : Bool) = (n == 0) := by rw [Bool.eq_iff_iff]; simp
 clear h hv hl hn
 go_enter Tryz.func14, Tryz.ntmps14
 go_wp2_with fail
 go_ret
 exact ⟨by rw [← e]; rfl, (Below.refl _ _)⟩
end Go.Proofs.YtkdkgdollmmcnaaGreat
