import Derived.Test.YtajjnmdomabmkaaGreatWba
set_option maxHeartbeats 4000000
set_option maxRecDepth 100000
set_option linter.unusedVariables false
namespace Go.Proofs.YtajjnmdomabmkaaGreat.Lat
open Go.RowKit
theorem below_of {a b : Nat} {w w' : World} (e : a = b) (h : Below a w w') : Below b w w' := e ▸ h
theorem bx6 {W : World} {b : Nat} {a0 a1 a2 a3 a4 a5 : Value} (v : Tm) (h0 : W.heap[b]? = some (.cells #[a0, a1, a2, a3, a4, a5] 267 (0, 0))) : ((((((W.setCell ⟨b, 0, none⟩ (.int .u64 v.sp)).setCell ⟨b, 1, none⟩ (.int .u32 v.sl)).setCell ⟨b, 2, none⟩ (.int .u64 v.mp)).setCell ⟨b, 3, none⟩ (.int .u32 v.ml)).setCell ⟨b, 4, none⟩ (.string (bs v.prim))).setCell ⟨b, 5, none⟩ (.slice v.sv.1 v.sv.2.1 v.sv.2.2)).heap[b]? = some (.cells #[.int .u64 v.sp, .int .u32 v.sl, .int .u64 v.mp, .int .u32 v.ml, .string (bs v.prim), .slice v.sv.1 v.sv.2.1 v.sv.2.2] 267 (0, 0)) := by
 have h1 : (W.setCell ⟨b, 0, none⟩ (.int .u64 v.sp)).heap[b]? = some (.cells #[.int .u64 v.sp, a1, a2, a3, a4, a5] 267 (0, 0)) := block_set _ h0
 generalize W.setCell ⟨b, 0, none⟩ (.int .u64 v.sp) = W1 at *
 have h2 : (W1.setCell ⟨b, 1, none⟩ (.int .u32 v.sl)).heap[b]? = some (.cells #[.int .u64 v.sp, .int .u32 v.sl, a2, a3, a4, a5] 267 (0, 0)) := block_set _ h1
 generalize W1.setCell ⟨b, 1, none⟩ (.int .u32 v.sl) = W2 at *
 have h3 : (W2.setCell ⟨b, 2, none⟩ (.int .u64 v.mp)).heap[b]? = some (.cells #[.int .u64 v.sp, .int .u32 v.sl, .int .u64 v.mp, a3, a4, a5] 267 (0, 0)) := block_set _ h2
 generalize W2.setCell ⟨b, 2, none⟩ (.int .u64 v.mp) = W3 at *
 have h4 : (W3.setCell ⟨b, 3, none⟩ (.int .u32 v.ml)).heap[b]? = some (.cells #[.int .u64 v.sp, .int .u32 v.sl, .int .u64 v.mp, .int .u32 v.ml, a4, a5] 267 (0, 0)) := block_set _ h3
 generalize W3.setCell ⟨b, 3, none⟩ (.int .u32 v.ml) = W4 at *
 have h5 : (W4.setCell ⟨b, 4, none⟩ (.string (bs v.prim))).heap[b]? = some (.cells #[.int .u64 v.sp, .int .u32 v.sl, .int .u64 v.mp, .int .u32 v.ml, .string (bs v.prim), a5] 267 (0, 0)) := block_set _ h4
 generalize W4.setCell ⟨b, 4, none⟩ (.string (bs v.prim)) = W5 at *
 have h6 : (W5.setCell ⟨b, 5, none⟩ (.slice v.sv.1 v.sv.2.1 v.sv.2.2)).heap[b]? = some (.cells #[.int .u64 v.sp, .int .u32 v.sl, .int .u64 v.mp, .int .u32 v.ml, .string (bs v.prim), .slice v.sv.1 v.sv.2.1 v.sv.2.2] 267 (0, 0)) := block_set _ h5
 exact h6
theorem six_kept (W : World) (b : Nat) (v : Tm) : Kept (fun i => i = b) W ((((((W.setCell ⟨b, 0, none⟩ (.int .u64 v.sp)).setCell ⟨b, 1, none⟩ (.int .u32 v.sl)).setCell ⟨b, 2, none⟩ (.int .u64 v.mp)).setCell ⟨b, 3, none⟩ (.int .u32 v.ml)).setCell ⟨b, 4, none⟩ (.string (bs v.prim))).setCell ⟨b, 5, none⟩ (.slice v.sv.1 v.sv.2.1 v.sv.2.2)) := by
 have t : ∀ {w1 w2 w3 : World}, Kept (fun i => i = b) w1 w2 → Kept (fun i => i = b) w2 w3 → Kept (fun i => i = b) w1 w3 := fun h k => h.trans k (fun i e => .inl e)
 exact t (t (t (t (t (set_kept' _ _ _ _) (set_kept' _ _ _ _)) (set_kept' _ _ _ _)) (set_kept' _ _ _ _)) (set_kept' _ _ _ _)) (set_kept' _ _ _ _)
theorem bx5_kept (W : World) (b : Nat) (v : Cv) : Kept (fun i => i = b) W (((((W.setCell ⟨b, 0, none⟩ (.int .u32 v.1.1)).setCell ⟨b, 1, none⟩ (.int .u32 v.1.2)).setCell ⟨b, 2, none⟩ (.string (bs v.2.key))).setCell ⟨b, 3, none⟩ (.string (bs v.2.val))).setCell ⟨b, 4, none⟩ (.bool v.2.dead)) := by
 have t : ∀ {w1 w2 w3 : World}, Kept (fun i => i = b) w1 w2 → Kept (fun i => i = b) w2 w3 → Kept (fun i => i = b) w1 w3 := fun h k => h.trans k (fun i e => .inl e)
 exact t (t (t (t (set_kept' _ _ _ _) (set_kept' _ _ _ _)) (set_kept' _ _ _ _)) (set_kept' _ _ _ _)) (set_kept' _ _ _ _)
structure Ob (w : World) (bx bc : Nat) (v : Cv) (W : World) : Prop where
 bel : Below w.heap.size w W
 b0 : W.heap[bx]? = some (.cells #[.int .u32 0, .int .u32 0, .int .u64 0, .int .u32 0, .int .u64 0, .int .u32 0, .string ⟨#[]⟩, .string ⟨#[]⟩, .string ⟨#[]⟩, .bool false] 146 (0, 0))
 b1 : W.heap[bc]? = some (.cells #[.int .u32 v.1.1, .int .u32 v.1.2, .string (bs v.2.key), .string (bs v.2.val), .bool v.2.dead] 168 (0, 0))
 low : w.heap.size ≤ bx
 ne : bx ≠ bc
theorem Ob.kept {w W W' : World} {bx bc : Nat} {v : Cv} {F : Nat → Prop} (h : Ob w bx bc v W) (hk : Kept F W W') (h0 : ¬ F bx) (h1 : ¬ F bc) (hF : ∀ k, F k → w.heap.size ≤ k) : Ob w bx bc v W' :=
 ⟨h.bel.trans (hk.below h.bel.size hF), by rw [hk.block _ (Array.getElem?_eq_some_iff.1 h.b0).1 h0]; exact h.b0, by rw [hk.block _ (Array.getElem?_eq_some_iff.1 h.b1).1 h1]; exact h.b1, h.low, h.ne⟩
theorem Ob.on {w W W' : World} {bx bc : Nat} {v : Cv} (h : Ob w bx bc v W) (hb : Below W.heap.size W W') : Ob w bx bc v W' := h.kept (Kept.of_below (F := fun _ => False) hb) (fun h => h) (fun h => h) (fun _ h => h.elim)
theorem ob_new {w W1 Wz : World} {bx : Nat} (v : Cv) (hb : Below w.heap.size w W1) (h0 : W1.heap[bx]? = some (.cells #[.int .u32 0, .int .u32 0, .int .u64 0, .int .u32 0, .int .u64 0, .int .u32 0, .string ⟨#[]⟩, .string ⟨#[]⟩, .string ⟨#[]⟩, .bool false] 146 (0, 0))) (hl : w.heap.size ≤ bx) (hz : W1.alloc (.cells #[.int .u32 0, .int .u32 0, .string ⟨#[]⟩, .string ⟨#[]⟩, .bool false] 168) = Wz) : Ob w bx W1.heap.size v (((((Wz.setCell ⟨W1.heap.size, 0, none⟩ (.int .u32 v.1.1)).setCell ⟨W1.heap.size, 1, none⟩ (.int .u32 v.1.2)).setCell ⟨W1.heap.size, 2, none⟩ (.string (bs v.2.key))).setCell ⟨W1.heap.size, 3, none⟩ (.string (bs v.2.val))).setCell ⟨W1.heap.size, 4, none⟩ (.bool v.2.dead)) := by
 have hlt := (Array.getElem?_eq_some_iff.1 h0).1
 have hx : Wz.heap[W1.heap.size]? = some (.cells #[.int .u32 0, .int .u32 0, .string ⟨#[]⟩, .string ⟨#[]⟩, .bool false] 168 (0, 0)) := by rw [← hz]; exact heap_alloc_new W1 _
 have h1 : Wz.heap[bx]? = some (.cells #[.int .u32 0, .int .u32 0, .int .u64 0, .int .u32 0, .int .u64 0, .int .u32 0, .string ⟨#[]⟩, .string ⟨#[]⟩, .string ⟨#[]⟩, .bool false] 146 (0, 0)) := by rw [← hz, (al (W := W1) _).block _ hlt]; exact h0
 have hbz : Below w.heap.size w Wz := by rw [← hz]; exact hb.alloc hb.size _
 have e := bx5 v hx
 have hk := bx5_kept Wz W1.heap.size v
 have hbl := bx5_below v hbz hb.size
 refine ⟨hbl, ?_, e, hl, Nat.ne_of_lt hlt⟩
 rw [hk.block bx (Array.getElem?_eq_some_iff.1 h1).1 (Nat.ne_of_lt hlt)]
 exact h1
theorem ob_terms {w W2 W3 : World} {bx bc : Nat} {v : Cv} (tm : Tm) (h : Ob w bx bc v W2) (hz : W2.alloc (.cells #[.int .u64 0, .int .u32 0, .int .u64 0, .int .u32 0, .string ⟨#[]⟩, .slice none 0 0] 267) = W3) : Ob w bx bc v ((((((W3.setCell ⟨W2.heap.size, 0, none⟩ (.int .u64 tm.sp)).setCell ⟨W2.heap.size, 1, none⟩ (.int .u32 tm.sl)).setCell ⟨W2.heap.size, 2, none⟩ (.int .u64 tm.mp)).setCell ⟨W2.heap.size, 3, none⟩ (.int .u32 tm.ml)).setCell ⟨W2.heap.size, 4, none⟩ (.string (bs tm.prim))).setCell ⟨W2.heap.size, 5, none⟩ (.slice tm.sv.1 tm.sv.2.1 tm.sv.2.2)).drew ∧ ((((((W3.setCell ⟨W2.heap.size, 0, none⟩ (.int .u64 tm.sp)).setCell ⟨W2.heap.size, 1, none⟩ (.int .u32 tm.sl)).setCell ⟨W2.heap.size, 2, none⟩ (.int .u64 tm.mp)).setCell ⟨W2.heap.size, 3, none⟩ (.int .u32 tm.ml)).setCell ⟨W2.heap.size, 4, none⟩ (.string (bs tm.prim))).setCell ⟨W2.heap.size, 5, none⟩ (.slice tm.sv.1 tm.sv.2.1 tm.sv.2.2)).drew.heap[W2.heap.size]? = some (.cells #[.int .u64 tm.sp, .int .u32 tm.sl, .int .u64 tm.mp, .int .u32 tm.ml, .string (bs tm.prim), .slice tm.sv.1 tm.sv.2.1 tm.sv.2.2] 267 (0, 0)) := by
 have h3 : Ob w bx bc v W3 := by rw [← hz]; exact h.on (al _)
 have hx : W3.heap[W2.heap.size]? = some (.cells #[.int .u64 0, .int .u32 0, .int .u64 0, .int .u32 0, .string ⟨#[]⟩, .slice none 0 0] 267 (0, 0)) := by rw [← hz]; exact heap_alloc_new W2 _
 have hk := six_kept W3 W2.heap.size tm
 have e := bx6 tm hx
 have n0 := (Array.getElem?_eq_some_iff.1 h.b0).1
 have n1 := (Array.getElem?_eq_some_iff.1 h.b1).1
 have r := h3.kept hk (fun e => by omega) (fun e => by omega) (fun k e => by rw [e]; exact h.bel.size)
 generalize ((((((W3.setCell ⟨W2.heap.size, 0, none⟩ (.int .u64 tm.sp)).setCell ⟨W2.heap.size, 1, none⟩ (.int .u32 tm.sl)).setCell ⟨W2.heap.size, 2, none⟩ (.int .u64 tm.mp)).setCell ⟨W2.heap.size, 3, none⟩ (.int .u32 tm.ml)).setCell ⟨W2.heap.size, 4, none⟩ (.string (bs tm.prim))).setCell ⟨W2.heap.size, 5, none⟩ (.slice tm.sv.1 tm.sv.2.1 tm.sv.2.2)) = X at *
 exact ⟨⟨r.bel.drew, r.b0, r.b1, r.low, r.ne⟩, e⟩
theorem of19 {B p pm hb : Nat} {t : Tr} {m : Mm} {T : Tb} {w : World} (k : List UInt8) (h : Tx B p pm hb t m w) (hr : Rel t.toL m T) : Calls Tryz.prog 212 #[.pointer (some ⟨p, 0, none⟩), .string (bs k)] w fun e w' => e = .returned (ofV k (getF k T)) ∧ Below w.heap.size w w' := by
 have hgT := hr.get k
 obtain ⟨W0, hW0⟩ : ∃ W0, w.alloc (.cells #[.int .u32 0, .int .u32 0, .int .u64 0, .int .u32 0, .int .u64 0, .int .u32 0, .string ⟨#[]⟩, .string ⟨#[]⟩, .string ⟨#[]⟩, .bool false] 146) = W0 := ⟨_, rfl⟩
 have hb0 : Below w.heap.size w W0 := by rw [← hW0]; exact al _
 have hx0 : W0.heap[w.heap.size]? = some (.cells #[.int .u32 0, .int .u32 0, .int .u64 0, .int .u32 0, .int .u64 0, .int .u32 0, .string ⟨#[]⟩, .string ⟨#[]⟩, .string ⟨#[]⟩, .bool false] 146 (0, 0)) := by rw [← hW0]; exact heap_alloc_new w _
 have h0 := h.on hb0
 obtain ⟨c0, -⟩ := h0.cells
 have CG : Hid (1 = 1 → Calls Tryz.prog 250 #[.pointer (some ⟨pm, 0, none⟩), .string (bs k)] W0 fun e w' => e = .returned (getV (getF k t.toL)) ∧ Below W0.heap.size W0 w') := fun _ => get13 k h0.map
 obtain ⟨bx, hbx⟩ : ∃ bx, w.heap.size = bx := ⟨_, rfl⟩
 have HLe : Hid (w.heap.size ≤ bx) := Nat.le_of_eq hbx
 have HX : Hid (∀ W1, Below W0.heap.size W0 W1 → Tx B p pm hb t m W1 ∧ Below w.heap.size w W1 ∧ W1.heap[bx]? = some (.cells #[.int .u32 0, .int .u32 0, .int .u64 0, .int .u32 0, .int .u64 0, .int .u32 0, .string ⟨#[]⟩, .string ⟨#[]⟩, .string ⟨#[]⟩, .bool false] 146 (0, 0))) := fun W1 hb1 =>
  ⟨h0.on hb1, hb0.trans (hb1.mono hb0.size), by rw [← hbx, hb1.block _ (Array.getElem?_eq_some_iff.1 hx0).1]; exact hx0⟩
 clear h h0 hb0 hx0
 cases hg : getF k t.toL with
 | none =>
  rw [hg] at hgT CG
  rw [hgT]
  simp only [getV, zc, show bs [] = ⟨#[]⟩ from rfl] at CG
  simp only [Option.map_none]
  clear hr hgT hg
  go_enter Tryz.func212, Tryz.ntmps212
  go_wp2_with fail
  refine (CG.out (by trivial)).mono ?_
  rintro e w1 ⟨rfl, hb1⟩
  obtain ⟨Wz, hWz⟩ : ∃ Wz, w1.alloc (.cells #[.int .u32 0, .int .u32 0, .string ⟨#[]⟩, .string ⟨#[]⟩, .bool false] 168) = Wz := ⟨_, rfl⟩
  have HO : Hid _ := ob_new zc (HX.out w1 hb1).2.1 (HX.out w1 hb1).2.2 HLe.out hWz
  have hxz : Wz.heap[w1.heap.size]? = some (.cells #[.int .u32 0, .int .u32 0, .string ⟨#[]⟩, .string ⟨#[]⟩, .bool false] 168 (0, 0)) := by rw [← hWz]; exact heap_alloc_new w1 _
  clear hb1 CG HX
  simp only [zc, show bs [] = ⟨#[]⟩ from rfl] at HO
  obtain ⟨bc, hbc⟩ : ∃ bc, w1.heap.size = bc := ⟨_, rfl⟩
  rw [hbc] at HO hxz
  have u0 := block_cell (j := 0) hxz rfl
  have u1 := block_cell (j := 1) hxz rfl
  have u2 := block_cell (j := 2) hxz rfl
  have u3 := block_cell (j := 3) hxz rfl
  have u4 := block_cell (j := 4) hxz rfl
  have uf0 : Wz.frozen? ⟨bc, 0, none⟩ = false := block_frozen hxz 0
  have uf1 : Wz.frozen? ⟨bc, 1, none⟩ = false := block_frozen hxz 1
  have uf2 : Wz.frozen? ⟨bc, 2, none⟩ = false := block_frozen hxz 2
  have uf3 : Wz.frozen? ⟨bc, 3, none⟩ = false := block_frozen hxz 3
  have uf4 : Wz.frozen? ⟨bc, 4, none⟩ = false := block_frozen hxz 4
  obtain ⟨W2, hW2⟩ : ∃ W2, ((((Wz.setCell ⟨bc, 0, none⟩ (.int .u32 0)).setCell ⟨bc, 1, none⟩ (.int .u32 0)).setCell ⟨bc, 2, none⟩ (.string ⟨#[]⟩)).setCell ⟨bc, 3, none⟩ (.string ⟨#[]⟩)).setCell ⟨bc, 4, none⟩ (.bool false) = W2 := ⟨_, rfl⟩
  rw [hW2] at HO
  have HB0 := HO.out.b0
  clear hxz
  have z0 := block_cell (j := 0) HB0 rfl
  have z1 := block_cell (j := 1) HB0 rfl
  have z2 := block_cell (j := 2) HB0 rfl
  have z3 := block_cell (j := 3) HB0 rfl
  have z4 := block_cell (j := 4) HB0 rfl
  have z5 := block_cell (j := 5) HB0 rfl
  have z6 := block_cell (j := 6) HB0 rfl
  have z7 := block_cell (j := 7) HB0 rfl
  have z8 := block_cell (j := 8) HB0 rfl
  have z9 := block_cell (j := 9) HB0 rfl
  have f0 : W2.frozen? ⟨bx, 0, none⟩ = false := block_frozen HB0 0
  have f1 : W2.frozen? ⟨bx, 1, none⟩ = false := block_frozen HB0 1
  have f2 : W2.frozen? ⟨bx, 2, none⟩ = false := block_frozen HB0 2
  have f3 : W2.frozen? ⟨bx, 3, none⟩ = false := block_frozen HB0 3
  have f4 : W2.frozen? ⟨bx, 4, none⟩ = false := block_frozen HB0 4
  have f5 : W2.frozen? ⟨bx, 5, none⟩ = false := block_frozen HB0 5
  have f6 : W2.frozen? ⟨bx, 6, none⟩ = false := block_frozen HB0 6
  have f7 : W2.frozen? ⟨bx, 7, none⟩ = false := block_frozen HB0 7
  have f8 : W2.frozen? ⟨bx, 8, none⟩ = false := block_frozen HB0 8
  have f9 : W2.frozen? ⟨bx, 9, none⟩ = false := block_frozen HB0 9
  have HI : Hid _ := ten_set ([], zi) HB0
  have HBw : Hid _ := ten_below ([], zi) HO.out.bel HLe.out
  clear HB0
  go_wp2_with fail
  obtain ⟨g0, g1, g2, g3, g4, g5, g6, g7, g8, g9⟩ := HI.out
  simp only [Nat.zero_add, zi, show bs [] = ⟨#[]⟩ from rfl] at g0 g1 g2 g3 g4 g5 g6 g7 g8 g9
  refine bodyPost_ret (v := ofV k none) (by simp [results, Tryz.results212, go_sem, g0, g1, g2, g3, g4, g5, g6, g7, g8, g9, ofV, inV, zi, show bs [] = ⟨#[]⟩ from rfl]) rfl ?_
  exact ⟨rfl, HBw.out⟩
 | some v =>
  rw [hg] at hgT CG
  have HK : Hid (v.2.key = k) := hr.key (k, v) ((getF_mem hr.srt).1 hg)
  rw [hgT]
  simp only [getV] at CG
  simp only [Option.map_some, clI]
  obtain ⟨tm, htm⟩ : ∃ tm, (getM v.1 m).getD zt = tm := ⟨_, rfl⟩
  have HQ : Hid (∀ W, Tx B p pm hb t m W → (Instr.lookup 169 (.map (some hb)) (.agg #[.int .u32 v.1.1, .int .u32 v.1.2]) false).run Tryz.prog W = .ok (.agg #[.int .u64 tm.sp, .int .u32 tm.sl, .int .u64 tm.mp, .int .u32 tm.ml, .string (bs tm.prim), .slice tm.sv.1 tm.sv.2.1 tm.sv.2.2]) W) := fun W hW => by
   have := run_look hW.gm v.1
   rw [htm] at this
   exact this
  rw [htm]
  clear hr hgT hg htm
  go_enter Tryz.func212, Tryz.ntmps212
  go_wp2_with fail
  refine (CG.out (by trivial)).mono ?_
  rintro e w1 ⟨rfl, hb1⟩
  obtain ⟨Wz, hWz⟩ : ∃ Wz, w1.alloc (.cells #[.int .u32 0, .int .u32 0, .string ⟨#[]⟩, .string ⟨#[]⟩, .bool false] 168) = Wz := ⟨_, rfl⟩
  have HO : Hid _ := ob_new v (HX.out w1 hb1).2.1 (HX.out w1 hb1).2.2 HLe.out hWz
  have hxz : Wz.heap[w1.heap.size]? = some (.cells #[.int .u32 0, .int .u32 0, .string ⟨#[]⟩, .string ⟨#[]⟩, .bool false] 168 (0, 0)) := by rw [← hWz]; exact heap_alloc_new w1 _
  have HT : Hid (Tx B p pm hb t m (((((Wz.setCell ⟨w1.heap.size, 0, none⟩ (.int .u32 v.1.1)).setCell ⟨w1.heap.size, 1, none⟩ (.int .u32 v.1.2)).setCell ⟨w1.heap.size, 2, none⟩ (.string (bs v.2.key))).setCell ⟨w1.heap.size, 3, none⟩ (.string (bs v.2.val))).setCell ⟨w1.heap.size, 4, none⟩ (.bool v.2.dead))) := by
   have h1 := (HX.out w1 hb1).1
   have h2 : Tx B p pm hb t m Wz := by rw [← hWz]; exact h1.on (al _)
   exact h2.kept (bx5_kept Wz w1.heap.size v) (fun i hi e => by have := (h1.lt hi).2; omega)
  clear hb1 CG HX
  obtain ⟨bc, hbc⟩ : ∃ bc, w1.heap.size = bc := ⟨_, rfl⟩
  rw [hbc] at HO hxz HT
  have k0 := block_cell (j := 0) hxz rfl
  have k1 := block_cell (j := 1) hxz rfl
  have k2 := block_cell (j := 2) hxz rfl
  have k3 := block_cell (j := 3) hxz rfl
  have k4 := block_cell (j := 4) hxz rfl
  have kf0 : Wz.frozen? ⟨bc, 0, none⟩ = false := block_frozen hxz 0
  have kf1 : Wz.frozen? ⟨bc, 1, none⟩ = false := block_frozen hxz 1
  have kf2 : Wz.frozen? ⟨bc, 2, none⟩ = false := block_frozen hxz 2
  have kf3 : Wz.frozen? ⟨bc, 3, none⟩ = false := block_frozen hxz 3
  have kf4 : Wz.frozen? ⟨bc, 4, none⟩ = false := block_frozen hxz 4
  obtain ⟨W2, hW2⟩ : ∃ W2, ((((Wz.setCell ⟨bc, 0, none⟩ (.int .u32 v.1.1)).setCell ⟨bc, 1, none⟩ (.int .u32 v.1.2)).setCell ⟨bc, 2, none⟩ (.string (bs v.2.key))).setCell ⟨bc, 3, none⟩ (.string (bs v.2.val))).setCell ⟨bc, 4, none⟩ (.bool v.2.dead) = W2 := ⟨_, rfl⟩
  rw [hW2] at HO HT
  clear hxz
  obtain ⟨W3, hW3⟩ : ∃ W3, W2.alloc (.cells #[.int .u64 0, .int .u32 0, .int .u64 0, .int .u32 0, .string ⟨#[]⟩, .slice none 0 0] 267) = W3 := ⟨_, rfl⟩
  have HT3 : Hid (Tx B p pm hb t m W3) := by rw [← hW3]; exact HT.out.on (al _)
  have HO3 : Hid (Ob w bx bc v W3) := by rw [← hW3]; exact HO.out.on (al _)
  have hx3 : W3.heap[W2.heap.size]? = some (.cells #[.int .u64 0, .int .u32 0, .int .u64 0, .int .u32 0, .string ⟨#[]⟩, .slice none 0 0] 267 (0, 0)) := by rw [← hW3]; exact heap_alloc_new W2 _
  have HOt : Hid _ := ob_terms tm HO.out hW3
  have q0 := HQ.out W2 HT.out
  have q1 := HQ.out W2.drew (HT.out.on ((Below.refl _ _).drew))
  have q2 := HQ.out W3 HT3.out
  have q3 := HQ.out W3.drew (HT3.out.on ((Below.refl _ _).drew))
  have HB1 := HO.out.b1
  have HB3 := HO3.out.b1
  have u0 := block_cell (j := 0) HB1 rfl
  have u1 := block_cell (j := 1) HB1 rfl
  have u2 := block_cell (j := 2) HB1 rfl
  have u3 := block_cell (j := 3) HB1 rfl
  have u4 := block_cell (j := 4) HB1 rfl
  have v0 := block_cell (j := 0) HB3 rfl
  have v1 := block_cell (j := 1) HB3 rfl
  have v2 := block_cell (j := 2) HB3 rfl
  have v3 := block_cell (j := 3) HB3 rfl
  have v4 := block_cell (j := 4) HB3 rfl
  have s0 := block_cell (j := 0) hx3 rfl
  have s1 := block_cell (j := 1) hx3 rfl
  have s2 := block_cell (j := 2) hx3 rfl
  have s3 := block_cell (j := 3) hx3 rfl
  have s4 := block_cell (j := 4) hx3 rfl
  have s5 := block_cell (j := 5) hx3 rfl
  have sf0 : W3.frozen? ⟨W2.heap.size, 0, none⟩ = false := block_frozen hx3 0
  have sf1 : W3.frozen? ⟨W2.heap.size, 1, none⟩ = false := block_frozen hx3 1
  have sf2 : W3.frozen? ⟨W2.heap.size, 2, none⟩ = false := block_frozen hx3 2
  have sf3 : W3.frozen? ⟨W2.heap.size, 3, none⟩ = false := block_frozen hx3 3
  have sf4 : W3.frozen? ⟨W2.heap.size, 4, none⟩ = false := block_frozen hx3 4
  have sf5 : W3.frozen? ⟨W2.heap.size, 5, none⟩ = false := block_frozen hx3 5
  have d1 := HT.out.cells.2
  have d2 := HT3.out.cells.2
  clear HB1 HB3 hx3 HQ HT HT3 HO HO3 c0
  obtain ⟨bt, hbt⟩ : ∃ bt, W2.heap.size = bt := ⟨_, rfl⟩
  rw [hbt] at HOt s0 sf0 s1 sf1 s2 sf2 s3 sf3 s4 sf4 s5 sf5
  go_wp2_with fail
  go_region
  obtain ⟨W4, hW4⟩ : ∃ W4, ((((((W3.setCell ⟨bt, 0, none⟩ (.int .u64 tm.sp)).setCell ⟨bt, 1, none⟩ (.int .u32 tm.sl)).setCell ⟨bt, 2, none⟩ (.int .u64 tm.mp)).setCell ⟨bt, 3, none⟩ (.int .u32 tm.ml)).setCell ⟨bt, 4, none⟩ (.string (bs tm.prim))).setCell ⟨bt, 5, none⟩ (.slice tm.sv.1 tm.sv.2.1 tm.sv.2.2)).drew = W4 := ⟨_, rfl⟩
  rw [hW4] at HOt ⊢
  clear hW4 hW3 hbt hW2 hWz hbc k0 kf0 k1 kf1 k2 kf2 k3 kf3 k4 kf4 d1 d2 q0 q1 q2 q3 u0 v0 u1 v1 u2 v2 u3 v3 u4 v4 s0 sf0 s1 sf1 s2 sf2 s3 sf3 s4 sf4 s5 sf5
  have HB0 := HOt.out.1.b0
  have HB1 := HOt.out.1.b1
  have HB2 := HOt.out.2
  have z0 := block_cell (j := 0) HB0 rfl
  have z1 := block_cell (j := 1) HB0 rfl
  have z2 := block_cell (j := 2) HB0 rfl
  have z3 := block_cell (j := 3) HB0 rfl
  have z4 := block_cell (j := 4) HB0 rfl
  have z5 := block_cell (j := 5) HB0 rfl
  have z6 := block_cell (j := 6) HB0 rfl
  have z7 := block_cell (j := 7) HB0 rfl
  have z8 := block_cell (j := 8) HB0 rfl
  have z9 := block_cell (j := 9) HB0 rfl
  have f0 : W4.frozen? ⟨bx, 0, none⟩ = false := block_frozen HB0 0
  have f1 : W4.frozen? ⟨bx, 1, none⟩ = false := block_frozen HB0 1
  have f2 : W4.frozen? ⟨bx, 2, none⟩ = false := block_frozen HB0 2
  have f3 : W4.frozen? ⟨bx, 3, none⟩ = false := block_frozen HB0 3
  have f4 : W4.frozen? ⟨bx, 4, none⟩ = false := block_frozen HB0 4
  have f5 : W4.frozen? ⟨bx, 5, none⟩ = false := block_frozen HB0 5
  have f6 : W4.frozen? ⟨bx, 6, none⟩ = false := block_frozen HB0 6
  have f7 : W4.frozen? ⟨bx, 7, none⟩ = false := block_frozen HB0 7
  have f8 : W4.frozen? ⟨bx, 8, none⟩ = false := block_frozen HB0 8
  have f9 : W4.frozen? ⟨bx, 9, none⟩ = false := block_frozen HB0 9
  have u0 := block_cell (j := 0) HB1 rfl
  have u1 := block_cell (j := 1) HB1 rfl
  have u2 := block_cell (j := 2) HB1 rfl
  have u3 := block_cell (j := 3) HB1 rfl
  have u4 := block_cell (j := 4) HB1 rfl
  have s0 := block_cell (j := 0) HB2 rfl
  have s1 := block_cell (j := 1) HB2 rfl
  have s2 := block_cell (j := 2) HB2 rfl
  have s3 := block_cell (j := 3) HB2 rfl
  have s4 := block_cell (j := 4) HB2 rfl
  have s5 := block_cell (j := 5) HB2 rfl
  have HI : Hid _ := ten_set (v.2.key, ⟨v.1.1, v.1.2, tm.sp, tm.sl, tm.mp, tm.ml, tm.prim, v.2.val, v.2.dead⟩) HB0
  have HBw : Hid _ := ten_below (v.2.key, ⟨v.1.1, v.1.2, tm.sp, tm.sl, tm.mp, tm.ml, tm.prim, v.2.val, v.2.dead⟩) HOt.out.1.bel HLe.out
  clear HB0 HB1 HB2 HOt
  go_wp2_with fail
  obtain ⟨g0, g1, g2, g3, g4, g5, g6, g7, g8, g9⟩ := HI.out
  simp only [Nat.zero_add] at g0 g1 g2 g3 g4 g5 g6 g7 g8 g9
  refine bodyPost_ret (v := ofV v.2.key (some ⟨v.1.1, v.1.2, tm.sp, tm.sl, tm.mp, tm.ml, tm.prim, v.2.val, v.2.dead⟩)) (by simp [results, Tryz.results212, go_sem, g0, g1, g2, g3, g4, g5, g6, g7, g8, g9, ofV, inV]) rfl ?_
  exact ⟨by rw [HK.out], below_of hbx HBw.out⟩
theorem claimed32 {B p pm hb : Nat} {t : Tr} {m : Mm} {T : Tb} {w : World} (k : List UInt8) (h : Tx B p pm hb t m w) (hr : Rel t.toL m T) : Calls Tryz.prog 171 #[.pointer (some ⟨p, 0, none⟩), .string (bs k)] w fun e w' => e = .returned (.bool (getF k T).isSome) ∧ Below w.heap.size w w' := by
 have hgT := hr.get k
 obtain ⟨c0, -⟩ := h.cells
 have CG : Hid (1 = 1 → Calls Tryz.prog 250 #[.pointer (some ⟨pm, 0, none⟩), .string (bs k)] w fun e w' => ∃ v : Cv, e = .returned (.tuple #[.agg #[.int .u32 v.1.1, .int .u32 v.1.2, .string (bs v.2.key), .string (bs v.2.val), .bool v.2.dead], .bool (getF k T).isSome]) ∧ Below w.heap.size w w') := fun _ => by
  refine (get13 k h.map).mono ?_
  rintro e w' ⟨rfl, hb⟩
  cases hg : getF k t.toL with
  | none => exact ⟨zc, by rw [hgT, hg]; rfl, hb⟩
  | some v => exact ⟨v, by rw [hgT, hg]; rfl, hb⟩
 clear h hr hgT
 generalize (getF k T).isSome = z at *
 go_enter Tryz.func171, Tryz.ntmps171
 go_wp2_with fail
 refine (CG.out (by trivial)).mono ?_
 rintro e w1 ⟨v, rfl, hb1⟩
 have HB : Hid (∀ o, Below w.heap.size w (w1.alloc o)) := fun o => hb1.alloc hb1.size o
 clear hb1 CG
 go_wp2_with fail
 go_ret
 exact ⟨rfl, HB.out _⟩
end Go.Proofs.YtajjnmdomabmkaaGreat.Lat
namespace Go.Proofs.YtajjnmdomabmkaaGreat.Lat
open Go.RowKit
theorem ks_el {B : Nat} {ao : Option Addr} {cap n : Nat} {K : List (List UInt8)} {w : World} (h : RwAt B 1 (.slice ao n cap) n (kc K) w) {i : Nat} (hi : i < K.length) : ∃ b off, ao = some ⟨b, off, none⟩ ∧ w.cell? ⟨b, off + i, none⟩ = some (.string (bs (K.getD i []))) := by
 obtain ⟨b, off, e, _, hc⟩ := RwAt.cellAt h (j := i) (by rw [kc_length]; exact hi)
 exact ⟨b, off, e, hc i _ (by simp [kc, List.getD, hi])⟩
theorem int_snoc {T : Tb} {K : List (List UInt8)} {m : Nat} (h : m < K.length) : intF T (K.take (m + 1)) = intF T (K.take m) ++ [(K.getD m [], (getF (K.getD m []) T).getD zi)] := by
 rw [List.take_succ_eq_append_getElem h]
 simp only [intF, List.map_append, List.map_cons, List.map_nil, List.getD, List.getElem?_eq_getElem h, Option.getD_some]
theorem size_al (w : World) (o : Obj) : (w.alloc o).heap.size = w.heap.size + 1 := by simp
theorem intents48 {B p pm hb : Nat} {t : Tr} {m : Mm} {T : Tb} {w : World} (K : List (List UInt8)) (v : Value) (h : Tx B p pm hb t m w) (hr : Rel t.toL m T) (hK : RwAt w.heap.size 1 v K.length (kc K) w) (hin : ∀ k ∈ K, (getF k T).isSome = true) (hl : K.length < 100000) :
  Calls Tryz.prog 114 #[.pointer (some ⟨p, 0, none⟩), v] w fun e w' => ∃ v', e = .returned v' ∧ w'.ownsRow w.heap.size 146 10 v' (intF T K).length (rowC inc (intF T K)) ∧ Below w.heap.size w w' := by
 obtain ⟨i0, hin0, hi0, hi1, hi2⟩ := info_parts info49
 have HK : Hid (RwAt w.heap.size 1 v K.length (kc K) w) := hK
 obtain ⟨ao, cap, rfl, -, hlc, hcm, -⟩ := hK
 have HOf : Hid (∀ (i : Nat) W, i < K.length → Below w.heap.size w W → Calls Tryz.prog 212 #[.pointer (some ⟨p, 0, none⟩), .string (bs (K.getD i []))] W fun e w' => ∃ x : Ii, e = .returned (.tuple #[inV (K.getD i [], x), .bool true]) ∧ intF T (K.take (i + 1)) = intF T (K.take i) ++ [(K.getD i [], x)] ∧ Below W.heap.size W w') := fun i W hi hb => by
  refine (of19 (K.getD i []) (h.on hb) hr).mono ?_
  rintro e w' ⟨rfl, hb'⟩
  have hk := hin (K.getD i []) (by rw [List.getD, List.getElem?_eq_getElem hi]; exact List.getElem_mem hi)
  cases hg : getF (K.getD i []) T with
  | none => rw [hg] at hk; cases hk
  | some x =>
   refine ⟨x, rfl, ?_, hb'⟩
   rw [int_snoc hi, hg]
   rfl
 have HE : Hid (∀ (i : Nat) W, i < K.length → Below w.heap.size w W → ∃ b off, ao = some ⟨b, off, none⟩ ∧ W.cell? ⟨b, off + i, none⟩ = some (.string (bs (K.getD i [])))) := fun i W hi hb => ks_el (RwAt.on HK.out hb) hi
 have hL9 : K.length < 9223372036854775808 := by omega
 have HLn : Hid (K.length < 100000) := hl
 clear h hr hin hl hlc hcm HK
 go_enter Tryz.func114, Tryz.ntmps114
 go_wp2_with fail
 go_loopw [5, 12] (fun vv i wr => ∃ q : Nat, q ≤ K.length ∧ i = .int .i64 q ∧ wr.ownsRow w.heap.size 146 10 vv (intF T (K.take q)).length (rowC inc (intF T (K.take q))) ∧ Below w.heap.size w wr) (fun _ i _ => K.length - (intOf i).toNat)
 case atStart => exact ⟨0, Nat.zero_le _, rfl, own_nil _ _ _ _, Below.refl _ _⟩
 case round =>
  obtain ⟨q, hq, rfl, hown, hbr⟩ := hrel
  obtain ⟨sa, sc, rfl, -, -, -, -⟩ := rw_own hown
  have HO : Hid _ := hown
  have HB : Hid (Below w.heap.size w wr) := hbr
  clear hown hbr
  by_cases hml : q < K.length
  ·obtain ⟨b, off, rfl, e0⟩ := HE.out q wr hml HB.out
   have hml' : (q : Int) < K.length := by omega
   have CO : Hid (1 = 1 → _) := fun _ => HOf.out q wr hml HB.out
   have hln : (intF T (K.take q)).length < 100000 := by rw [int_len]; have := List.length_take_le q K; have := HLn.out; omega
   obtain ⟨R, hR⟩ : ∃ R, intF T (K.take q) = R := ⟨_, rfl⟩
   rw [hR] at HO hln CO
   obtain ⟨R1, hR1⟩ : ∃ R1, intF T (K.take (q + 1)) = R1 := ⟨_, rfl⟩
   rw [hR1] at CO
   have HR1 : Hid (intF T (K.take (q + 1)) = R1) := hR1
   have HQ : Hid (q + 1 ≤ K.length) := hml
   rw [hR]
   clear hR hR1 HE HOf hq
   generalize K.getD q [] = a at *
   go_wp2_with fail
   refine (CO.out (by trivial)).mono ?_
   rintro e w2 ⟨s, rfl, hS, hb2⟩
   have HS : Hid (R1 = R ++ [(a, s)]) := hS
   have HB2 : Hid (Below w.heap.size w w2) := HB.out.trans (hb2.mono HB.out.size)
   have HOw : Hid (Ow w.heap.size 146 10 (.slice sa R.length sc) R.length (rowC inc R) ((w2.alloc (.cells (inc (a, s)).toArray 146)).heap.size + 1) (.slice (some ⟨(w2.alloc (.cells (inc (a, s)).toArray 146)).heap.size, 0, none⟩) 1 1) 1 (rowC inc [(a, s)]) ((w2.alloc (.cells (inc (a, s)).toArray 146)).alloc (.cells (inc (a, s)).toArray 146))) := in_ow (a, s) ((own_on HO.out hb2).alloc _) (Nat.le_trans HB2.out.size (by simp)) (by omega)
   have HBz : Hid (Below w.heap.size w ((w2.alloc (.cells (inc (a, s)).toArray 146)).alloc (.cells (inc (a, s)).toArray 146))) := (HB2.out.alloc HB2.out.size _).alloc (Nat.le_trans HB2.out.size (by simp)) _
   clear hS hb2 HO HB HB2 CO e0
   simp only [inV]
   simp only [inc] at HOw HBz
   rw [size_al] at HOw
   go_wp2_with (at_builtin; refine wpList_append_rw HOw.out Tryz.underlying79 hin0 hi0 hi1 hi2 rfl (by decide) (by decide) (.tmp 22) (.tmp 24) rfl rfl rfl rfl ?_)
   intro v' w4 hown hg hat
   have HB4 : Hid (Below w.heap.size w w4) := below_own HBz.out HOw.out.size HOw.out.own hg
   obtain ⟨sa4, sc4, rfl, -, -, -, -⟩ := rw_own hown
   have HO4 : Hid (w4.ownsRow w.heap.size 146 10 (.slice sa4 (R.length + 1) sc4) (R ++ [(a, s)]).length (rowC inc (R ++ [(a, s)]))) := by
    rw [rowC_append, List.length_append]
    exact hown
   clear hown hg hat HOw HBz
   go_wp2_with fail
   go_roundw
   case rel => exact ⟨q + 1, HQ.out, by go_num, by rw [HR1.out, HS.out]; exact HO4.out, HB4.out⟩
   case measure => simp [intOf]; omega
  ·have hml' : ¬ (q : Int) < K.length := by omega
   have HZ : Hid (intF T K = intF T (K.take q)) := by show _ = _; rw [List.take_of_length_le (by omega)]
   obtain ⟨R, hR⟩ : ∃ R, intF T (K.take q) = R := ⟨_, rfl⟩
   rw [hR] at HO HZ
   rw [hR]
   clear hR
   go_wp2_with fail
   go_ret
   exact ⟨_, rfl, by rw [HZ.out]; exact HO.out, HB.out⟩
end Go.Proofs.YtajjnmdomabmkaaGreat.Lat
namespace Go.Proofs.YtajjnmdomabmkaaGreat.Lat
open Go.RowKit
theorem Tx.row {B p pm hb : Nat} {t : Tr} {m : Mm} {T : Tb} {w : World} (h : Tx B p pm hb t m w) (hr : Rel t.toL m T) (c n : Int) : RwAt w.heap.size 1 (svV ((getM (c, n) m).getD zt)) ((byF c n T).map (·.1)).length (kc ((byF c n T).map (·.1))) w := by
 rw [← hr.kl c n]
 cases hg : getM (c, n) m with
 | some tm => exact (h.rows _ (get_mem hg)).row
 | none => exact RwAt.nil _ _ _
theorem by_in {T : Tb} (hs : Srt T) (c n : Int) : ∀ k ∈ (byF c n T).map (·.1), (getF k T).isSome = true := fun k hk => by
 obtain ⟨y, hy, rfl⟩ := List.mem_map.1 hk
 rw [(getF_mem hs).2 (List.mem_filter.1 hy).1]
 rfl
theorem run_keys (a c : Int) (b d : Int) (s : ByteArray) (ao : Option Addr) (l cap : Nat) (w : World) : (Instr.field 267 (.agg #[.int .u64 a, .int .u32 b, .int .u64 c, .int .u32 d, .string s, .slice ao l cap]) 3).run Tryz.prog w = .ok (.slice ao l cap) w := by
 simp [Instr.field, go_sem, asAgg]
theorem by21 {B p pm hb : Nat} {t : Tr} {m : Mm} {T : Tb} {w : World} (c n : Int) (h : Tx B p pm hb t m w) (hr : Rel t.toL m T) (hl : T.length < 10000) : Calls Tryz.prog 101 #[.pointer (some ⟨p, 0, none⟩), .agg #[.int .u32 c, .int .u32 n]] w fun e w' => ∃ v', e = .returned v' ∧ w'.ownsRow w.heap.size 146 10 v' (byF c n T).length (rowC inc (byF c n T)) ∧ Below w.heap.size w w' := by
 obtain ⟨W0, hW0⟩ : ∃ W0, w.alloc (.cells #[.int .u32 c, .int .u32 n] 30) = W0 := ⟨_, rfl⟩
 have hb0 : Below w.heap.size w W0 := by rw [← hW0]; exact al _
 have hx0 : W0.heap[w.heap.size]? = some (.cells #[.int .u32 c, .int .u32 n] 30 (0, 0)) := by rw [← hW0]; exact heap_alloc_new w _
 have z0 := block_cell (j := 0) hx0 rfl
 have z1 := block_cell (j := 1) hx0 rfl
 have h0 := h.on hb0
 obtain ⟨-, c1⟩ := h0.cells
 obtain ⟨tm, htm⟩ : ∃ tm, (getM (c, n) m).getD zt = tm := ⟨_, rfl⟩
 have HQ : ∀ W, Tx B p pm hb t m W → (Instr.lookup 169 (.map (some hb)) (.agg #[.int .u32 c, .int .u32 n]) false).run Tryz.prog W = .ok (tmV tm) W := fun W hW => by
  have := run_look hW.gm (c, n)
  rw [htm] at this
  exact this
 have q0 := HQ W0 h0
 have q1 := HQ W0.drew (h0.on (Below.refl _ _).drew)
 simp only [tmV] at q0 q1
 have CI : Hid (∀ W, Sw W0 W → Calls Tryz.prog 114 #[.pointer (some ⟨p, 0, none⟩), .slice tm.sv.1 tm.sv.2.1 tm.sv.2.2] W fun e w' => ∃ ao cap, e = .returned (.slice ao (byF c n T).length cap) ∧ Hid (w'.ownsRow w.heap.size 146 10 (.slice ao (byF c n T).length cap) (byF c n T).length (rowC inc (byF c n T)) ∧ Below w.heap.size w w')) := fun W hs => by
  have hW := h0.on (hs.below _)
  have hrow := hW.row hr c n
  rw [htm] at hrow
  refine (intents48 _ _ hW hr hrow (by_in hr.ok.srt c n) (by rw [List.length_map]; have := len_by c n T; omega)).mono ?_
  rintro e w' ⟨v', rfl, ho, hb'⟩
  rw [int_by hr.ok.srt] at ho
  obtain ⟨sa, sc, rfl, -, -, -, -⟩ := rw_own ho
  have hbw : Below w.heap.size w W := hb0.trans ((hs.below _).mono hb0.size)
  exact ⟨sa, sc, rfl, own_le ho hbw.size, hbw.trans (hb'.mono hbw.size)⟩
 clear h h0 hr hb0 hx0 hl HQ htm
 generalize (byF c n T) = R at *
 obtain ⟨bx, hbx⟩ : ∃ bx, w.heap.size = bx := ⟨_, rfl⟩
 rw [hbx] at z0 z1
 have HBX : Hid (w.heap.size = bx) := hbx
 have qf := run_keys tm.sp tm.mp tm.sl tm.ml (bs tm.prim) tm.sv.1 tm.sv.2.1 tm.sv.2.2
 go_enter Tryz.func101, Tryz.ntmps101
 go_wp2_with fail
 go_region_with (go_at_call 114; refine (CI.out _ ?_).mono ?_; exact Sw.drew (Sw.refl _); rintro e w1 ⟨ao, cap, rfl, HE⟩)
 all_goals
  go_wp2_with fail
  go_ret
  exact ⟨_, rfl, by rw [← HBX.out]; exact HE.out⟩
theorem all23 {B p pm hb : Nat} {t : Tr} {m : Mm} {T : Tb} {w : World} (h : Tx B p pm hb t m w) (hr : Rel t.toL m T) (hl : T.length < 10000) : Calls Tryz.prog 56 #[.pointer (some ⟨p, 0, none⟩)] w fun e w' => ∃ v', e = .returned v' ∧ w'.ownsRow w.heap.size 146 10 v' T.length (rowC inc T) ∧ Below w.heap.size w w' := by
 obtain ⟨c0, -⟩ := h.cells
 have hlen := hr.len
 have CL : Hid (∀ W, Sw w W → Calls Tryz.prog 116 #[.pointer (some ⟨pm, 0, none⟩)] W fun e w' => e = .returned (.int .i64 T.length) ∧ w'.cell? ⟨p, 0, none⟩ = some (.pointer (some ⟨pm, 0, none⟩)) ∧ Hid (Below w.heap.size w w')) := fun W hs => by
  have hW := h.on (hs.below _)
  refine (len15 hW.map).mono ?_
  rintro e w' ⟨rfl, hb'⟩
  rw [hlen]
  have hbw : Below w.heap.size w w' := (hs.below _).trans (hb'.mono (hs.below w.heap.size).size)
  exact ⟨rfl, (h.on hbw).cells.1, hbw⟩
 have CK : Hid (∀ W, Hid (Below w.heap.size w W) → Calls Tryz.prog 115 #[.pointer (some ⟨pm, 0, none⟩), .string ⟨#[]⟩, .string ⟨#[]⟩, .int .i64 T.length] W fun e w' => ∃ ao cap, e = .returned (.slice ao T.length cap) ∧ Hid (RwAt w'.heap.size 1 (.slice ao T.length cap) T.length (kc (T.map (·.1))) w' ∧ Below w.heap.size w w')) := fun W hs => by
  have hW := h.on hs.out
  refine (keys17 [] [] T.length hW.map (by omega)).mono ?_
  rintro e w' ⟨v', rfl, ho, hb'⟩
  have hk : keysF [] [] (T.length : Int) t.toL = T.map (·.1) := by
   unfold keysF
   rw [range_all, ← hr.keys, List.take_of_length_le (by simp)]
  rw [hk] at ho
  have ho' := rw_own ho
  rw [List.length_map] at ho'
  obtain ⟨sa, sc, rfl, -, -, -, -⟩ := ho'
  exact ⟨sa, sc, rfl, by have := rw_own ho; rw [List.length_map] at this; exact this, hs.out.trans (hb'.mono hs.out.size)⟩
 have CI : Hid (∀ W ao cap, Hid (RwAt W.heap.size 1 (.slice ao T.length cap) T.length (kc (T.map (·.1))) W ∧ Below w.heap.size w W) → Calls Tryz.prog 114 #[.pointer (some ⟨p, 0, none⟩), .slice ao T.length cap] W fun e w' => ∃ ao cap, e = .returned (.slice ao T.length cap) ∧ Hid (w'.ownsRow w.heap.size 146 10 (.slice ao T.length cap) T.length (rowC inc T) ∧ Below w.heap.size w w')) := fun W ao cap hs => by
  have hW := h.on hs.out.2
  refine (intents48 (T.map (·.1)) _ hW hr (by rw [List.length_map]; exact hs.out.1) (fun k hk => by rw [← keys_get hr.ok.srt]; exact hk) (by rw [List.length_map]; omega)).mono ?_
  rintro e w' ⟨v', rfl, ho, hb'⟩
  rw [int_all hr.ok.srt] at ho
  obtain ⟨sa, sc, rfl, -, -, -, -⟩ := rw_own ho
  exact ⟨sa, sc, rfl, own_le ho hs.out.2.size, hs.out.2.trans (hb'.mono hs.out.2.size)⟩
 have hl' : (T.length : Int) < 10000 := by omega
 clear h hr hlen hl
 generalize T.length = N at *
 go_enter Tryz.func56, Tryz.ntmps56
 go_wp2_with fail
 go_region_with (first
  | (go_at_call 116; refine (CL.out _ ?_).mono ?_; exact Sw.drew (Sw.refl _); rintro e w1 ⟨rfl, d0, HE⟩)
  | (go_at_call 115; refine (CK.out _ HE).mono ?_; rintro e w2 ⟨ao, cap, rfl, HF⟩)
  | (go_at_call 114; refine (CI.out _ _ _ HF).mono ?_; rintro e w3 ⟨ao', cap', rfl, HG⟩))
 all_goals
  go_wp2_with fail
  go_ret
  exact ⟨_, rfl, HG.out⟩
end Go.Proofs.YtajjnmdomabmkaaGreat.Lat
