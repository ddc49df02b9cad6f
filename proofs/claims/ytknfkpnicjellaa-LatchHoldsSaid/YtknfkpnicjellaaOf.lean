/-
  Contracts of Of and isClaimed.
-/
import Derived.Test.YtknfkpnicjellaaTx
namespace Go.Proofs.Ytknfkpnicjellaa
open Go.RowKit

theorem below_of {a b : Nat} {w w' : World} (e : a = b) (h : Below a w w') : Below b w w' := e ▸ h
/-- Six cells of a box written. -/
theorem bx6 {W : World} {b : Nat} {a0 a1 a2 a3 a4 a5 : Value} (v : Tm) (h0 : W.heap[b]? = some (.cells #[a0, a1, a2, a3, a4, a5] 75 (0, 0))) : ((((((W.setCell ⟨b, 0, none⟩ (.int .u64 v.sp)).setCell ⟨b, 1, none⟩ (.int .u32 v.sl)).setCell ⟨b, 2, none⟩ (.int .u64 v.mp)).setCell ⟨b, 3, none⟩ (.int .u32 v.ml)).setCell ⟨b, 4, none⟩ (.string (bs v.prim))).setCell ⟨b, 5, none⟩ (.slice v.sv.1 v.sv.2.1 v.sv.2.2)).heap[b]? = some (.cells #[.int .u64 v.sp, .int .u32 v.sl, .int .u64 v.mp, .int .u32 v.ml, .string (bs v.prim), .slice v.sv.1 v.sv.2.1 v.sv.2.2] 75 (0, 0)) := by
  have h1 : (W.setCell ⟨b, 0, none⟩ (.int .u64 v.sp)).heap[b]? = some (.cells #[.int .u64 v.sp, a1, a2, a3, a4, a5] 75 (0, 0)) := block_set _ h0
  generalize W.setCell ⟨b, 0, none⟩ (.int .u64 v.sp) = W1 at *
  have h2 : (W1.setCell ⟨b, 1, none⟩ (.int .u32 v.sl)).heap[b]? = some (.cells #[.int .u64 v.sp, .int .u32 v.sl, a2, a3, a4, a5] 75 (0, 0)) := block_set _ h1
  generalize W1.setCell ⟨b, 1, none⟩ (.int .u32 v.sl) = W2 at *
  have h3 : (W2.setCell ⟨b, 2, none⟩ (.int .u64 v.mp)).heap[b]? = some (.cells #[.int .u64 v.sp, .int .u32 v.sl, .int .u64 v.mp, a3, a4, a5] 75 (0, 0)) := block_set _ h2
  generalize W2.setCell ⟨b, 2, none⟩ (.int .u64 v.mp) = W3 at *
  have h4 : (W3.setCell ⟨b, 3, none⟩ (.int .u32 v.ml)).heap[b]? = some (.cells #[.int .u64 v.sp, .int .u32 v.sl, .int .u64 v.mp, .int .u32 v.ml, a4, a5] 75 (0, 0)) := block_set _ h3
  generalize W3.setCell ⟨b, 3, none⟩ (.int .u32 v.ml) = W4 at *
  have h5 : (W4.setCell ⟨b, 4, none⟩ (.string (bs v.prim))).heap[b]? = some (.cells #[.int .u64 v.sp, .int .u32 v.sl, .int .u64 v.mp, .int .u32 v.ml, .string (bs v.prim), a5] 75 (0, 0)) := block_set _ h4
  generalize W4.setCell ⟨b, 4, none⟩ (.string (bs v.prim)) = W5 at *
  have h6 : (W5.setCell ⟨b, 5, none⟩ (.slice v.sv.1 v.sv.2.1 v.sv.2.2)).heap[b]? = some (.cells #[.int .u64 v.sp, .int .u32 v.sl, .int .u64 v.mp, .int .u32 v.ml, .string (bs v.prim), .slice v.sv.1 v.sv.2.1 v.sv.2.2] 75 (0, 0)) := block_set _ h5
  exact h6
theorem six_kept (W : World) (b : Nat) (v : Tm) : Kept (fun i => i = b) W ((((((W.setCell ⟨b, 0, none⟩ (.int .u64 v.sp)).setCell ⟨b, 1, none⟩ (.int .u32 v.sl)).setCell ⟨b, 2, none⟩ (.int .u64 v.mp)).setCell ⟨b, 3, none⟩ (.int .u32 v.ml)).setCell ⟨b, 4, none⟩ (.string (bs v.prim))).setCell ⟨b, 5, none⟩ (.slice v.sv.1 v.sv.2.1 v.sv.2.2)) := by
  have t : ∀ {w1 w2 w3 : World}, Kept (fun i => i = b) w1 w2 → Kept (fun i => i = b) w2 w3 → Kept (fun i => i = b) w1 w3 := fun h k => h.trans k (fun i e => .inl e)
  exact t (t (t (t (t (set_kept' _ _ _ _) (set_kept' _ _ _ _)) (set_kept' _ _ _ _)) (set_kept' _ _ _ _)) (set_kept' _ _ _ _)) (set_kept' _ _ _ _)
theorem bx5_kept (W : World) (b : Nat) (v : Cv) : Kept (fun i => i = b) W (((((W.setCell ⟨b, 0, none⟩ (.int .u32 v.1.1)).setCell ⟨b, 1, none⟩ (.int .u32 v.1.2)).setCell ⟨b, 2, none⟩ (.string (bs v.2.key))).setCell ⟨b, 3, none⟩ (.string (bs v.2.val))).setCell ⟨b, 4, none⟩ (.bool v.2.dead)) := by
  have t : ∀ {w1 w2 w3 : World}, Kept (fun i => i = b) w1 w2 → Kept (fun i => i = b) w2 w3 → Kept (fun i => i = b) w1 w3 := fun h k => h.trans k (fun i e => .inl e)
  exact t (t (t (t (set_kept' _ _ _ _) (set_kept' _ _ _ _)) (set_kept' _ _ _ _)) (set_kept' _ _ _ _)) (set_kept' _ _ _ _)

/-- Of's boxes: the answer's, the claim's. -/
structure Ob (w : World) (bx bc : Nat) (v : Cv) (W : World) : Prop where
  bel : Below w.heap.size w W
  b0 : W.heap[bx]? = some (.cells #[.int .u32 0, .int .u32 0, .int .u64 0, .int .u32 0, .int .u64 0, .int .u32 0, .string ⟨#[]⟩, .string ⟨#[]⟩, .string ⟨#[]⟩, .bool false] 49 (0, 0))
  b1 : W.heap[bc]? = some (.cells #[.int .u32 v.1.1, .int .u32 v.1.2, .string (bs v.2.key), .string (bs v.2.val), .bool v.2.dead] 62 (0, 0))
  low : w.heap.size ≤ bx
  ne : bx ≠ bc
theorem Ob.kept {w W W' : World} {bx bc : Nat} {v : Cv} {F : Nat → Prop} (h : Ob w bx bc v W) (hk : Kept F W W') (h0 : ¬ F bx) (h1 : ¬ F bc) (hF : ∀ k, F k → w.heap.size ≤ k) : Ob w bx bc v W' :=
  ⟨h.bel.trans (hk.below h.bel.size hF), by rw [hk.block _ (Array.getElem?_eq_some_iff.1 h.b0).1 h0]; exact h.b0, by rw [hk.block _ (Array.getElem?_eq_some_iff.1 h.b1).1 h1]; exact h.b1, h.low, h.ne⟩
theorem Ob.on {w W W' : World} {bx bc : Nat} {v : Cv} (h : Ob w bx bc v W) (hb : Below W.heap.size W W') : Ob w bx bc v W' := h.kept (Kept.of_below (F := fun _ => False) hb) (fun h => h) (fun h => h) (fun _ h => h.elim)
theorem ob_new {w W1 Wz : World} {bx : Nat} (v : Cv) (hb : Below w.heap.size w W1) (h0 : W1.heap[bx]? = some (.cells #[.int .u32 0, .int .u32 0, .int .u64 0, .int .u32 0, .int .u64 0, .int .u32 0, .string ⟨#[]⟩, .string ⟨#[]⟩, .string ⟨#[]⟩, .bool false] 49 (0, 0))) (hl : w.heap.size ≤ bx) (hz : W1.alloc (.cells #[.int .u32 0, .int .u32 0, .string ⟨#[]⟩, .string ⟨#[]⟩, .bool false] 62) = Wz) : Ob w bx W1.heap.size v (((((Wz.setCell ⟨W1.heap.size, 0, none⟩ (.int .u32 v.1.1)).setCell ⟨W1.heap.size, 1, none⟩ (.int .u32 v.1.2)).setCell ⟨W1.heap.size, 2, none⟩ (.string (bs v.2.key))).setCell ⟨W1.heap.size, 3, none⟩ (.string (bs v.2.val))).setCell ⟨W1.heap.size, 4, none⟩ (.bool v.2.dead)) := by
  have hlt := (Array.getElem?_eq_some_iff.1 h0).1
  have hx : Wz.heap[W1.heap.size]? = some (.cells #[.int .u32 0, .int .u32 0, .string ⟨#[]⟩, .string ⟨#[]⟩, .bool false] 62 (0, 0)) := by rw [← hz]; exact heap_alloc_new W1 _
  have h1 : Wz.heap[bx]? = some (.cells #[.int .u32 0, .int .u32 0, .int .u64 0, .int .u32 0, .int .u64 0, .int .u32 0, .string ⟨#[]⟩, .string ⟨#[]⟩, .string ⟨#[]⟩, .bool false] 49 (0, 0)) := by rw [← hz, (al (W := W1) _).block _ hlt]; exact h0
  have hbz : Below w.heap.size w Wz := by rw [← hz]; exact hb.alloc hb.size _
  have e := bx5 v hx
  have hk := bx5_kept Wz W1.heap.size v
  have hbl := bx5_below v hbz hb.size
  refine ⟨hbl, ?_, e, hl, Nat.ne_of_lt hlt⟩
  rw [hk.block bx (Array.getElem?_eq_some_iff.1 h1).1 (Nat.ne_of_lt hlt)]
  exact h1
/-- The terms' box beside them. -/
theorem ob_terms {w W2 W3 : World} {bx bc : Nat} {v : Cv} (tm : Tm) (h : Ob w bx bc v W2) (hz : W2.alloc (.cells #[.int .u64 0, .int .u32 0, .int .u64 0, .int .u32 0, .string ⟨#[]⟩, .slice none 0 0] 75) = W3) : Ob w bx bc v ((((((W3.setCell ⟨W2.heap.size, 0, none⟩ (.int .u64 tm.sp)).setCell ⟨W2.heap.size, 1, none⟩ (.int .u32 tm.sl)).setCell ⟨W2.heap.size, 2, none⟩ (.int .u64 tm.mp)).setCell ⟨W2.heap.size, 3, none⟩ (.int .u32 tm.ml)).setCell ⟨W2.heap.size, 4, none⟩ (.string (bs tm.prim))).setCell ⟨W2.heap.size, 5, none⟩ (.slice tm.sv.1 tm.sv.2.1 tm.sv.2.2)).drew ∧ ((((((W3.setCell ⟨W2.heap.size, 0, none⟩ (.int .u64 tm.sp)).setCell ⟨W2.heap.size, 1, none⟩ (.int .u32 tm.sl)).setCell ⟨W2.heap.size, 2, none⟩ (.int .u64 tm.mp)).setCell ⟨W2.heap.size, 3, none⟩ (.int .u32 tm.ml)).setCell ⟨W2.heap.size, 4, none⟩ (.string (bs tm.prim))).setCell ⟨W2.heap.size, 5, none⟩ (.slice tm.sv.1 tm.sv.2.1 tm.sv.2.2)).drew.heap[W2.heap.size]? = some (.cells #[.int .u64 tm.sp, .int .u32 tm.sl, .int .u64 tm.mp, .int .u32 tm.ml, .string (bs tm.prim), .slice tm.sv.1 tm.sv.2.1 tm.sv.2.2] 75 (0, 0)) := by
  have h3 : Ob w bx bc v W3 := by rw [← hz]; exact h.on (al _)
  have hx : W3.heap[W2.heap.size]? = some (.cells #[.int .u64 0, .int .u32 0, .int .u64 0, .int .u32 0, .string ⟨#[]⟩, .slice none 0 0] 75 (0, 0)) := by rw [← hz]; exact heap_alloc_new W2 _
  have hk := six_kept W3 W2.heap.size tm
  have e := bx6 tm hx
  have n0 := (Array.getElem?_eq_some_iff.1 h.b0).1
  have n1 := (Array.getElem?_eq_some_iff.1 h.b1).1
  have r := h3.kept hk (fun e => by omega) (fun e => by omega) (fun k e => by rw [e]; exact h.bel.size)
  generalize ((((((W3.setCell ⟨W2.heap.size, 0, none⟩ (.int .u64 tm.sp)).setCell ⟨W2.heap.size, 1, none⟩ (.int .u32 tm.sl)).setCell ⟨W2.heap.size, 2, none⟩ (.int .u64 tm.mp)).setCell ⟨W2.heap.size, 3, none⟩ (.int .u32 tm.ml)).setCell ⟨W2.heap.size, 4, none⟩ (.string (bs tm.prim))).setCell ⟨W2.heap.size, 5, none⟩ (.slice tm.sv.1 tm.sv.2.1 tm.sv.2.2)) = X at *
  exact ⟨⟨r.bel.drew, r.b0, r.b1, r.low, r.ne⟩, e⟩

set_option maxHeartbeats 1600000 in
set_option maxRecDepth 100000 in
theorem of19 {B p pm hb : Nat} {t : Tr} {m : Mm} {T : Tb} {w : World} (k : List UInt8) (h : Tx B p pm hb t m w) (hr : Rel t.toL m T) : Calls Try.prog 19 #[.pointer (some ⟨p, 0, none⟩), .string (bs k)] w fun e w' => e = .returned (ofV k (getF k T)) ∧ Below w.heap.size w w' := by
  have hgT := hr.get k
  obtain ⟨W0, hW0⟩ : ∃ W0, w.alloc (.cells #[.int .u32 0, .int .u32 0, .int .u64 0, .int .u32 0, .int .u64 0, .int .u32 0, .string ⟨#[]⟩, .string ⟨#[]⟩, .string ⟨#[]⟩, .bool false] 49) = W0 := ⟨_, rfl⟩
  have hb0 : Below w.heap.size w W0 := by rw [← hW0]; exact al _
  have hx0 : W0.heap[w.heap.size]? = some (.cells #[.int .u32 0, .int .u32 0, .int .u64 0, .int .u32 0, .int .u64 0, .int .u32 0, .string ⟨#[]⟩, .string ⟨#[]⟩, .string ⟨#[]⟩, .bool false] 49 (0, 0)) := by rw [← hW0]; exact heap_alloc_new w _
  have h0 := h.on hb0
  obtain ⟨c0, -⟩ := h0.cells
  have CG : Hid (1 = 1 → Calls Try.prog 47 #[.pointer (some ⟨pm, 0, none⟩), .string (bs k)] W0 fun e w' => e = .returned (getV (getF k t.toL)) ∧ Below W0.heap.size W0 w') := fun _ => get13 k h0.map
  obtain ⟨bx, hbx⟩ : ∃ bx, w.heap.size = bx := ⟨_, rfl⟩
  have HLe : Hid (w.heap.size ≤ bx) := Nat.le_of_eq hbx
  have HX : Hid (∀ W1, Below W0.heap.size W0 W1 → Tx B p pm hb t m W1 ∧ Below w.heap.size w W1 ∧ W1.heap[bx]? = some (.cells #[.int .u32 0, .int .u32 0, .int .u64 0, .int .u32 0, .int .u64 0, .int .u32 0, .string ⟨#[]⟩, .string ⟨#[]⟩, .string ⟨#[]⟩, .bool false] 49 (0, 0))) := fun W1 hb1 =>
    ⟨h0.on hb1, hb0.trans (hb1.mono hb0.size), by rw [← hbx, hb1.block _ (Array.getElem?_eq_some_iff.1 hx0).1]; exact hx0⟩
  clear h h0 hb0 hx0
  cases hg : getF k t.toL with
  | none =>
    rw [hg] at hgT CG
    rw [hgT]
    simp only [getV, zc, show bs [] = ⟨#[]⟩ from rfl] at CG
    simp only [Option.map_none]
    clear hr hgT hg
    go_enter Try.func19, Try.ntmps19
    go_wp2_with fail
    refine (CG.out (by trivial)).mono ?_
    rintro e w1 ⟨rfl, hb1⟩
    obtain ⟨Wz, hWz⟩ : ∃ Wz, w1.alloc (.cells #[.int .u32 0, .int .u32 0, .string ⟨#[]⟩, .string ⟨#[]⟩, .bool false] 62) = Wz := ⟨_, rfl⟩
    have HO : Hid _ := ob_new zc (HX.out w1 hb1).2.1 (HX.out w1 hb1).2.2 HLe.out hWz
    have hxz : Wz.heap[w1.heap.size]? = some (.cells #[.int .u32 0, .int .u32 0, .string ⟨#[]⟩, .string ⟨#[]⟩, .bool false] 62 (0, 0)) := by rw [← hWz]; exact heap_alloc_new w1 _
    clear hb1 CG HX
    simp only [zc, show bs [] = ⟨#[]⟩ from rfl] at HO
    obtain ⟨bc, hbc⟩ : ∃ bc, w1.heap.size = bc := ⟨_, rfl⟩
    rw [hbc] at HO hxz
    have u0 : Wz.cell? ⟨bc, 0, none⟩ = some (.int .u32 0) := block_cell hxz rfl
    have u1 : Wz.cell? ⟨bc, 1, none⟩ = some (.int .u32 0) := block_cell hxz rfl
    have u2 : Wz.cell? ⟨bc, 2, none⟩ = some (.string ⟨#[]⟩) := block_cell hxz rfl
    have u3 : Wz.cell? ⟨bc, 3, none⟩ = some (.string ⟨#[]⟩) := block_cell hxz rfl
    have u4 : Wz.cell? ⟨bc, 4, none⟩ = some (.bool false) := block_cell hxz rfl
    have uf0 : Wz.frozen? ⟨bc, 0, none⟩ = false := block_frozen hxz 0
    have uf1 : Wz.frozen? ⟨bc, 1, none⟩ = false := block_frozen hxz 1
    have uf2 : Wz.frozen? ⟨bc, 2, none⟩ = false := block_frozen hxz 2
    have uf3 : Wz.frozen? ⟨bc, 3, none⟩ = false := block_frozen hxz 3
    have uf4 : Wz.frozen? ⟨bc, 4, none⟩ = false := block_frozen hxz 4
    obtain ⟨W2, hW2⟩ : ∃ W2, ((((Wz.setCell ⟨bc, 0, none⟩ (.int .u32 0)).setCell ⟨bc, 1, none⟩ (.int .u32 0)).setCell ⟨bc, 2, none⟩ (.string ⟨#[]⟩)).setCell ⟨bc, 3, none⟩ (.string ⟨#[]⟩)).setCell ⟨bc, 4, none⟩ (.bool false) = W2 := ⟨_, rfl⟩
    rw [hW2] at HO
    have HB0 := HO.out.b0
    clear hxz
    have z0 : W2.cell? ⟨bx, 0, none⟩ = some (.int .u32 0) := block_cell HB0 rfl
    have z1 : W2.cell? ⟨bx, 1, none⟩ = some (.int .u32 0) := block_cell HB0 rfl
    have z2 : W2.cell? ⟨bx, 2, none⟩ = some (.int .u64 0) := block_cell HB0 rfl
    have z3 : W2.cell? ⟨bx, 3, none⟩ = some (.int .u32 0) := block_cell HB0 rfl
    have z4 : W2.cell? ⟨bx, 4, none⟩ = some (.int .u64 0) := block_cell HB0 rfl
    have z5 : W2.cell? ⟨bx, 5, none⟩ = some (.int .u32 0) := block_cell HB0 rfl
    have z6 : W2.cell? ⟨bx, 6, none⟩ = some (.string ⟨#[]⟩) := block_cell HB0 rfl
    have z7 : W2.cell? ⟨bx, 7, none⟩ = some (.string ⟨#[]⟩) := block_cell HB0 rfl
    have z8 : W2.cell? ⟨bx, 8, none⟩ = some (.string ⟨#[]⟩) := block_cell HB0 rfl
    have z9 : W2.cell? ⟨bx, 9, none⟩ = some (.bool false) := block_cell HB0 rfl
    have f0 : W2.frozen? ⟨bx, 0, none⟩ = false := block_frozen HB0 0
    have f1 : W2.frozen? ⟨bx, 1, none⟩ = false := block_frozen HB0 1
    have f2 : W2.frozen? ⟨bx, 2, none⟩ = false := block_frozen HB0 2
    have f3 : W2.frozen? ⟨bx, 3, none⟩ = false := block_frozen HB0 3
    have f4 : W2.frozen? ⟨bx, 4, none⟩ = false := block_frozen HB0 4
    have f5 : W2.frozen? ⟨bx, 5, none⟩ = false := block_frozen HB0 5
    have f6 : W2.frozen? ⟨bx, 6, none⟩ = false := block_frozen HB0 6
    have f7 : W2.frozen? ⟨bx, 7, none⟩ = false := block_frozen HB0 7
    have f8 : W2.frozen? ⟨bx, 8, none⟩ = false := block_frozen HB0 8
    have f9 : W2.frozen? ⟨bx, 9, none⟩ = false := block_frozen HB0 9
    have HI : Hid _ := ten_set ([], zi) HB0
    have HBw : Hid _ := ten_below ([], zi) HO.out.bel HLe.out
    clear HB0
    go_wp2_with fail
    obtain ⟨g0, g1, g2, g3, g4, g5, g6, g7, g8, g9⟩ := HI.out
    simp only [Nat.zero_add, zi, show bs [] = ⟨#[]⟩ from rfl] at g0 g1 g2 g3 g4 g5 g6 g7 g8 g9
    refine bodyPost_ret (v := ofV k none) (by simp [results, Try.results19, go_sem, g0, g1, g2, g3, g4, g5, g6, g7, g8, g9, ofV, inV, zi, show bs [] = ⟨#[]⟩ from rfl]) rfl ?_
    exact ⟨rfl, HBw.out⟩
  | some v =>
    rw [hg] at hgT CG
    have HK : Hid (v.2.key = k) := hr.key (k, v) ((getF_mem hr.srt).1 hg)
    rw [hgT]
    simp only [getV] at CG
    simp only [Option.map_some, clI]
    obtain ⟨tm, htm⟩ : ∃ tm, (getM v.1 m).getD zt = tm := ⟨_, rfl⟩
    have HQ : Hid (∀ W, Tx B p pm hb t m W → (Instr.lookup 63 (.map (some hb)) (.agg #[.int .u32 v.1.1, .int .u32 v.1.2]) false).run Try.prog W = .ok (.agg #[.int .u64 tm.sp, .int .u32 tm.sl, .int .u64 tm.mp, .int .u32 tm.ml, .string (bs tm.prim), .slice tm.sv.1 tm.sv.2.1 tm.sv.2.2]) W) := fun W hW => by
      have := run_look hW.gm v.1
      rw [htm] at this
      exact this
    rw [htm]
    clear hr hgT hg htm
    go_enter Try.func19, Try.ntmps19
    go_wp2_with fail
    refine (CG.out (by trivial)).mono ?_
    rintro e w1 ⟨rfl, hb1⟩
    obtain ⟨Wz, hWz⟩ : ∃ Wz, w1.alloc (.cells #[.int .u32 0, .int .u32 0, .string ⟨#[]⟩, .string ⟨#[]⟩, .bool false] 62) = Wz := ⟨_, rfl⟩
    have HO : Hid _ := ob_new v (HX.out w1 hb1).2.1 (HX.out w1 hb1).2.2 HLe.out hWz
    have hxz : Wz.heap[w1.heap.size]? = some (.cells #[.int .u32 0, .int .u32 0, .string ⟨#[]⟩, .string ⟨#[]⟩, .bool false] 62 (0, 0)) := by rw [← hWz]; exact heap_alloc_new w1 _
    have HT : Hid (Tx B p pm hb t m (((((Wz.setCell ⟨w1.heap.size, 0, none⟩ (.int .u32 v.1.1)).setCell ⟨w1.heap.size, 1, none⟩ (.int .u32 v.1.2)).setCell ⟨w1.heap.size, 2, none⟩ (.string (bs v.2.key))).setCell ⟨w1.heap.size, 3, none⟩ (.string (bs v.2.val))).setCell ⟨w1.heap.size, 4, none⟩ (.bool v.2.dead))) := by
      have h1 := (HX.out w1 hb1).1
      have h2 : Tx B p pm hb t m Wz := by rw [← hWz]; exact h1.on (al _)
      exact h2.kept (bx5_kept Wz w1.heap.size v) (fun i hi e => by have := (h1.lt hi).2; omega)
    clear hb1 CG HX
    obtain ⟨bc, hbc⟩ : ∃ bc, w1.heap.size = bc := ⟨_, rfl⟩
    rw [hbc] at HO hxz HT
    have k0 : Wz.cell? ⟨bc, 0, none⟩ = some (.int .u32 0) := block_cell hxz rfl
    have k1 : Wz.cell? ⟨bc, 1, none⟩ = some (.int .u32 0) := block_cell hxz rfl
    have k2 : Wz.cell? ⟨bc, 2, none⟩ = some (.string ⟨#[]⟩) := block_cell hxz rfl
    have k3 : Wz.cell? ⟨bc, 3, none⟩ = some (.string ⟨#[]⟩) := block_cell hxz rfl
    have k4 : Wz.cell? ⟨bc, 4, none⟩ = some (.bool false) := block_cell hxz rfl
    have kf0 : Wz.frozen? ⟨bc, 0, none⟩ = false := block_frozen hxz 0
    have kf1 : Wz.frozen? ⟨bc, 1, none⟩ = false := block_frozen hxz 1
    have kf2 : Wz.frozen? ⟨bc, 2, none⟩ = false := block_frozen hxz 2
    have kf3 : Wz.frozen? ⟨bc, 3, none⟩ = false := block_frozen hxz 3
    have kf4 : Wz.frozen? ⟨bc, 4, none⟩ = false := block_frozen hxz 4
    obtain ⟨W2, hW2⟩ : ∃ W2, ((((Wz.setCell ⟨bc, 0, none⟩ (.int .u32 v.1.1)).setCell ⟨bc, 1, none⟩ (.int .u32 v.1.2)).setCell ⟨bc, 2, none⟩ (.string (bs v.2.key))).setCell ⟨bc, 3, none⟩ (.string (bs v.2.val))).setCell ⟨bc, 4, none⟩ (.bool v.2.dead) = W2 := ⟨_, rfl⟩
    rw [hW2] at HO HT
    clear hxz
    obtain ⟨W3, hW3⟩ : ∃ W3, W2.alloc (.cells #[.int .u64 0, .int .u32 0, .int .u64 0, .int .u32 0, .string ⟨#[]⟩, .slice none 0 0] 75) = W3 := ⟨_, rfl⟩
    have HT3 : Hid (Tx B p pm hb t m W3) := by rw [← hW3]; exact HT.out.on (al _)
    have HO3 : Hid (Ob w bx bc v W3) := by rw [← hW3]; exact HO.out.on (al _)
    have hx3 : W3.heap[W2.heap.size]? = some (.cells #[.int .u64 0, .int .u32 0, .int .u64 0, .int .u32 0, .string ⟨#[]⟩, .slice none 0 0] 75 (0, 0)) := by rw [← hW3]; exact heap_alloc_new W2 _
    have HOt : Hid _ := ob_terms tm HO.out hW3
    have q0 := HQ.out W2 HT.out
    have q1 := HQ.out W2.drew (HT.out.on ((Below.refl _ _).drew))
    have q2 := HQ.out W3 HT3.out
    have q3 := HQ.out W3.drew (HT3.out.on ((Below.refl _ _).drew))
    have HB1 := HO.out.b1
    have HB3 := HO3.out.b1
    have u0 : W2.cell? ⟨bc, 0, none⟩ = some (.int .u32 v.1.1) := block_cell HB1 rfl
    have u1 : W2.cell? ⟨bc, 1, none⟩ = some (.int .u32 v.1.2) := block_cell HB1 rfl
    have u2 : W2.cell? ⟨bc, 2, none⟩ = some (.string (bs v.2.key)) := block_cell HB1 rfl
    have u3 : W2.cell? ⟨bc, 3, none⟩ = some (.string (bs v.2.val)) := block_cell HB1 rfl
    have u4 : W2.cell? ⟨bc, 4, none⟩ = some (.bool v.2.dead) := block_cell HB1 rfl
    have v0 : W3.cell? ⟨bc, 0, none⟩ = some (.int .u32 v.1.1) := block_cell HB3 rfl
    have v1 : W3.cell? ⟨bc, 1, none⟩ = some (.int .u32 v.1.2) := block_cell HB3 rfl
    have v2 : W3.cell? ⟨bc, 2, none⟩ = some (.string (bs v.2.key)) := block_cell HB3 rfl
    have v3 : W3.cell? ⟨bc, 3, none⟩ = some (.string (bs v.2.val)) := block_cell HB3 rfl
    have v4 : W3.cell? ⟨bc, 4, none⟩ = some (.bool v.2.dead) := block_cell HB3 rfl
    have s0 : W3.cell? ⟨W2.heap.size, 0, none⟩ = some (.int .u64 0) := block_cell hx3 rfl
    have s1 : W3.cell? ⟨W2.heap.size, 1, none⟩ = some (.int .u32 0) := block_cell hx3 rfl
    have s2 : W3.cell? ⟨W2.heap.size, 2, none⟩ = some (.int .u64 0) := block_cell hx3 rfl
    have s3 : W3.cell? ⟨W2.heap.size, 3, none⟩ = some (.int .u32 0) := block_cell hx3 rfl
    have s4 : W3.cell? ⟨W2.heap.size, 4, none⟩ = some (.string ⟨#[]⟩) := block_cell hx3 rfl
    have s5 : W3.cell? ⟨W2.heap.size, 5, none⟩ = some (.slice none 0 0) := block_cell hx3 rfl
    have sf0 : W3.frozen? ⟨W2.heap.size, 0, none⟩ = false := block_frozen hx3 0
    have sf1 : W3.frozen? ⟨W2.heap.size, 1, none⟩ = false := block_frozen hx3 1
    have sf2 : W3.frozen? ⟨W2.heap.size, 2, none⟩ = false := block_frozen hx3 2
    have sf3 : W3.frozen? ⟨W2.heap.size, 3, none⟩ = false := block_frozen hx3 3
    have sf4 : W3.frozen? ⟨W2.heap.size, 4, none⟩ = false := block_frozen hx3 4
    have sf5 : W3.frozen? ⟨W2.heap.size, 5, none⟩ = false := block_frozen hx3 5
    have d1 := HT.out.cells.2
    have d2 := HT3.out.cells.2
    clear HB1 HB3 hx3 HQ HT HT3 HO HO3 c0
    obtain ⟨bt, hbt⟩ : ∃ bt, W2.heap.size = bt := ⟨_, rfl⟩
    rw [hbt] at HOt s0 sf0 s1 sf1 s2 sf2 s3 sf3 s4 sf4 s5 sf5
    go_wp2_with fail
    go_region
    obtain ⟨W4, hW4⟩ : ∃ W4, ((((((W3.setCell ⟨bt, 0, none⟩ (.int .u64 tm.sp)).setCell ⟨bt, 1, none⟩ (.int .u32 tm.sl)).setCell ⟨bt, 2, none⟩ (.int .u64 tm.mp)).setCell ⟨bt, 3, none⟩ (.int .u32 tm.ml)).setCell ⟨bt, 4, none⟩ (.string (bs tm.prim))).setCell ⟨bt, 5, none⟩ (.slice tm.sv.1 tm.sv.2.1 tm.sv.2.2)).drew = W4 := ⟨_, rfl⟩
    rw [hW4] at HOt ⊢
    clear hW4 hW3 hbt hW2 hWz hbc k0 kf0 k1 kf1 k2 kf2 k3 kf3 k4 kf4 d1 d2 q0 q1 q2 q3 u0 v0 u1 v1 u2 v2 u3 v3 u4 v4 s0 sf0 s1 sf1 s2 sf2 s3 sf3 s4 sf4 s5 sf5
    have HB0 := HOt.out.1.b0
    have HB1 := HOt.out.1.b1
    have HB2 := HOt.out.2
    have z0 : W4.cell? ⟨bx, 0, none⟩ = some (.int .u32 0) := block_cell HB0 rfl
    have z1 : W4.cell? ⟨bx, 1, none⟩ = some (.int .u32 0) := block_cell HB0 rfl
    have z2 : W4.cell? ⟨bx, 2, none⟩ = some (.int .u64 0) := block_cell HB0 rfl
    have z3 : W4.cell? ⟨bx, 3, none⟩ = some (.int .u32 0) := block_cell HB0 rfl
    have z4 : W4.cell? ⟨bx, 4, none⟩ = some (.int .u64 0) := block_cell HB0 rfl
    have z5 : W4.cell? ⟨bx, 5, none⟩ = some (.int .u32 0) := block_cell HB0 rfl
    have z6 : W4.cell? ⟨bx, 6, none⟩ = some (.string ⟨#[]⟩) := block_cell HB0 rfl
    have z7 : W4.cell? ⟨bx, 7, none⟩ = some (.string ⟨#[]⟩) := block_cell HB0 rfl
    have z8 : W4.cell? ⟨bx, 8, none⟩ = some (.string ⟨#[]⟩) := block_cell HB0 rfl
    have z9 : W4.cell? ⟨bx, 9, none⟩ = some (.bool false) := block_cell HB0 rfl
    have f0 : W4.frozen? ⟨bx, 0, none⟩ = false := block_frozen HB0 0
    have f1 : W4.frozen? ⟨bx, 1, none⟩ = false := block_frozen HB0 1
    have f2 : W4.frozen? ⟨bx, 2, none⟩ = false := block_frozen HB0 2
    have f3 : W4.frozen? ⟨bx, 3, none⟩ = false := block_frozen HB0 3
    have f4 : W4.frozen? ⟨bx, 4, none⟩ = false := block_frozen HB0 4
    have f5 : W4.frozen? ⟨bx, 5, none⟩ = false := block_frozen HB0 5
    have f6 : W4.frozen? ⟨bx, 6, none⟩ = false := block_frozen HB0 6
    have f7 : W4.frozen? ⟨bx, 7, none⟩ = false := block_frozen HB0 7
    have f8 : W4.frozen? ⟨bx, 8, none⟩ = false := block_frozen HB0 8
    have f9 : W4.frozen? ⟨bx, 9, none⟩ = false := block_frozen HB0 9
    have u0 : W4.cell? ⟨bc, 0, none⟩ = some (.int .u32 v.1.1) := block_cell HB1 rfl
    have u1 : W4.cell? ⟨bc, 1, none⟩ = some (.int .u32 v.1.2) := block_cell HB1 rfl
    have u2 : W4.cell? ⟨bc, 2, none⟩ = some (.string (bs v.2.key)) := block_cell HB1 rfl
    have u3 : W4.cell? ⟨bc, 3, none⟩ = some (.string (bs v.2.val)) := block_cell HB1 rfl
    have u4 : W4.cell? ⟨bc, 4, none⟩ = some (.bool v.2.dead) := block_cell HB1 rfl
    have s0 : W4.cell? ⟨bt, 0, none⟩ = some (.int .u64 tm.sp) := block_cell HB2 rfl
    have s1 : W4.cell? ⟨bt, 1, none⟩ = some (.int .u32 tm.sl) := block_cell HB2 rfl
    have s2 : W4.cell? ⟨bt, 2, none⟩ = some (.int .u64 tm.mp) := block_cell HB2 rfl
    have s3 : W4.cell? ⟨bt, 3, none⟩ = some (.int .u32 tm.ml) := block_cell HB2 rfl
    have s4 : W4.cell? ⟨bt, 4, none⟩ = some (.string (bs tm.prim)) := block_cell HB2 rfl
    have s5 : W4.cell? ⟨bt, 5, none⟩ = some (.slice tm.sv.1 tm.sv.2.1 tm.sv.2.2) := block_cell HB2 rfl
    have HI : Hid _ := ten_set (v.2.key, ⟨v.1.1, v.1.2, tm.sp, tm.sl, tm.mp, tm.ml, tm.prim, v.2.val, v.2.dead⟩) HB0
    have HBw : Hid _ := ten_below (v.2.key, ⟨v.1.1, v.1.2, tm.sp, tm.sl, tm.mp, tm.ml, tm.prim, v.2.val, v.2.dead⟩) HOt.out.1.bel HLe.out
    clear HB0 HB1 HB2 HOt
    go_wp2_with fail
    obtain ⟨g0, g1, g2, g3, g4, g5, g6, g7, g8, g9⟩ := HI.out
    simp only [Nat.zero_add] at g0 g1 g2 g3 g4 g5 g6 g7 g8 g9
    refine bodyPost_ret (v := ofV v.2.key (some ⟨v.1.1, v.1.2, tm.sp, tm.sl, tm.mp, tm.ml, tm.prim, v.2.val, v.2.dead⟩)) (by simp [results, Try.results19, go_sem, g0, g1, g2, g3, g4, g5, g6, g7, g8, g9, ofV, inV]) rfl ?_
    exact ⟨by rw [HK.out], below_of hbx HBw.out⟩

set_option maxHeartbeats 800000 in
set_option maxRecDepth 100000 in
theorem of19_nil (k : List UInt8) (w : World) : Calls Try.prog 19 #[.pointer none, .string (bs k)] w fun e w' => e = .returned (ofV k none) ∧ Below w.heap.size w w' := by
  obtain ⟨W0, hW0⟩ : ∃ W0, w.alloc (.cells #[.int .u32 0, .int .u32 0, .int .u64 0, .int .u32 0, .int .u64 0, .int .u32 0, .string ⟨#[]⟩, .string ⟨#[]⟩, .string ⟨#[]⟩, .bool false] 49) = W0 := ⟨_, rfl⟩
  have hb0 : Below w.heap.size w W0 := by rw [← hW0]; exact al _
  have hx0 : W0.heap[w.heap.size]? = some (.cells #[.int .u32 0, .int .u32 0, .int .u64 0, .int .u32 0, .int .u64 0, .int .u32 0, .string ⟨#[]⟩, .string ⟨#[]⟩, .string ⟨#[]⟩, .bool false] 49 (0, 0)) := by rw [← hW0]; exact heap_alloc_new w _
  obtain ⟨bx, hbx⟩ : ∃ bx, w.heap.size = bx := ⟨_, rfl⟩
  have HLe : Hid (w.heap.size ≤ bx) := Nat.le_of_eq hbx
  rw [hbx] at hx0
  have z0 : W0.cell? ⟨bx, 0, none⟩ = some (.int .u32 0) := block_cell hx0 rfl
  have z1 : W0.cell? ⟨bx, 1, none⟩ = some (.int .u32 0) := block_cell hx0 rfl
  have z2 : W0.cell? ⟨bx, 2, none⟩ = some (.int .u64 0) := block_cell hx0 rfl
  have z3 : W0.cell? ⟨bx, 3, none⟩ = some (.int .u32 0) := block_cell hx0 rfl
  have z4 : W0.cell? ⟨bx, 4, none⟩ = some (.int .u64 0) := block_cell hx0 rfl
  have z5 : W0.cell? ⟨bx, 5, none⟩ = some (.int .u32 0) := block_cell hx0 rfl
  have z6 : W0.cell? ⟨bx, 6, none⟩ = some (.string ⟨#[]⟩) := block_cell hx0 rfl
  have z7 : W0.cell? ⟨bx, 7, none⟩ = some (.string ⟨#[]⟩) := block_cell hx0 rfl
  have z8 : W0.cell? ⟨bx, 8, none⟩ = some (.string ⟨#[]⟩) := block_cell hx0 rfl
  have z9 : W0.cell? ⟨bx, 9, none⟩ = some (.bool false) := block_cell hx0 rfl
  have f0 : W0.frozen? ⟨bx, 0, none⟩ = false := block_frozen hx0 0
  have f1 : W0.frozen? ⟨bx, 1, none⟩ = false := block_frozen hx0 1
  have f2 : W0.frozen? ⟨bx, 2, none⟩ = false := block_frozen hx0 2
  have f3 : W0.frozen? ⟨bx, 3, none⟩ = false := block_frozen hx0 3
  have f4 : W0.frozen? ⟨bx, 4, none⟩ = false := block_frozen hx0 4
  have f5 : W0.frozen? ⟨bx, 5, none⟩ = false := block_frozen hx0 5
  have f6 : W0.frozen? ⟨bx, 6, none⟩ = false := block_frozen hx0 6
  have f7 : W0.frozen? ⟨bx, 7, none⟩ = false := block_frozen hx0 7
  have f8 : W0.frozen? ⟨bx, 8, none⟩ = false := block_frozen hx0 8
  have f9 : W0.frozen? ⟨bx, 9, none⟩ = false := block_frozen hx0 9
  have HI : Hid _ := ten_set ([], zi) hx0
  have HBw : Hid _ := ten_below ([], zi) hb0 HLe.out
  simp only [zi, show bs [] = ⟨#[]⟩ from rfl] at HBw
  clear hx0 hb0
  go_enter Try.func19, Try.ntmps19
  go_wp2_with fail
  obtain ⟨g0, g1, g2, g3, g4, g5, g6, g7, g8, g9⟩ := HI.out
  simp only [Nat.zero_add, zi, show bs [] = ⟨#[]⟩ from rfl] at g0 g1 g2 g3 g4 g5 g6 g7 g8 g9
  refine bodyPost_ret (v := ofV k none) (by simp [results, Try.results19, go_sem, g0, g1, g2, g3, g4, g5, g6, g7, g8, g9, ofV, inV, zi, show bs [] = ⟨#[]⟩ from rfl]) rfl ?_
  exact ⟨rfl, below_of hbx HBw.out⟩

set_option maxHeartbeats 800000 in
set_option maxRecDepth 100000 in
theorem claimed32 {B p pm hb : Nat} {t : Tr} {m : Mm} {T : Tb} {w : World} (k : List UInt8) (h : Tx B p pm hb t m w) (hr : Rel t.toL m T) : Calls Try.prog 32 #[.pointer (some ⟨p, 0, none⟩), .string (bs k)] w fun e w' => e = .returned (.bool (getF k T).isSome) ∧ Below w.heap.size w w' := by
  have hgT := hr.get k
  obtain ⟨c0, -⟩ := h.cells
  have CG : Hid (1 = 1 → Calls Try.prog 47 #[.pointer (some ⟨pm, 0, none⟩), .string (bs k)] w fun e w' => ∃ v : Cv, e = .returned (.tuple #[.agg #[.int .u32 v.1.1, .int .u32 v.1.2, .string (bs v.2.key), .string (bs v.2.val), .bool v.2.dead], .bool (getF k T).isSome]) ∧ Below w.heap.size w w') := fun _ => by
    refine (get13 k h.map).mono ?_
    rintro e w' ⟨rfl, hb⟩
    cases hg : getF k t.toL with
    | none => exact ⟨zc, by rw [hgT, hg]; rfl, hb⟩
    | some v => exact ⟨v, by rw [hgT, hg]; rfl, hb⟩
  clear h hr hgT
  generalize (getF k T).isSome = z at *
  go_enter Try.func32, Try.ntmps32
  go_wp2_with fail
  refine (CG.out (by trivial)).mono ?_
  rintro e w1 ⟨v, rfl, hb1⟩
  have HB : Hid (∀ o, Below w.heap.size w (w1.alloc o)) := fun o => hb1.alloc hb1.size o
  clear hb1 CG
  go_wp2_with fail
  go_ret
  exact ⟨rfl, HB.out _⟩
end Go.Proofs.Ytknfkpnicjellaa
