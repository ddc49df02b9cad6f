import Derived.RangeFuncBox
import Derived.RangeFuncBound
import Derived.RangeFuncCalls
import Derived.RangeFuncLeaves
import Derived.Shelf.Abstract
import Derived.Shelf.AbstractIn
import Derived.Shelf.RegionOpen
import Derived.OwnWalkIn
import Derived.TacticsInMore
import Derived.LoopNIn
import Derived.LoopIn
import Derived.Sort.Grow
import Derived.Test.YtajjnmdomabmkaaGreatWat
set_option maxHeartbeats 4000000
set_option maxRecDepth 100000
set_option linter.unusedVariables false
namespace Go.Proofs.YtajjnmdomabmkaaGreat.Ver
open Go.RowKit
structure Bo (B p hb : Nat) (m K : Bk) (w : World) : Prop where
 box : w.heap[p]? = some (.cells #[.map (some hb)] 174 (0, 0))
 map : Gv.At kd vdV hb m w
 rel : Rl m K
 lo : B ≤ p
 lh : B ≤ hb
theorem Bo.kept {B p hb : Nat} {m K : Bk} {w w' : World} {F : Nat → Prop} (h : Bo B p hb m K w) (hk : Kept F w w') (h1 : ¬ F p) (h2 : ¬ F hb) : Bo B p hb m K w' :=
 ⟨by rw [hk.block p (Array.getElem?_eq_some_iff.1 h.box).1 h1]; exact h.box, h.map.kept hk h2, h.rel, h.lo, h.lh⟩
theorem Bo.on {B p hb : Nat} {m K : Bk} {w w' : World} (h : Bo B p hb m K w) (hb' : Below w.heap.size w w') : Bo B p hb m K w' := h.kept (F := fun _ => False) (Kept.of_below hb') (fun h => h) (fun h => h)
theorem Bo.cell {B p hb : Nat} {m K : Bk} {w : World} (h : Bo B p hb m K w) : w.cell? ⟨p, 0, none⟩ = some (.map (some hb)) := block_cell h.box rfl
theorem Bo.ne {B p hb : Nat} {m K : Bk} {w : World} (h : Bo B p hb m K w) : p ≠ hb := by
 obtain ⟨es, cl, h1, _⟩ := h.map
 intro e
 have := h.box
 rw [e, h1] at this
 cases this
def BoAt (B p : Nat) (M : Nat → Prop) (K : Bk) (w : World) : Prop := ∃ hb m, Bo B p hb m K w ∧ ∀ k, M k ↔ k = p ∨ k = hb
theorem BoAt.lt {B p : Nat} {M : Nat → Prop} {K : Bk} {w : World} (h : BoAt B p M K w) (k : Nat) (hk : M k) : B ≤ k ∧ k < w.heap.size := by
 obtain ⟨hb, m, h, hM⟩ := h
 rcases (hM k).1 hk with rfl | rfl
 ·exact ⟨h.lo, (Array.getElem?_eq_some_iff.1 h.box).1⟩
 ·exact ⟨h.lh, h.map.lt⟩
theorem BoAt.keep {B p : Nat} {M G : Nat → Prop} {K : Bk} {w w' : World} (h : BoAt B p M K w) (hk : Kept G w w') (hM : ∀ k, M k → ¬ G k) : BoAt B p M K w' := by
 obtain ⟨hb, m, h, hM'⟩ := h
 exact ⟨hb, m, h.kept hk (hM p ((hM' p).2 (.inl rfl))) (hM hb ((hM' hb).2 (.inr rfl))), hM'⟩
def vz (o : Option Vd) : Vd := o.getD dv
theorem ofV_eq (o : Option Vd) : ofV o = .tuple #[vdV (vz o), .bool o.isSome] := by cases o <;> rfl
theorem run_lookv {b : Nat} {m : Bk} {w : World} (h : Gv.At kd vdV b m w) (c n : Int) : (Instr.lookup 172 (.map (some b)) (.agg #[.int .u32 c, .int .u32 n]) true).run Tryz.prog w = .ok (.tuple #[vdV (vz (m.find? (Gv.isK kd (c, n)))), .bool (m.find? (Gv.isK kd (c, n))).isSome]) w := by
 show (Instr.lookup 172 (.map (some b)) (Gv.kx (c, n)) true).run Tryz.prog w = _
 obtain ⟨es, cl, h1, h2, _⟩ := h
 cases hg : m.find? (Gv.isK kd (c, n)) with
 | none =>
  simp [Instr.lookup, run_underlying Tryz.underlying172, MapKept.run_getObj_map h1, Gv.run_check, Gv.run_findK (c, n) h2, Gv.idx_none (i := 0) hg, Result.andThen]
  rfl
 | some t =>
  obtain ⟨j, g1, _⟩ := Gv.idx_some (i := 0) hg
  simp [Instr.lookup, run_underlying Tryz.underlying172, MapKept.run_getObj_map h1, Gv.run_check, Gv.run_findK (c, n) h2, g1, Result.andThen]
  rfl
theorem new8 (w : World) : Calls Tryz.prog 42 #[] w fun e w' => ∃ p M, e = .returned (.pointer (some ⟨p, 0, none⟩)) ∧ BoAt w.heap.size p M [] w' ∧ Below w.heap.size w w' := by
 have hmm := @run_makeMap Tryz.prog
 go_enter Tryz.func42, Tryz.ntmps42
 go_wp2_with fail
 go_ret
 refine ⟨_, fun k => k = w.heap.size + 1 ∨ k = w.heap.size, rfl, ⟨w.heap.size, [], ⟨?_, ?_, Rl.nil, Nat.le_succ _, Nat.le_refl _⟩, fun k => Iff.rfl⟩, (al _).alloc (by simp) _⟩
 ·have := heap_alloc_new (w.alloc (.map #[] 0)) (.cells #[.map (some w.heap.size)] 174)
  rwa [size_al] at this
 ·exact (Gv.At.new w).on (al _)
theorem eight_kept (W : World) (b : Nat) (x : Vd) : Kept (fun i => i = b) W ((((((((W.setCell ⟨b, 0, none⟩ (.int .u32 x.c)).setCell ⟨b, 1, none⟩ (.int .u32 x.n)).setCell ⟨b, 2, none⟩ (.int .u64 x.sp)).setCell ⟨b, 3, none⟩ (.int .u32 x.sl)).setCell ⟨b, 4, none⟩ (.int .u64 x.ap)).setCell ⟨b, 5, none⟩ (.int .u32 x.al)).setCell ⟨b, 6, none⟩ (.int .u8 x.pt)).setCell ⟨b, 7, none⟩ (.bool x.dn)) := by
 have t : ∀ {w1 w2 w3 : World}, Kept (fun i => i = b) w1 w2 → Kept (fun i => i = b) w2 w3 → Kept (fun i => i = b) w1 w3 := fun h k => h.trans k (fun i e => .inl e)
 exact t (t (t (t (t (t (t (set_kept' _ _ _ _) (set_kept' _ _ _ _)) (set_kept' _ _ _ _)) (set_kept' _ _ _ _)) (set_kept' _ _ _ _)) (set_kept' _ _ _ _)) (set_kept' _ _ _ _)) (set_kept' _ _ _ _)
theorem of15 {B p hb : Nat} {m K : Bk} {w : World} (c n : Int) (h : Bo B p hb m K w) : Calls Tryz.prog 175 #[.pointer (some ⟨p, 0, none⟩), .agg #[.int .u32 c, .int .u32 n]] w fun e w' => e = .returned (ofV (getB c n K)) ∧ Below w.heap.size w w' := by
 obtain ⟨Wa, hWa⟩ : ∃ Wa, w.alloc (.cells #[.int .u32 c, .int .u32 n] 30) = Wa := ⟨_, rfl⟩
 have hba : Below w.heap.size w Wa := by rw [← hWa]; exact al _
 have hxa : Wa.heap[w.heap.size]? = some (.cells #[.int .u32 c, .int .u32 n] 30 (0, 0)) := by rw [← hWa]; exact heap_alloc_new w _
 have hsa : Wa.heap.size = w.heap.size + 1 := by rw [← hWa]; simp
 obtain ⟨W0, hW0⟩ : ∃ W0, Wa.alloc (.cells #[.int .u32 0, .int .u32 0, .int .u64 0, .int .u32 0, .int .u64 0, .int .u32 0, .int .u8 0, .bool false] 188) = W0 := ⟨_, rfl⟩
 have hb0' : Below Wa.heap.size Wa W0 := by rw [← hW0]; exact al _
 have hb0 : Below w.heap.size w W0 := hba.trans (hb0'.mono hba.size)
 have hx0 : W0.heap[w.heap.size]? = some (.cells #[.int .u32 c, .int .u32 n] 30 (0, 0)) := by rw [hb0'.block _ (Array.getElem?_eq_some_iff.1 hxa).1]; exact hxa
 have hr0 : W0.heap[w.heap.size + 1]? = some (.cells #[.int .u32 0, .int .u32 0, .int .u64 0, .int .u32 0, .int .u64 0, .int .u32 0, .int .u8 0, .bool false] 188 (0, 0)) := by rw [← hsa, ← hW0]; exact heap_alloc_new Wa _
 have hs0 : W0.heap.size = w.heap.size + 2 := by rw [← hW0, size_al, hsa]
 obtain ⟨W1, hW1⟩ : ∃ W1, W0.alloc (.cells #[.int .u32 0, .int .u32 0, .int .u64 0, .int .u32 0, .int .u64 0, .int .u32 0, .int .u8 0, .bool false] 188) = W1 := ⟨_, rfl⟩
 have hb1' : Below W0.heap.size W0 W1 := by rw [← hW1]; exact al _
 have hx1 : W1.heap[w.heap.size]? = some (.cells #[.int .u32 c, .int .u32 n] 30 (0, 0)) := by rw [hb1'.block _ (Array.getElem?_eq_some_iff.1 hx0).1]; exact hx0
 have hr1 : W1.heap[w.heap.size + 1]? = some (.cells #[.int .u32 0, .int .u32 0, .int .u64 0, .int .u32 0, .int .u64 0, .int .u32 0, .int .u8 0, .bool false] 188 (0, 0)) := by rw [hb1'.block _ (Array.getElem?_eq_some_iff.1 hr0).1]; exact hr0
 have hv1 : W1.heap[W0.heap.size]? = some (.cells #[.int .u32 0, .int .u32 0, .int .u64 0, .int .u32 0, .int .u64 0, .int .u32 0, .int .u8 0, .bool false] 188 (0, 0)) := by rw [← hW1]; exact heap_alloc_new W0 _
 have h0 := h.on hb0
 have h1 := h0.on hb1'
 have hgK := h.rel.get c n
 have q0 : (Instr.lookup 172 (.map (some hb)) (.agg #[.int .u32 c, .int .u32 n]) true).run Tryz.prog W0 = _ := run_lookv h0.map c n
 have q1 : (Instr.lookup 172 (.map (some hb)) (.agg #[.int .u32 c, .int .u32 n]) true).run Tryz.prog W0.drew = _ := run_lookv (w := W0.drew) h0.map c n
 have q2 : (Instr.lookup 172 (.map (some hb)) (.agg #[.int .u32 c, .int .u32 n]) true).run Tryz.prog W1.drew = _ := run_lookv (w := W1.drew) h1.map c n
 rw [hgK] at q0 q1 q2
 have c0 := h0.cell
 have c1 := h1.cell
 rw [ofV_eq]
 generalize (getB c n K).isSome = z at *
 generalize vz (getB c n K) = x at *
 obtain ⟨bt, hbt⟩ : ∃ bt, w.heap.size = bt := ⟨_, rfl⟩
 obtain ⟨br, hbr⟩ : ∃ br, w.heap.size + 1 = br := ⟨_, rfl⟩
 obtain ⟨bv, hbv⟩ : ∃ bv, W0.heap.size = bv := ⟨_, rfl⟩
 rw [hbt] at hx0 hx1
 rw [hbr] at hr0 hr1
 rw [hbv] at hv1
 have HBF : Hid (Below w.heap.size w W1) := hb0.trans (hb1'.mono hb0.size)
 have HN : Hid (w.heap.size ≤ bv ∧ br ≠ bv ∧ w.heap.size ≤ br) := by
  refine ⟨?_, ?_, ?_⟩ <;> omega
 have HR : Hid (W1.heap[br]? = some (.cells #[.int .u32 0, .int .u32 0, .int .u64 0, .int .u32 0, .int .u64 0, .int .u32 0, .int .u8 0, .bool false] 188 (0, 0)) ∧ W1.heap[bv]? = some (.cells #[.int .u32 0, .int .u32 0, .int .u64 0, .int .u32 0, .int .u64 0, .int .u32 0, .int .u8 0, .bool false] 188 (0, 0))) := ⟨hr1, hv1⟩
 have d0 := block_cell (j := 0) hx0 rfl
 have d1 := block_cell (j := 1) hx0 rfl
 have e0 := block_cell (j := 0) hx1 rfl
 have e1 := block_cell (j := 1) hx1 rfl
 have z0 := block_cell (j := 0) hv1 rfl
 have z1 := block_cell (j := 1) hv1 rfl
 have z2 := block_cell (j := 2) hv1 rfl
 have z3 := block_cell (j := 3) hv1 rfl
 have z4 := block_cell (j := 4) hv1 rfl
 have z5 := block_cell (j := 5) hv1 rfl
 have z6 := block_cell (j := 6) hv1 rfl
 have z7 := block_cell (j := 7) hv1 rfl
 have f0 : W1.frozen? ⟨bv, 0, none⟩ = false := block_frozen hv1 0
 have f1 : W1.frozen? ⟨bv, 1, none⟩ = false := block_frozen hv1 1
 have f2 : W1.frozen? ⟨bv, 2, none⟩ = false := block_frozen hv1 2
 have f3 : W1.frozen? ⟨bv, 3, none⟩ = false := block_frozen hv1 3
 have f4 : W1.frozen? ⟨bv, 4, none⟩ = false := block_frozen hv1 4
 have f5 : W1.frozen? ⟨bv, 5, none⟩ = false := block_frozen hv1 5
 have f6 : W1.frozen? ⟨bv, 6, none⟩ = false := block_frozen hv1 6
 have f7 : W1.frozen? ⟨bv, 7, none⟩ = false := block_frozen hv1 7
 clear h h0 h1 hb0 hb0' hb1' hba hxa hx0 hx1 hr0 hr1 hv1 hgK
 simp only [vdV] at q0 q1 q2
 rw [hbt] at hbr hsa hs0
 have hsa' : Wa.heap.size = br := by omega
 clear hbr hsa hs0
 go_enter Tryz.func175, Tryz.ntmps175
 go_wp2_with fail
 go_region
 obtain ⟨X, hX⟩ : ∃ X, ((((((((W1.setCell ⟨bv, 0, none⟩ (.int .u32 x.c)).setCell ⟨bv, 1, none⟩ (.int .u32 x.n)).setCell ⟨bv, 2, none⟩ (.int .u64 x.sp)).setCell ⟨bv, 3, none⟩ (.int .u32 x.sl)).setCell ⟨bv, 4, none⟩ (.int .u64 x.ap)).setCell ⟨bv, 5, none⟩ (.int .u32 x.al)).setCell ⟨bv, 6, none⟩ (.int .u8 x.pt)).setCell ⟨bv, 7, none⟩ (.bool x.dn)) = X := ⟨_, rfl⟩
 have HX : Hid (X.heap[bv]? = some (.cells #[.int .u32 x.c, .int .u32 x.n, .int .u64 x.sp, .int .u32 x.sl, .int .u64 x.ap, .int .u32 x.al, .int .u8 x.pt, .bool x.dn] 188 (0, 0)) ∧ X.heap[br]? = some (.cells #[.int .u32 0, .int .u32 0, .int .u64 0, .int .u32 0, .int .u64 0, .int .u32 0, .int .u8 0, .bool false] 188 (0, 0)) ∧ Below w.heap.size w X) := by
  have hk := eight_kept W1 bv x
  have i1 := bx8 x HR.out.2
  have i2 := bx8_below x HBF.out HN.out.1
  rw [hX] at hk i1 i2
  exact ⟨i1, (hk.block br (Array.getElem?_eq_some_iff.1 HR.out.1).1 HN.out.2.1).trans HR.out.1, i2⟩
 rw [hX]
 clear hX
 obtain ⟨W2, hW2⟩ : ∃ W2, X.drew = W2 := ⟨_, rfl⟩
 have H2 : Hid (W2.heap[bv]? = some (.cells #[.int .u32 x.c, .int .u32 x.n, .int .u64 x.sp, .int .u32 x.sl, .int .u64 x.ap, .int .u32 x.al, .int .u8 x.pt, .bool x.dn] 188 (0, 0)) ∧ W2.heap[br]? = some (.cells #[.int .u32 0, .int .u32 0, .int .u64 0, .int .u32 0, .int .u64 0, .int .u32 0, .int .u8 0, .bool false] 188 (0, 0)) ∧ Below w.heap.size w W2) := by
  rw [← hW2]
  exact ⟨HX.out.1, HX.out.2.1, HX.out.2.2.drew⟩
 rw [hW2]
 clear HX hW2 q0 q1 q2 c0 c1 d0 d1 e0 e1 z0 z1 z2 z3 z4 z5 z6 z7 f0 f1 f2 f3 f4 f5 f6 f7 HR HBF hWa hW0 hW1 hbt hbv hsa'
 have z0 := block_cell (j := 0) H2.out.1 rfl
 have z1 := block_cell (j := 1) H2.out.1 rfl
 have z2 := block_cell (j := 2) H2.out.1 rfl
 have z3 := block_cell (j := 3) H2.out.1 rfl
 have z4 := block_cell (j := 4) H2.out.1 rfl
 have z5 := block_cell (j := 5) H2.out.1 rfl
 have z6 := block_cell (j := 6) H2.out.1 rfl
 have z7 := block_cell (j := 7) H2.out.1 rfl
 have y0 := block_cell (j := 0) H2.out.2.1 rfl
 have y1 := block_cell (j := 1) H2.out.2.1 rfl
 have y2 := block_cell (j := 2) H2.out.2.1 rfl
 have y3 := block_cell (j := 3) H2.out.2.1 rfl
 have y4 := block_cell (j := 4) H2.out.2.1 rfl
 have y5 := block_cell (j := 5) H2.out.2.1 rfl
 have y6 := block_cell (j := 6) H2.out.2.1 rfl
 have y7 := block_cell (j := 7) H2.out.2.1 rfl
 have f0 : W2.frozen? ⟨br, 0, none⟩ = false := block_frozen H2.out.2.1 0
 have f1 : W2.frozen? ⟨br, 1, none⟩ = false := block_frozen H2.out.2.1 1
 have f2 : W2.frozen? ⟨br, 2, none⟩ = false := block_frozen H2.out.2.1 2
 have f3 : W2.frozen? ⟨br, 3, none⟩ = false := block_frozen H2.out.2.1 3
 have f4 : W2.frozen? ⟨br, 4, none⟩ = false := block_frozen H2.out.2.1 4
 have f5 : W2.frozen? ⟨br, 5, none⟩ = false := block_frozen H2.out.2.1 5
 have f6 : W2.frozen? ⟨br, 6, none⟩ = false := block_frozen H2.out.2.1 6
 have f7 : W2.frozen? ⟨br, 7, none⟩ = false := block_frozen H2.out.2.1 7
 have HI : Hid _ := bx8 x H2.out.2.1
 have HBw : Hid _ := bx8_below x H2.out.2.2 HN.out.2.2
 go_wp2_with fail
 have g0 : ((((((((W2.setCell ⟨br, 0, none⟩ (.int .u32 x.c)).setCell ⟨br, 1, none⟩ (.int .u32 x.n)).setCell ⟨br, 2, none⟩ (.int .u64 x.sp)).setCell ⟨br, 3, none⟩ (.int .u32 x.sl)).setCell ⟨br, 4, none⟩ (.int .u64 x.ap)).setCell ⟨br, 5, none⟩ (.int .u32 x.al)).setCell ⟨br, 6, none⟩ (.int .u8 x.pt)).setCell ⟨br, 7, none⟩ (.bool x.dn)).cell? ⟨br, 0, none⟩ = some (.int .u32 x.c) := block_cell HI.out rfl
 have g1 : ((((((((W2.setCell ⟨br, 0, none⟩ (.int .u32 x.c)).setCell ⟨br, 1, none⟩ (.int .u32 x.n)).setCell ⟨br, 2, none⟩ (.int .u64 x.sp)).setCell ⟨br, 3, none⟩ (.int .u32 x.sl)).setCell ⟨br, 4, none⟩ (.int .u64 x.ap)).setCell ⟨br, 5, none⟩ (.int .u32 x.al)).setCell ⟨br, 6, none⟩ (.int .u8 x.pt)).setCell ⟨br, 7, none⟩ (.bool x.dn)).cell? ⟨br, 1, none⟩ = some (.int .u32 x.n) := block_cell HI.out rfl
 have g2 : ((((((((W2.setCell ⟨br, 0, none⟩ (.int .u32 x.c)).setCell ⟨br, 1, none⟩ (.int .u32 x.n)).setCell ⟨br, 2, none⟩ (.int .u64 x.sp)).setCell ⟨br, 3, none⟩ (.int .u32 x.sl)).setCell ⟨br, 4, none⟩ (.int .u64 x.ap)).setCell ⟨br, 5, none⟩ (.int .u32 x.al)).setCell ⟨br, 6, none⟩ (.int .u8 x.pt)).setCell ⟨br, 7, none⟩ (.bool x.dn)).cell? ⟨br, 2, none⟩ = some (.int .u64 x.sp) := block_cell HI.out rfl
 have g3 : ((((((((W2.setCell ⟨br, 0, none⟩ (.int .u32 x.c)).setCell ⟨br, 1, none⟩ (.int .u32 x.n)).setCell ⟨br, 2, none⟩ (.int .u64 x.sp)).setCell ⟨br, 3, none⟩ (.int .u32 x.sl)).setCell ⟨br, 4, none⟩ (.int .u64 x.ap)).setCell ⟨br, 5, none⟩ (.int .u32 x.al)).setCell ⟨br, 6, none⟩ (.int .u8 x.pt)).setCell ⟨br, 7, none⟩ (.bool x.dn)).cell? ⟨br, 3, none⟩ = some (.int .u32 x.sl) := block_cell HI.out rfl
 have g4 : ((((((((W2.setCell ⟨br, 0, none⟩ (.int .u32 x.c)).setCell ⟨br, 1, none⟩ (.int .u32 x.n)).setCell ⟨br, 2, none⟩ (.int .u64 x.sp)).setCell ⟨br, 3, none⟩ (.int .u32 x.sl)).setCell ⟨br, 4, none⟩ (.int .u64 x.ap)).setCell ⟨br, 5, none⟩ (.int .u32 x.al)).setCell ⟨br, 6, none⟩ (.int .u8 x.pt)).setCell ⟨br, 7, none⟩ (.bool x.dn)).cell? ⟨br, 4, none⟩ = some (.int .u64 x.ap) := block_cell HI.out rfl
 have g5 : ((((((((W2.setCell ⟨br, 0, none⟩ (.int .u32 x.c)).setCell ⟨br, 1, none⟩ (.int .u32 x.n)).setCell ⟨br, 2, none⟩ (.int .u64 x.sp)).setCell ⟨br, 3, none⟩ (.int .u32 x.sl)).setCell ⟨br, 4, none⟩ (.int .u64 x.ap)).setCell ⟨br, 5, none⟩ (.int .u32 x.al)).setCell ⟨br, 6, none⟩ (.int .u8 x.pt)).setCell ⟨br, 7, none⟩ (.bool x.dn)).cell? ⟨br, 5, none⟩ = some (.int .u32 x.al) := block_cell HI.out rfl
 have g6 : ((((((((W2.setCell ⟨br, 0, none⟩ (.int .u32 x.c)).setCell ⟨br, 1, none⟩ (.int .u32 x.n)).setCell ⟨br, 2, none⟩ (.int .u64 x.sp)).setCell ⟨br, 3, none⟩ (.int .u32 x.sl)).setCell ⟨br, 4, none⟩ (.int .u64 x.ap)).setCell ⟨br, 5, none⟩ (.int .u32 x.al)).setCell ⟨br, 6, none⟩ (.int .u8 x.pt)).setCell ⟨br, 7, none⟩ (.bool x.dn)).cell? ⟨br, 6, none⟩ = some (.int .u8 x.pt) := block_cell HI.out rfl
 have g7 : ((((((((W2.setCell ⟨br, 0, none⟩ (.int .u32 x.c)).setCell ⟨br, 1, none⟩ (.int .u32 x.n)).setCell ⟨br, 2, none⟩ (.int .u64 x.sp)).setCell ⟨br, 3, none⟩ (.int .u32 x.sl)).setCell ⟨br, 4, none⟩ (.int .u64 x.ap)).setCell ⟨br, 5, none⟩ (.int .u32 x.al)).setCell ⟨br, 6, none⟩ (.int .u8 x.pt)).setCell ⟨br, 7, none⟩ (.bool x.dn)).cell? ⟨br, 7, none⟩ = some (.bool x.dn) := block_cell HI.out rfl
 refine bodyPost_ret (v := .tuple #[vdV x, .bool z]) (by simp [results, Tryz.results175, go_sem, g0, g1, g2, g3, g4, g5, g6, g7, vdV]) rfl ?_
 exact ⟨rfl, HBw.out⟩
end Go.Proofs.YtajjnmdomabmkaaGreat.Ver
namespace Go.Proofs.YtajjnmdomabmkaaGreat.Ver
open Go.RowKit
theorem run_nilmap (b : Nat) (w : World) : (binOp .eql 172 (.map (some b)) (.map none)).run Tryz.prog w = .ok (.bool false) w := by
 have e := run_equal_map_nil (P := Tryz.prog) w 172 30 188 (some b) Tryz.underlying172
 simp [binOp, e, Result.andThen]
theorem run_nq37 (x y : Vd) (w : World) : (binOp .neq 188 (.agg #[.int .u32 x.c, .int .u32 x.n, .int .u64 x.sp, .int .u32 x.sl, .int .u64 x.ap, .int .u32 x.al, .int .u8 x.pt, .bool x.dn]) (.agg #[.int .u32 y.c, .int .u32 y.n, .int .u64 y.sp, .int .u32 y.sl, .int .u64 y.ap, .int .u32 y.al, .int .u8 y.pt, .bool y.dn])).run Tryz.prog w = .ok (.bool (!eqV x y)) w := by
 obtain ⟨c, n, sp, sl, ap, al, pt, dn⟩ := x
 obtain ⟨c', n', sp', sl', ap', al', pt', dn'⟩ := y
 simp only [eqV]
 simp [go_sem]
 repeat' split
 all_goals simp_all
structure Sb (B p hb : Nat) (m K : Bk) (w : World) (bv : Nat) (v : Vd) (W : World) : Prop where
 bo : Bo B p hb m K W
 bel : Below w.heap.size w W
 bx : W.heap[bv]? = some (.cells #[.int .u32 v.c, .int .u32 v.n, .int .u64 v.sp, .int .u32 v.sl, .int .u64 v.ap, .int .u32 v.al, .int .u8 v.pt, .bool v.dn] 188 (0, 0))
theorem Sb.on {B p hb : Nat} {m K : Bk} {w W W' : World} {bv : Nat} {v : Vd} (h : Sb B p hb m K w bv v W) (hb' : Below W.heap.size W W') : Sb B p hb m K w bv v W' :=
 ⟨h.bo.on hb', h.bel.trans (hb'.mono h.bel.size), by rw [hb'.block _ (Array.getElem?_eq_some_iff.1 h.bx).1]; exact h.bx⟩
theorem bo_same {B p hb : Nat} {m K : Bk} {w W : World} (h : Bo B p hb m K W) (hb' : Below w.heap.size w W) : ∃ M', BoAt B p M' K W ∧ Kept (fun k => k = p ∨ k = hb) w W ∧ ∀ i, M' i → (i = p ∨ i = hb) ∨ w.heap.size ≤ i :=
 ⟨fun k => k = p ∨ k = hb, ⟨hb, m, h, fun _ => Iff.rfl⟩, Kept.of_below hb', fun _ hi => .inl hi⟩
theorem bo_turn {B p hb : Nat} {m m' K K' : Bk} {w W W' : World} (h : Bo B p hb m K W) (hb' : Below w.heap.size w W) (hk : Kept (fun i => i = hb) W W') (hm : Gv.At kd vdV hb m' W') (hr : Rl m' K') : ∃ M', BoAt B p M' K' W' ∧ Kept (fun k => k = p ∨ k = hb) w W' ∧ ∀ i, M' i → (i = p ∨ i = hb) ∨ w.heap.size ≤ i := by
 refine ⟨fun k => k = p ∨ k = hb, ⟨hb, m', ⟨?_, hm, hr, h.lo, h.lh⟩, fun _ => Iff.rfl⟩, ?_, fun _ hi => .inl hi⟩
 ·rw [hk.block p (Array.getElem?_eq_some_iff.1 h.box).1 h.ne]
  exact h.box
 ·exact (Kept.of_below (F := fun k => k = p ∨ k = hb) hb').trans hk (fun _ e => .inl (.inr e))
theorem set9 {B p hb : Nat} {m K : Bk} {w : World} (v : Vd) (h : Bo B p hb m K w) : Calls Tryz.prog 82 #[.pointer (some ⟨p, 0, none⟩), .agg #[.int .u32 v.c, .int .u32 v.n, .int .u64 v.sp, .int .u32 v.sl, .int .u64 v.ap, .int .u32 v.al, .int .u8 v.pt, .bool v.dn]] w fun e w' => e = .returned (.int .i64 (setB v K).2) ∧ ∃ M', BoAt B p M' (setB v K).1 w' ∧ Kept (fun k => k = p ∨ k = hb) w w' ∧ ∀ i, M' i → (i = p ∨ i = hb) ∨ w.heap.size ≤ i := by
 obtain ⟨W0, hW0⟩ : ∃ W0, w.alloc (.cells #[.int .u32 v.c, .int .u32 v.n, .int .u64 v.sp, .int .u32 v.sl, .int .u64 v.ap, .int .u32 v.al, .int .u8 v.pt, .bool v.dn] 188) = W0 := ⟨_, rfl⟩
 have hb0 : Below w.heap.size w W0 := by rw [← hW0]; exact al _
 have hx0 : W0.heap[w.heap.size]? = some (.cells #[.int .u32 v.c, .int .u32 v.n, .int .u64 v.sp, .int .u32 v.sl, .int .u64 v.ap, .int .u32 v.al, .int .u8 v.pt, .bool v.dn] 188 (0, 0)) := by rw [← hW0]; exact heap_alloc_new w _
 have H0 : Hid (Sb B p hb m K w w.heap.size v W0) := ⟨h.on hb0, hb0, hx0⟩
 have c0 := H0.out.bo.cell
 have x0 := block_cell (j := 0) hx0 rfl
 have x1 := block_cell (j := 1) hx0 rfl
 have x2 := block_cell (j := 2) hx0 rfl
 have x3 := block_cell (j := 3) hx0 rfl
 have x4 := block_cell (j := 4) hx0 rfl
 have x5 := block_cell (j := 5) hx0 rfl
 have x6 := block_cell (j := 6) hx0 rfl
 have x7 := block_cell (j := 7) hx0 rfl
 have qn := run_nilmap hb
 have CR : Hid (∀ W, Sb B p hb m K w w.heap.size v W → Calls Tryz.prog 174 #[.agg #[.int .u32 v.c, .int .u32 v.n, .int .u64 v.sp, .int .u32 v.sl, .int .u64 v.ap, .int .u32 v.al, .int .u8 v.pt, .bool v.dn]] W fun e w' => e = .returned (.bool (okV v)) ∧ Hid (Sb B p hb m K w w.heap.size v w')) := fun W hW => (right19 v W).mono (by
  rintro e w' ⟨rfl, hb'⟩
  exact ⟨rfl, hW.on hb'⟩)
 have HG : Hid (m.find? (Gv.isK kd (kd v)) = getB v.c v.n K) := h.rel.get v.c v.n
 have CO : Hid (∀ W, Sb B p hb m K w w.heap.size v W → Calls Tryz.prog 175 #[.pointer (some ⟨p, 0, none⟩), .agg #[.int .u32 v.c, .int .u32 v.n]] W fun e w' => e = .returned (.tuple #[.agg #[.int .u32 (vz (getB v.c v.n K)).c, .int .u32 (vz (getB v.c v.n K)).n, .int .u64 (vz (getB v.c v.n K)).sp, .int .u32 (vz (getB v.c v.n K)).sl, .int .u64 (vz (getB v.c v.n K)).ap, .int .u32 (vz (getB v.c v.n K)).al, .int .u8 (vz (getB v.c v.n K)).pt, .bool (vz (getB v.c v.n K)).dn], .bool (getB v.c v.n K).isSome]) ∧ Hid (Sb B p hb m K w w.heap.size v w')) := fun W hW => (of15 v.c v.n hW.bo).mono (by
  rintro e w' ⟨rfl, hb'⟩
  exact ⟨by rw [ofV_eq]; rfl, hW.on hb'⟩)
 have HR : Hid (Rl m K) := h.rel
 have HS1 : Hid (okV v = false → setB v K = (K, 1)) := fun e => by unfold setB; rw [e]; rfl
 have HS2 : Hid (okV v = true → getB v.c v.n K = none → setB v K = (insB v K, 0)) := fun e e2 => by unfold setB; rw [e, e2]; rfl
 have HS3 : Hid (∀ o, okV v = true → getB v.c v.n K = some o → setB v K = (K, if eqV { o with dn := v.dn } v then 0 else 40)) := fun o e e2 => by unfold setB; rw [e, e2]; rfl
 clear h hb0 hx0
 generalize okV v = r at *
 obtain ⟨bv, hbv⟩ : ∃ bv, w.heap.size = bv := ⟨_, rfl⟩
 rw [hbv] at x0 x1 x2 x3 x4 x5 x6 x7 H0 CR CO
 go_enter Tryz.func82, Tryz.ntmps82
 go_wp2_with fail
 refine (CR.out _ H0.out).mono ?_
 rintro e w1 ⟨rfl, H1⟩
 clear x0 x1 x2 x3 x4 x5 x6 x7 c0 hW0 CR H0 hbv
 cases r
 ·go_wp2_with fail
  go_ret
  rw [HS1.out (by simp)]
  exact ⟨rfl, bo_same H1.out.bo H1.out.bel⟩
 ·have x0 := block_cell (j := 0) H1.out.bx rfl
  have x1 := block_cell (j := 1) H1.out.bx rfl
  go_wp2_with fail
  refine (CO.out _ H1.out).mono ?_
  rintro e w2 ⟨rfl, H2⟩
  clear x0 x1 CO HS1 H1
  cases hg : getB v.c v.n K with
  | none =>
   have HS : Hid (setB v K = (insB v K, 0)) := HS2.out (by simp) hg
   have HGN : Hid (getB v.c v.n K = none) := hg
   rw [hg] at HG
   simp only [Option.isSome_none]
   generalize vz none = x
   clear HS2 HS3 hg
   obtain ⟨W3, hW3⟩ : ∃ W3, w2.alloc (.cells #[.int .u32 x.c, .int .u32 x.n, .int .u64 x.sp, .int .u32 x.sl, .int .u64 x.ap, .int .u32 x.al, .int .u8 x.pt, .bool x.dn] 188) = W3 := ⟨_, rfl⟩
   have H3 : Hid (Sb B p hb m K w bv v W3) := by rw [← hW3]; exact H2.out.on (al _)
   obtain ⟨wU, hrun, hmU, hkU, -⟩ := Gv.run_upd0 (w := W3.drew) Tryz.underlying172 (H3.out.on ((Below.refl _ _).drew)).bo.map v HG.out
   have HU : Hid (Gv.At kd vdV hb (m ++ [v]) wU ∧ Kept (fun i => i = hb) W3.drew wU) := ⟨hmU, hkU⟩
   have hru : (Instr.mapUpdate 172 (.map (some hb)) (.agg #[.int .u32 v.c, .int .u32 v.n]) (.agg #[.int .u32 v.c, .int .u32 v.n, .int .u64 v.sp, .int .u32 v.sl, .int .u64 v.ap, .int .u32 v.al, .int .u8 v.pt, .bool v.dn])).run Tryz.prog W3.drew = .ok () wU := hrun
   clear hrun hmU hkU H2
   have c0 := H3.out.bo.cell
   have x0 := block_cell (j := 0) H3.out.bx rfl
   have x1 := block_cell (j := 1) H3.out.bx rfl
   have x2 := block_cell (j := 2) H3.out.bx rfl
   have x3 := block_cell (j := 3) H3.out.bx rfl
   have x4 := block_cell (j := 4) H3.out.bx rfl
   have x5 := block_cell (j := 5) H3.out.bx rfl
   have x6 := block_cell (j := 6) H3.out.bx rfl
   have x7 := block_cell (j := 7) H3.out.bx rfl
   go_wp2_with fail
   go_region
   go_wp2_with fail
   go_ret
   rw [HS.out]
   exact ⟨rfl, bo_turn (W := W3.drew) (H3.out.on ((Below.refl _ _).drew)).bo (H3.out.on ((Below.refl _ _).drew)).bel HU.out.2 HU.out.1 (HR.out.ins HGN.out)⟩
  | some o =>
   have HS : Hid (setB v K = (K, if eqV { o with dn := v.dn } v then 0 else 40)) := HS3.out o (by simp) hg
   simp only [vz, Option.getD_some, Option.isSome_some]
   clear HS2 HS3 hg HG
   obtain ⟨W3, hW3⟩ : ∃ W3, w2.alloc (.cells #[.int .u32 o.c, .int .u32 o.n, .int .u64 o.sp, .int .u32 o.sl, .int .u64 o.ap, .int .u32 o.al, .int .u8 o.pt, .bool o.dn] 188) = W3 := ⟨_, rfl⟩
   have H3 : Hid (Sb B p hb m K w bv v W3 ∧ W3.heap[w2.heap.size]? = some (.cells #[.int .u32 o.c, .int .u32 o.n, .int .u64 o.sp, .int .u32 o.sl, .int .u64 o.ap, .int .u32 o.al, .int .u8 o.pt, .bool o.dn] 188 (0, 0)) ∧ bv < w2.heap.size) := by rw [← hW3]; exact ⟨H2.out.on (al _), heap_alloc_new w2 _, (Array.getElem?_eq_some_iff.1 H2.out.bx).1⟩
   have HLo : Hid (w.heap.size ≤ w2.heap.size) := H2.out.bel.size
   have HBo : Hid (Kept (fun i => i = w2.heap.size) W3 (W3.setCell ⟨w2.heap.size, 7, none⟩ (.bool v.dn)) ∧ (W3.setCell ⟨w2.heap.size, 7, none⟩ (.bool v.dn)).heap[w2.heap.size]? = some (.cells #[.int .u32 o.c, .int .u32 o.n, .int .u64 o.sp, .int .u32 o.sl, .int .u64 o.ap, .int .u32 o.al, .int .u8 o.pt, .bool v.dn] 188 (0, 0)) ∧ p < w2.heap.size ∧ hb < w2.heap.size) := ⟨set_kept' _ _ _ _, block_set _ H3.out.2.1, (Array.getElem?_eq_some_iff.1 H2.out.bo.box).1, H2.out.bo.map.lt⟩
   clear H2
   obtain ⟨bo, hbo⟩ : ∃ bo, w2.heap.size = bo := ⟨_, rfl⟩
   rw [hbo] at H3 HBo HLo
   have x7 := block_cell (j := 7) H3.out.1.bx rfl
   have y7 := block_cell (j := 7) H3.out.2.1 rfl
   have f7 : W3.frozen? ⟨bo, 7, none⟩ = false := block_frozen H3.out.2.1 7
   obtain ⟨W4, hW4⟩ : ∃ W4, W3.setCell ⟨bo, 7, none⟩ (.bool v.dn) = W4 := ⟨_, rfl⟩
   rw [hW4] at HBo
   have H4 : Hid (Sb B p hb m K w bv v W4) := by
    have hk := HBo.out.1
    have n1 := H3.out.2.2
    have n2 := HBo.out.2.2
    refine ⟨H3.out.1.bo.kept hk (by omega) (by omega), H3.out.1.bel.trans (hk.below H3.out.1.bel.size (fun k e => by rw [e]; exact HLo.out)), ?_⟩
    rw [hk.block bv (Array.getElem?_eq_some_iff.1 H3.out.1.bx).1 (by omega)]
    exact H3.out.1.bx
   have u0 := block_cell (j := 0) H4.out.bx rfl
   have u1 := block_cell (j := 1) H4.out.bx rfl
   have u2 := block_cell (j := 2) H4.out.bx rfl
   have u3 := block_cell (j := 3) H4.out.bx rfl
   have u4 := block_cell (j := 4) H4.out.bx rfl
   have u5 := block_cell (j := 5) H4.out.bx rfl
   have u6 := block_cell (j := 6) H4.out.bx rfl
   have u7 := block_cell (j := 7) H4.out.bx rfl
   have z0 := block_cell (j := 0) HBo.out.2.1 rfl
   have z1 := block_cell (j := 1) HBo.out.2.1 rfl
   have z2 := block_cell (j := 2) HBo.out.2.1 rfl
   have z3 := block_cell (j := 3) HBo.out.2.1 rfl
   have z4 := block_cell (j := 4) HBo.out.2.1 rfl
   have z5 := block_cell (j := 5) HBo.out.2.1 rfl
   have z6 := block_cell (j := 6) HBo.out.2.1 rfl
   have z7 := block_cell (j := 7) HBo.out.2.1 rfl
   have hq := run_nq37 { o with dn := v.dn } v
   dsimp only at hq
   generalize eqV { o with dn := v.dn } v = q at *
   cases q
   ·go_wp2_with fail
    go_ret
    rw [HS.out]
    exact ⟨rfl, bo_same H4.out.bo H4.out.bel⟩
   ·go_wp2_with fail
    go_ret
    rw [HS.out]
    exact ⟨rfl, bo_same H4.out.bo H4.out.bel⟩
end Go.Proofs.YtajjnmdomabmkaaGreat.Ver
namespace Go.Proofs.YtajjnmdomabmkaaGreat.Ver
open Go.RowKit
theorem mono_M {p hb : Nat} {M : Nat → Prop} {w w' : World} {X : (Nat → Prop) → Prop} (hM : ∀ k, M k ↔ k = p ∨ k = hb) (h : ∃ M', X M' ∧ Kept (fun k => k = p ∨ k = hb) w w' ∧ ∀ i, M' i → (i = p ∨ i = hb) ∨ w.heap.size ≤ i) : ∃ M', X M' ∧ Kept M w w' ∧ ∀ i, M' i → M i ∨ w.heap.size ≤ i := by
 obtain ⟨M', h1, h2, h3⟩ := h
 refine ⟨M', h1, ⟨h2.os, h2.tape, h2.output, h2.size, fun k hk hn => h2.block k hk (fun e => hn ((hM k).2 e))⟩, fun i hi => ?_⟩
 rcases h3 i hi with e | e
 ·exact .inl ((hM i).2 e)
 ·exact .inr e
theorem bookIfv : Ifv BoAt := {
 lt := fun h k hk => h.lt k hk
 keep := fun h hk hM => h.keep hk hM
 ok := fun h => by obtain ⟨_, _, h, _⟩ := h; exact h.rel.srt
 new := new8
 set := fun v h _ _ => by
  obtain ⟨hb, m, h, hM⟩ := h
  refine (set9 v h).mono ?_
  rintro e w' ⟨he, hx⟩
  exact ⟨he, mono_M hM hx⟩
 of := fun c n h _ _ => by
  obtain ⟨hb, m, h, hM⟩ := h
  exact of15 c n h }
end Go.Proofs.YtajjnmdomabmkaaGreat.Ver
