/-
  The program's book in memory: a box with a Go map of verdicts. New, Of.
-/
import Derived.Test.YtkadaoebehgkbaaLv
namespace Go.Proofs.Ytkadaoebehgkbaa
open Go.RowKit

/-- The box p holds the map hb, whose verdicts are m; in order they are K. -/
structure Bo (B p hb : Nat) (m K : Bk) (w : World) : Prop where
  box : w.heap[p]? = some (.cells #[.map (some hb)] 57 (0, 0))
  map : Gv.At kd vdV hb m w
  rel : Rl m K
  lo : B ≤ p
  lh : B ≤ hb
theorem Bo.kept {B p hb : Nat} {m K : Bk} {w w' : World} {F : Nat → Prop} (h : Bo B p hb m K w) (hk : Kept F w w') (h1 : ¬ F p) (h2 : ¬ F hb) : Bo B p hb m K w' :=
  ⟨by rw [hk.block p (Array.getElem?_eq_some_iff.1 h.box).1 h1]; exact h.box, h.map.kept hk h2, h.rel, h.lo, h.lh⟩
theorem Bo.on {B p hb : Nat} {m K : Bk} {w w' : World} (h : Bo B p hb m K w) (hb' : Below w.heap.size w w') : Bo B p hb m K w' := h.kept (F := fun _ => False) (Kept.of_below hb') (fun h => h) (fun h => h)
theorem Bo.cell {B p hb : Nat} {m K : Bk} {w : World} (h : Bo B p hb m K w) : w.cell? ⟨p, 0, none⟩ = some (.map (some hb)) := block_cell h.box rfl
theorem Bo.ne {B p hb : Nat} {m K : Bk} {w : World} (h : Bo B p hb m K w) : p ≠ hb := by
  obtain ⟨es, cl, h1, _⟩ := h.map
  intro e
  have := h.box
  rw [e, h1] at this
  cases this
def BoAt (B p : Nat) (M : Nat → Prop) (K : Bk) (w : World) : Prop := ∃ hb m, Bo B p hb m K w ∧ ∀ k, M k ↔ k = p ∨ k = hb
theorem BoAt.lt {B p : Nat} {M : Nat → Prop} {K : Bk} {w : World} (h : BoAt B p M K w) (k : Nat) (hk : M k) : B ≤ k ∧ k < w.heap.size := by
  obtain ⟨hb, m, h, hM⟩ := h
  rcases (hM k).1 hk with rfl | rfl
  · exact ⟨h.lo, (Array.getElem?_eq_some_iff.1 h.box).1⟩
  · exact ⟨h.lh, h.map.lt⟩
theorem BoAt.keep {B p : Nat} {M G : Nat → Prop} {K : Bk} {w w' : World} (h : BoAt B p M K w) (hk : Kept G w w') (hM : ∀ k, M k → ¬ G k) : BoAt B p M K w' := by
  obtain ⟨hb, m, h, hM'⟩ := h
  exact ⟨hb, m, h.kept hk (hM p ((hM' p).2 (.inl rfl))) (hM hb ((hM' hb).2 (.inr rfl))), hM'⟩
def vz (o : Option Vd) : Vd := o.getD dv
theorem ofV_eq (o : Option Vd) : ofV o = .tuple #[vdV (vz o), .bool o.isSome] := by cases o <;> rfl
theorem run_lookv {b : Nat} {m : Bk} {w : World} (h : Gv.At kd vdV b m w) (c n : Int) : (Instr.lookup 55 (.map (some b)) (.agg #[.int .u32 c, .int .u32 n]) true).run Try.prog w = .ok (.tuple #[vdV (vz (m.find? (Gv.isK kd (c, n)))), .bool (m.find? (Gv.isK kd (c, n))).isSome]) w := by
  show (Instr.lookup 55 (.map (some b)) (Gv.kx (c, n)) true).run Try.prog w = _
  obtain ⟨es, cl, h1, h2, _⟩ := h
  cases hg : m.find? (Gv.isK kd (c, n)) with
  | none =>
    simp [Instr.lookup, run_underlying Try.underlying55, MapKept.run_getObj_map h1, Gv.run_check, Gv.run_findK (c, n) h2, Gv.idx_none (i := 0) hg, Result.andThen]
    rfl
  | some t =>
    obtain ⟨j, g1, _⟩ := Gv.idx_some (i := 0) hg
    simp [Instr.lookup, run_underlying Try.underlying55, MapKept.run_getObj_map h1, Gv.run_check, Gv.run_findK (c, n) h2, g1, Result.andThen]
    rfl

set_option maxHeartbeats 400000 in
set_option maxRecDepth 100000 in
theorem new8 (w : World) : Calls Try.prog 8 #[] w fun e w' => ∃ p M, e = .returned (.pointer (some ⟨p, 0, none⟩)) ∧ BoAt w.heap.size p M [] w' ∧ Below w.heap.size w w' := by
  have hmm := @run_makeMap Try.prog
  go_enter Try.func8, Try.ntmps8
  go_wp2_with fail
  go_ret
  refine ⟨_, fun k => k = w.heap.size + 1 ∨ k = w.heap.size, rfl, ⟨w.heap.size, [], ⟨?_, ?_, Rl.nil, Nat.le_succ _, Nat.le_refl _⟩, fun k => Iff.rfl⟩, (al _).alloc (by simp) _⟩
  · have := heap_alloc_new (w.alloc (.map #[] 0)) (.cells #[.map (some w.heap.size)] 57)
    rwa [size_al] at this
  · exact (Gv.At.new w).on (al _)

theorem eight_kept (W : World) (b : Nat) (x : Vd) : Kept (fun i => i = b) W ((((((((W.setCell ⟨b, 0, none⟩ (.int .u32 x.c)).setCell ⟨b, 1, none⟩ (.int .u32 x.n)).setCell ⟨b, 2, none⟩ (.int .u64 x.sp)).setCell ⟨b, 3, none⟩ (.int .u32 x.sl)).setCell ⟨b, 4, none⟩ (.int .u64 x.ap)).setCell ⟨b, 5, none⟩ (.int .u32 x.al)).setCell ⟨b, 6, none⟩ (.int .u8 x.pt)).setCell ⟨b, 7, none⟩ (.bool x.dn)) := by
  have t : ∀ {w1 w2 w3 : World}, Kept (fun i => i = b) w1 w2 → Kept (fun i => i = b) w2 w3 → Kept (fun i => i = b) w1 w3 := fun h k => h.trans k (fun i e => .inl e)
  exact t (t (t (t (t (t (t (set_kept' _ _ _ _) (set_kept' _ _ _ _)) (set_kept' _ _ _ _)) (set_kept' _ _ _ _)) (set_kept' _ _ _ _)) (set_kept' _ _ _ _)) (set_kept' _ _ _ _)) (set_kept' _ _ _ _)

set_option maxHeartbeats 1600000 in
set_option maxRecDepth 100000 in
theorem of15 {B p hb : Nat} {m K : Bk} {w : World} (c n : Int) (h : Bo B p hb m K w) : Calls Try.prog 15 #[.pointer (some ⟨p, 0, none⟩), .agg #[.int .u32 c, .int .u32 n]] w fun e w' => e = .returned (ofV (getB c n K)) ∧ Below w.heap.size w w' := by
  obtain ⟨Wa, hWa⟩ : ∃ Wa, w.alloc (.cells #[.int .u32 c, .int .u32 n] 32) = Wa := ⟨_, rfl⟩
  have hba : Below w.heap.size w Wa := by rw [← hWa]; exact al _
  have hxa : Wa.heap[w.heap.size]? = some (.cells #[.int .u32 c, .int .u32 n] 32 (0, 0)) := by rw [← hWa]; exact heap_alloc_new w _
  have hsa : Wa.heap.size = w.heap.size + 1 := by rw [← hWa]; simp
  obtain ⟨W0, hW0⟩ : ∃ W0, Wa.alloc (.cells #[.int .u32 0, .int .u32 0, .int .u64 0, .int .u32 0, .int .u64 0, .int .u32 0, .int .u8 0, .bool false] 37) = W0 := ⟨_, rfl⟩
  have hb0' : Below Wa.heap.size Wa W0 := by rw [← hW0]; exact al _
  have hb0 : Below w.heap.size w W0 := hba.trans (hb0'.mono hba.size)
  have hx0 : W0.heap[w.heap.size]? = some (.cells #[.int .u32 c, .int .u32 n] 32 (0, 0)) := by rw [hb0'.block _ (Array.getElem?_eq_some_iff.1 hxa).1]; exact hxa
  have hr0 : W0.heap[w.heap.size + 1]? = some (.cells #[.int .u32 0, .int .u32 0, .int .u64 0, .int .u32 0, .int .u64 0, .int .u32 0, .int .u8 0, .bool false] 37 (0, 0)) := by rw [← hsa, ← hW0]; exact heap_alloc_new Wa _
  have hs0 : W0.heap.size = w.heap.size + 2 := by rw [← hW0, size_al, hsa]
  obtain ⟨W1, hW1⟩ : ∃ W1, W0.alloc (.cells #[.int .u32 0, .int .u32 0, .int .u64 0, .int .u32 0, .int .u64 0, .int .u32 0, .int .u8 0, .bool false] 37) = W1 := ⟨_, rfl⟩
  have hb1' : Below W0.heap.size W0 W1 := by rw [← hW1]; exact al _
  have hx1 : W1.heap[w.heap.size]? = some (.cells #[.int .u32 c, .int .u32 n] 32 (0, 0)) := by rw [hb1'.block _ (Array.getElem?_eq_some_iff.1 hx0).1]; exact hx0
  have hr1 : W1.heap[w.heap.size + 1]? = some (.cells #[.int .u32 0, .int .u32 0, .int .u64 0, .int .u32 0, .int .u64 0, .int .u32 0, .int .u8 0, .bool false] 37 (0, 0)) := by rw [hb1'.block _ (Array.getElem?_eq_some_iff.1 hr0).1]; exact hr0
  have hv1 : W1.heap[W0.heap.size]? = some (.cells #[.int .u32 0, .int .u32 0, .int .u64 0, .int .u32 0, .int .u64 0, .int .u32 0, .int .u8 0, .bool false] 37 (0, 0)) := by rw [← hW1]; exact heap_alloc_new W0 _
  have h0 := h.on hb0
  have h1 := h0.on hb1'
  have hgK := h.rel.get c n
  have q0 : (Instr.lookup 55 (.map (some hb)) (.agg #[.int .u32 c, .int .u32 n]) true).run Try.prog W0 = _ := run_lookv h0.map c n
  have q1 : (Instr.lookup 55 (.map (some hb)) (.agg #[.int .u32 c, .int .u32 n]) true).run Try.prog W0.drew = _ := run_lookv (w := W0.drew) h0.map c n
  have q2 : (Instr.lookup 55 (.map (some hb)) (.agg #[.int .u32 c, .int .u32 n]) true).run Try.prog W1.drew = _ := run_lookv (w := W1.drew) h1.map c n
  rw [hgK] at q0 q1 q2
  have c0 := h0.cell
  have c1 := h1.cell
  rw [ofV_eq]
  generalize (getB c n K).isSome = z at *
  generalize vz (getB c n K) = x at *
  obtain ⟨bt, hbt⟩ : ∃ bt, w.heap.size = bt := ⟨_, rfl⟩
  obtain ⟨br, hbr⟩ : ∃ br, w.heap.size + 1 = br := ⟨_, rfl⟩
  obtain ⟨bv, hbv⟩ : ∃ bv, W0.heap.size = bv := ⟨_, rfl⟩
  rw [hbt] at hx0 hx1
  rw [hbr] at hr0 hr1
  rw [hbv] at hv1
  have HBF : Hid (Below w.heap.size w W1) := hb0.trans (hb1'.mono hb0.size)
  have HN : Hid (w.heap.size ≤ bv ∧ br ≠ bv ∧ w.heap.size ≤ br) := by
    refine ⟨?_, ?_, ?_⟩ <;> omega
  have HR : Hid (W1.heap[br]? = some (.cells #[.int .u32 0, .int .u32 0, .int .u64 0, .int .u32 0, .int .u64 0, .int .u32 0, .int .u8 0, .bool false] 37 (0, 0)) ∧ W1.heap[bv]? = some (.cells #[.int .u32 0, .int .u32 0, .int .u64 0, .int .u32 0, .int .u64 0, .int .u32 0, .int .u8 0, .bool false] 37 (0, 0))) := ⟨hr1, hv1⟩
  have d0 : W0.cell? ⟨bt, 0, none⟩ = some (.int .u32 c) := block_cell hx0 rfl
  have d1 : W0.cell? ⟨bt, 1, none⟩ = some (.int .u32 n) := block_cell hx0 rfl
  have e0 : W1.cell? ⟨bt, 0, none⟩ = some (.int .u32 c) := block_cell hx1 rfl
  have e1 : W1.cell? ⟨bt, 1, none⟩ = some (.int .u32 n) := block_cell hx1 rfl
  have z0 : W1.cell? ⟨bv, 0, none⟩ = some (.int .u32 0) := block_cell hv1 rfl
  have z1 : W1.cell? ⟨bv, 1, none⟩ = some (.int .u32 0) := block_cell hv1 rfl
  have z2 : W1.cell? ⟨bv, 2, none⟩ = some (.int .u64 0) := block_cell hv1 rfl
  have z3 : W1.cell? ⟨bv, 3, none⟩ = some (.int .u32 0) := block_cell hv1 rfl
  have z4 : W1.cell? ⟨bv, 4, none⟩ = some (.int .u64 0) := block_cell hv1 rfl
  have z5 : W1.cell? ⟨bv, 5, none⟩ = some (.int .u32 0) := block_cell hv1 rfl
  have z6 : W1.cell? ⟨bv, 6, none⟩ = some (.int .u8 0) := block_cell hv1 rfl
  have z7 : W1.cell? ⟨bv, 7, none⟩ = some (.bool false) := block_cell hv1 rfl
  have f0 : W1.frozen? ⟨bv, 0, none⟩ = false := block_frozen hv1 0
  have f1 : W1.frozen? ⟨bv, 1, none⟩ = false := block_frozen hv1 1
  have f2 : W1.frozen? ⟨bv, 2, none⟩ = false := block_frozen hv1 2
  have f3 : W1.frozen? ⟨bv, 3, none⟩ = false := block_frozen hv1 3
  have f4 : W1.frozen? ⟨bv, 4, none⟩ = false := block_frozen hv1 4
  have f5 : W1.frozen? ⟨bv, 5, none⟩ = false := block_frozen hv1 5
  have f6 : W1.frozen? ⟨bv, 6, none⟩ = false := block_frozen hv1 6
  have f7 : W1.frozen? ⟨bv, 7, none⟩ = false := block_frozen hv1 7
  clear h h0 h1 hb0 hb0' hb1' hba hxa hx0 hx1 hr0 hr1 hv1 hgK
  simp only [vdV] at q0 q1 q2
  rw [hbt] at hbr hsa hs0
  have hsa' : Wa.heap.size = br := by omega
  clear hbr hsa hs0
  go_enter Try.func15, Try.ntmps15
  go_wp2_with fail
  go_region
  obtain ⟨X, hX⟩ : ∃ X, ((((((((W1.setCell ⟨bv, 0, none⟩ (.int .u32 x.c)).setCell ⟨bv, 1, none⟩ (.int .u32 x.n)).setCell ⟨bv, 2, none⟩ (.int .u64 x.sp)).setCell ⟨bv, 3, none⟩ (.int .u32 x.sl)).setCell ⟨bv, 4, none⟩ (.int .u64 x.ap)).setCell ⟨bv, 5, none⟩ (.int .u32 x.al)).setCell ⟨bv, 6, none⟩ (.int .u8 x.pt)).setCell ⟨bv, 7, none⟩ (.bool x.dn)) = X := ⟨_, rfl⟩
  have HX : Hid (X.heap[bv]? = some (.cells #[.int .u32 x.c, .int .u32 x.n, .int .u64 x.sp, .int .u32 x.sl, .int .u64 x.ap, .int .u32 x.al, .int .u8 x.pt, .bool x.dn] 37 (0, 0)) ∧ X.heap[br]? = some (.cells #[.int .u32 0, .int .u32 0, .int .u64 0, .int .u32 0, .int .u64 0, .int .u32 0, .int .u8 0, .bool false] 37 (0, 0)) ∧ Below w.heap.size w X) := by
    have hk := eight_kept W1 bv x
    have i1 := bx8 x HR.out.2
    have i2 := bx8_below x HBF.out HN.out.1
    rw [hX] at hk i1 i2
    exact ⟨i1, (hk.block br (Array.getElem?_eq_some_iff.1 HR.out.1).1 HN.out.2.1).trans HR.out.1, i2⟩
  rw [hX]
  clear hX
  obtain ⟨W2, hW2⟩ : ∃ W2, X.drew = W2 := ⟨_, rfl⟩
  have H2 : Hid (W2.heap[bv]? = some (.cells #[.int .u32 x.c, .int .u32 x.n, .int .u64 x.sp, .int .u32 x.sl, .int .u64 x.ap, .int .u32 x.al, .int .u8 x.pt, .bool x.dn] 37 (0, 0)) ∧ W2.heap[br]? = some (.cells #[.int .u32 0, .int .u32 0, .int .u64 0, .int .u32 0, .int .u64 0, .int .u32 0, .int .u8 0, .bool false] 37 (0, 0)) ∧ Below w.heap.size w W2) := by
    rw [← hW2]
    exact ⟨HX.out.1, HX.out.2.1, HX.out.2.2.drew⟩
  rw [hW2]
  clear HX hW2 q0 q1 q2 c0 c1 d0 d1 e0 e1 z0 z1 z2 z3 z4 z5 z6 z7 f0 f1 f2 f3 f4 f5 f6 f7 HR HBF hWa hW0 hW1 hbt hbv hsa'
  have z0 : W2.cell? ⟨bv, 0, none⟩ = some (.int .u32 x.c) := block_cell H2.out.1 rfl
  have z1 : W2.cell? ⟨bv, 1, none⟩ = some (.int .u32 x.n) := block_cell H2.out.1 rfl
  have z2 : W2.cell? ⟨bv, 2, none⟩ = some (.int .u64 x.sp) := block_cell H2.out.1 rfl
  have z3 : W2.cell? ⟨bv, 3, none⟩ = some (.int .u32 x.sl) := block_cell H2.out.1 rfl
  have z4 : W2.cell? ⟨bv, 4, none⟩ = some (.int .u64 x.ap) := block_cell H2.out.1 rfl
  have z5 : W2.cell? ⟨bv, 5, none⟩ = some (.int .u32 x.al) := block_cell H2.out.1 rfl
  have z6 : W2.cell? ⟨bv, 6, none⟩ = some (.int .u8 x.pt) := block_cell H2.out.1 rfl
  have z7 : W2.cell? ⟨bv, 7, none⟩ = some (.bool x.dn) := block_cell H2.out.1 rfl
  have y0 : W2.cell? ⟨br, 0, none⟩ = some (.int .u32 0) := block_cell H2.out.2.1 rfl
  have y1 : W2.cell? ⟨br, 1, none⟩ = some (.int .u32 0) := block_cell H2.out.2.1 rfl
  have y2 : W2.cell? ⟨br, 2, none⟩ = some (.int .u64 0) := block_cell H2.out.2.1 rfl
  have y3 : W2.cell? ⟨br, 3, none⟩ = some (.int .u32 0) := block_cell H2.out.2.1 rfl
  have y4 : W2.cell? ⟨br, 4, none⟩ = some (.int .u64 0) := block_cell H2.out.2.1 rfl
  have y5 : W2.cell? ⟨br, 5, none⟩ = some (.int .u32 0) := block_cell H2.out.2.1 rfl
  have y6 : W2.cell? ⟨br, 6, none⟩ = some (.int .u8 0) := block_cell H2.out.2.1 rfl
  have y7 : W2.cell? ⟨br, 7, none⟩ = some (.bool false) := block_cell H2.out.2.1 rfl
  have f0 : W2.frozen? ⟨br, 0, none⟩ = false := block_frozen H2.out.2.1 0
  have f1 : W2.frozen? ⟨br, 1, none⟩ = false := block_frozen H2.out.2.1 1
  have f2 : W2.frozen? ⟨br, 2, none⟩ = false := block_frozen H2.out.2.1 2
  have f3 : W2.frozen? ⟨br, 3, none⟩ = false := block_frozen H2.out.2.1 3
  have f4 : W2.frozen? ⟨br, 4, none⟩ = false := block_frozen H2.out.2.1 4
  have f5 : W2.frozen? ⟨br, 5, none⟩ = false := block_frozen H2.out.2.1 5
  have f6 : W2.frozen? ⟨br, 6, none⟩ = false := block_frozen H2.out.2.1 6
  have f7 : W2.frozen? ⟨br, 7, none⟩ = false := block_frozen H2.out.2.1 7
  have HI : Hid _ := bx8 x H2.out.2.1
  have HBw : Hid _ := bx8_below x H2.out.2.2 HN.out.2.2
  go_wp2_with fail
  have g0 : ((((((((W2.setCell ⟨br, 0, none⟩ (.int .u32 x.c)).setCell ⟨br, 1, none⟩ (.int .u32 x.n)).setCell ⟨br, 2, none⟩ (.int .u64 x.sp)).setCell ⟨br, 3, none⟩ (.int .u32 x.sl)).setCell ⟨br, 4, none⟩ (.int .u64 x.ap)).setCell ⟨br, 5, none⟩ (.int .u32 x.al)).setCell ⟨br, 6, none⟩ (.int .u8 x.pt)).setCell ⟨br, 7, none⟩ (.bool x.dn)).cell? ⟨br, 0, none⟩ = some (.int .u32 x.c) := block_cell HI.out rfl
  have g1 : ((((((((W2.setCell ⟨br, 0, none⟩ (.int .u32 x.c)).setCell ⟨br, 1, none⟩ (.int .u32 x.n)).setCell ⟨br, 2, none⟩ (.int .u64 x.sp)).setCell ⟨br, 3, none⟩ (.int .u32 x.sl)).setCell ⟨br, 4, none⟩ (.int .u64 x.ap)).setCell ⟨br, 5, none⟩ (.int .u32 x.al)).setCell ⟨br, 6, none⟩ (.int .u8 x.pt)).setCell ⟨br, 7, none⟩ (.bool x.dn)).cell? ⟨br, 1, none⟩ = some (.int .u32 x.n) := block_cell HI.out rfl
  have g2 : ((((((((W2.setCell ⟨br, 0, none⟩ (.int .u32 x.c)).setCell ⟨br, 1, none⟩ (.int .u32 x.n)).setCell ⟨br, 2, none⟩ (.int .u64 x.sp)).setCell ⟨br, 3, none⟩ (.int .u32 x.sl)).setCell ⟨br, 4, none⟩ (.int .u64 x.ap)).setCell ⟨br, 5, none⟩ (.int .u32 x.al)).setCell ⟨br, 6, none⟩ (.int .u8 x.pt)).setCell ⟨br, 7, none⟩ (.bool x.dn)).cell? ⟨br, 2, none⟩ = some (.int .u64 x.sp) := block_cell HI.out rfl
  have g3 : ((((((((W2.setCell ⟨br, 0, none⟩ (.int .u32 x.c)).setCell ⟨br, 1, none⟩ (.int .u32 x.n)).setCell ⟨br, 2, none⟩ (.int .u64 x.sp)).setCell ⟨br, 3, none⟩ (.int .u32 x.sl)).setCell ⟨br, 4, none⟩ (.int .u64 x.ap)).setCell ⟨br, 5, none⟩ (.int .u32 x.al)).setCell ⟨br, 6, none⟩ (.int .u8 x.pt)).setCell ⟨br, 7, none⟩ (.bool x.dn)).cell? ⟨br, 3, none⟩ = some (.int .u32 x.sl) := block_cell HI.out rfl
  have g4 : ((((((((W2.setCell ⟨br, 0, none⟩ (.int .u32 x.c)).setCell ⟨br, 1, none⟩ (.int .u32 x.n)).setCell ⟨br, 2, none⟩ (.int .u64 x.sp)).setCell ⟨br, 3, none⟩ (.int .u32 x.sl)).setCell ⟨br, 4, none⟩ (.int .u64 x.ap)).setCell ⟨br, 5, none⟩ (.int .u32 x.al)).setCell ⟨br, 6, none⟩ (.int .u8 x.pt)).setCell ⟨br, 7, none⟩ (.bool x.dn)).cell? ⟨br, 4, none⟩ = some (.int .u64 x.ap) := block_cell HI.out rfl
  have g5 : ((((((((W2.setCell ⟨br, 0, none⟩ (.int .u32 x.c)).setCell ⟨br, 1, none⟩ (.int .u32 x.n)).setCell ⟨br, 2, none⟩ (.int .u64 x.sp)).setCell ⟨br, 3, none⟩ (.int .u32 x.sl)).setCell ⟨br, 4, none⟩ (.int .u64 x.ap)).setCell ⟨br, 5, none⟩ (.int .u32 x.al)).setCell ⟨br, 6, none⟩ (.int .u8 x.pt)).setCell ⟨br, 7, none⟩ (.bool x.dn)).cell? ⟨br, 5, none⟩ = some (.int .u32 x.al) := block_cell HI.out rfl
  have g6 : ((((((((W2.setCell ⟨br, 0, none⟩ (.int .u32 x.c)).setCell ⟨br, 1, none⟩ (.int .u32 x.n)).setCell ⟨br, 2, none⟩ (.int .u64 x.sp)).setCell ⟨br, 3, none⟩ (.int .u32 x.sl)).setCell ⟨br, 4, none⟩ (.int .u64 x.ap)).setCell ⟨br, 5, none⟩ (.int .u32 x.al)).setCell ⟨br, 6, none⟩ (.int .u8 x.pt)).setCell ⟨br, 7, none⟩ (.bool x.dn)).cell? ⟨br, 6, none⟩ = some (.int .u8 x.pt) := block_cell HI.out rfl
  have g7 : ((((((((W2.setCell ⟨br, 0, none⟩ (.int .u32 x.c)).setCell ⟨br, 1, none⟩ (.int .u32 x.n)).setCell ⟨br, 2, none⟩ (.int .u64 x.sp)).setCell ⟨br, 3, none⟩ (.int .u32 x.sl)).setCell ⟨br, 4, none⟩ (.int .u64 x.ap)).setCell ⟨br, 5, none⟩ (.int .u32 x.al)).setCell ⟨br, 6, none⟩ (.int .u8 x.pt)).setCell ⟨br, 7, none⟩ (.bool x.dn)).cell? ⟨br, 7, none⟩ = some (.bool x.dn) := block_cell HI.out rfl
  refine bodyPost_ret (v := .tuple #[vdV x, .bool z]) (by simp [results, Try.results15, go_sem, g0, g1, g2, g3, g4, g5, g6, g7, vdV]) rfl ?_
  exact ⟨rfl, HBw.out⟩

set_option maxHeartbeats 400000 in
set_option maxRecDepth 100000 in
theorem of15_nil (c n : Int) (w : World) : Calls Try.prog 15 #[.pointer none, .agg #[.int .u32 c, .int .u32 n]] w fun e w' => e = .returned (ofV none) ∧ Below w.heap.size w w' := by
  obtain ⟨Wa, hWa⟩ : ∃ Wa, w.alloc (.cells #[.int .u32 c, .int .u32 n] 32) = Wa := ⟨_, rfl⟩
  have hba : Below w.heap.size w Wa := by rw [← hWa]; exact al _
  obtain ⟨W2, hW2⟩ : ∃ W2, Wa.alloc (.cells #[.int .u32 0, .int .u32 0, .int .u64 0, .int .u32 0, .int .u64 0, .int .u32 0, .int .u8 0, .bool false] 37) = W2 := ⟨_, rfl⟩
  obtain ⟨br, hbr⟩ : ∃ br, Wa.heap.size = br := ⟨_, rfl⟩
  have H2 : Hid (W2.heap[br]? = some (.cells #[.int .u32 0, .int .u32 0, .int .u64 0, .int .u32 0, .int .u64 0, .int .u32 0, .int .u8 0, .bool false] 37 (0, 0)) ∧ Below w.heap.size w W2 ∧ w.heap.size ≤ br) := by
    rw [← hW2, ← hbr]
    exact ⟨heap_alloc_new Wa _, hba.alloc hba.size _, hba.size⟩
  clear hba
  have y0 : W2.cell? ⟨br, 0, none⟩ = some (.int .u32 0) := block_cell H2.out.1 rfl
  have y1 : W2.cell? ⟨br, 1, none⟩ = some (.int .u32 0) := block_cell H2.out.1 rfl
  have y2 : W2.cell? ⟨br, 2, none⟩ = some (.int .u64 0) := block_cell H2.out.1 rfl
  have y3 : W2.cell? ⟨br, 3, none⟩ = some (.int .u32 0) := block_cell H2.out.1 rfl
  have y4 : W2.cell? ⟨br, 4, none⟩ = some (.int .u64 0) := block_cell H2.out.1 rfl
  have y5 : W2.cell? ⟨br, 5, none⟩ = some (.int .u32 0) := block_cell H2.out.1 rfl
  have y6 : W2.cell? ⟨br, 6, none⟩ = some (.int .u8 0) := block_cell H2.out.1 rfl
  have y7 : W2.cell? ⟨br, 7, none⟩ = some (.bool false) := block_cell H2.out.1 rfl
  have f0 : W2.frozen? ⟨br, 0, none⟩ = false := block_frozen H2.out.1 0
  have f1 : W2.frozen? ⟨br, 1, none⟩ = false := block_frozen H2.out.1 1
  have f2 : W2.frozen? ⟨br, 2, none⟩ = false := block_frozen H2.out.1 2
  have f3 : W2.frozen? ⟨br, 3, none⟩ = false := block_frozen H2.out.1 3
  have f4 : W2.frozen? ⟨br, 4, none⟩ = false := block_frozen H2.out.1 4
  have f5 : W2.frozen? ⟨br, 5, none⟩ = false := block_frozen H2.out.1 5
  have f6 : W2.frozen? ⟨br, 6, none⟩ = false := block_frozen H2.out.1 6
  have f7 : W2.frozen? ⟨br, 7, none⟩ = false := block_frozen H2.out.1 7
  have HI : Hid _ := bx8 dv H2.out.1
  have HBw : Hid _ := bx8_below dv H2.out.2.1 H2.out.2.2
  simp only [dv] at HI HBw
  go_enter Try.func15, Try.ntmps15
  go_wp2_with fail
  have g0 : ((((((((W2.setCell ⟨br, 0, none⟩ (.int .u32 0)).setCell ⟨br, 1, none⟩ (.int .u32 0)).setCell ⟨br, 2, none⟩ (.int .u64 0)).setCell ⟨br, 3, none⟩ (.int .u32 0)).setCell ⟨br, 4, none⟩ (.int .u64 0)).setCell ⟨br, 5, none⟩ (.int .u32 0)).setCell ⟨br, 6, none⟩ (.int .u8 0)).setCell ⟨br, 7, none⟩ (.bool false)).cell? ⟨br, 0, none⟩ = some (.int .u32 0) := block_cell HI.out rfl
  have g1 : ((((((((W2.setCell ⟨br, 0, none⟩ (.int .u32 0)).setCell ⟨br, 1, none⟩ (.int .u32 0)).setCell ⟨br, 2, none⟩ (.int .u64 0)).setCell ⟨br, 3, none⟩ (.int .u32 0)).setCell ⟨br, 4, none⟩ (.int .u64 0)).setCell ⟨br, 5, none⟩ (.int .u32 0)).setCell ⟨br, 6, none⟩ (.int .u8 0)).setCell ⟨br, 7, none⟩ (.bool false)).cell? ⟨br, 1, none⟩ = some (.int .u32 0) := block_cell HI.out rfl
  have g2 : ((((((((W2.setCell ⟨br, 0, none⟩ (.int .u32 0)).setCell ⟨br, 1, none⟩ (.int .u32 0)).setCell ⟨br, 2, none⟩ (.int .u64 0)).setCell ⟨br, 3, none⟩ (.int .u32 0)).setCell ⟨br, 4, none⟩ (.int .u64 0)).setCell ⟨br, 5, none⟩ (.int .u32 0)).setCell ⟨br, 6, none⟩ (.int .u8 0)).setCell ⟨br, 7, none⟩ (.bool false)).cell? ⟨br, 2, none⟩ = some (.int .u64 0) := block_cell HI.out rfl
  have g3 : ((((((((W2.setCell ⟨br, 0, none⟩ (.int .u32 0)).setCell ⟨br, 1, none⟩ (.int .u32 0)).setCell ⟨br, 2, none⟩ (.int .u64 0)).setCell ⟨br, 3, none⟩ (.int .u32 0)).setCell ⟨br, 4, none⟩ (.int .u64 0)).setCell ⟨br, 5, none⟩ (.int .u32 0)).setCell ⟨br, 6, none⟩ (.int .u8 0)).setCell ⟨br, 7, none⟩ (.bool false)).cell? ⟨br, 3, none⟩ = some (.int .u32 0) := block_cell HI.out rfl
  have g4 : ((((((((W2.setCell ⟨br, 0, none⟩ (.int .u32 0)).setCell ⟨br, 1, none⟩ (.int .u32 0)).setCell ⟨br, 2, none⟩ (.int .u64 0)).setCell ⟨br, 3, none⟩ (.int .u32 0)).setCell ⟨br, 4, none⟩ (.int .u64 0)).setCell ⟨br, 5, none⟩ (.int .u32 0)).setCell ⟨br, 6, none⟩ (.int .u8 0)).setCell ⟨br, 7, none⟩ (.bool false)).cell? ⟨br, 4, none⟩ = some (.int .u64 0) := block_cell HI.out rfl
  have g5 : ((((((((W2.setCell ⟨br, 0, none⟩ (.int .u32 0)).setCell ⟨br, 1, none⟩ (.int .u32 0)).setCell ⟨br, 2, none⟩ (.int .u64 0)).setCell ⟨br, 3, none⟩ (.int .u32 0)).setCell ⟨br, 4, none⟩ (.int .u64 0)).setCell ⟨br, 5, none⟩ (.int .u32 0)).setCell ⟨br, 6, none⟩ (.int .u8 0)).setCell ⟨br, 7, none⟩ (.bool false)).cell? ⟨br, 5, none⟩ = some (.int .u32 0) := block_cell HI.out rfl
  have g6 : ((((((((W2.setCell ⟨br, 0, none⟩ (.int .u32 0)).setCell ⟨br, 1, none⟩ (.int .u32 0)).setCell ⟨br, 2, none⟩ (.int .u64 0)).setCell ⟨br, 3, none⟩ (.int .u32 0)).setCell ⟨br, 4, none⟩ (.int .u64 0)).setCell ⟨br, 5, none⟩ (.int .u32 0)).setCell ⟨br, 6, none⟩ (.int .u8 0)).setCell ⟨br, 7, none⟩ (.bool false)).cell? ⟨br, 6, none⟩ = some (.int .u8 0) := block_cell HI.out rfl
  have g7 : ((((((((W2.setCell ⟨br, 0, none⟩ (.int .u32 0)).setCell ⟨br, 1, none⟩ (.int .u32 0)).setCell ⟨br, 2, none⟩ (.int .u64 0)).setCell ⟨br, 3, none⟩ (.int .u32 0)).setCell ⟨br, 4, none⟩ (.int .u64 0)).setCell ⟨br, 5, none⟩ (.int .u32 0)).setCell ⟨br, 6, none⟩ (.int .u8 0)).setCell ⟨br, 7, none⟩ (.bool false)).cell? ⟨br, 7, none⟩ = some (.bool false) := block_cell HI.out rfl
  refine bodyPost_ret (v := ofV none) (by simp [results, Try.results15, go_sem, g0, g1, g2, g3, g4, g5, g6, g7, vdV, ofV, dv]) rfl ?_
  exact ⟨rfl, HBw.out⟩
end Go.Proofs.Ytkadaoebehgkbaa
