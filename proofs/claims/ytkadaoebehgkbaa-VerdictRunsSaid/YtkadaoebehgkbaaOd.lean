/-
  The document's Of.
-/
import Derived.Test.YtkadaoebehgkbaaPl
namespace Go.Proofs.Ytkadaoebehgkbaa
open Go.RowKit

/-- What Of answers. -/
def ofV : Option Vd → Value
  | some x => .tuple #[vdV x, .bool true]
  | none => .tuple #[vdV dv, .bool false]
theorem get_th {c n : Int} {K : Bk} (hs : SrtV K) : getB c n K = if thB c n K = true then some (K.getD (plN c n K) dv) else none := by
  rw [get_pl hs]
  unfold thB
  simp only [Bool.and_eq_true, decide_eq_true_eq]
theorem thB_lt {c n : Int} {K : Bk} (h : thB c n K = true) : plN c n K < K.length ∧ (K.getD (plN c n K) dv).c = c ∧ (K.getD (plN c n K) dv).n = n := by
  unfold thB at h
  simp only [Bool.and_eq_true, decide_eq_true_eq] at h
  exact ⟨h.1, ofN_iff.1 h.2⟩

set_option maxHeartbeats 1600000 in
set_option maxRecDepth 100000 in
theorem of16 (B rb : Nat) (sl : Value) (K : Bk) (c n : Int) (w : World) (h : RbAt B rb sl K w) (hl : K.length < 100000) :
    Calls Try.prog 16 #[.pointer (some ⟨rb, 0, none⟩), .agg #[.int .u32 c, .int .u32 n]] w fun e w' => e = .returned (ofV (getB c n K)) ∧ Below w.heap.size w w' := by
  obtain ⟨ao, cap, rfl, hlc, hcm⟩ := h.is.shape
  have H : Hid (RbAt B rb (.slice ao K.length cap) K w) := h
  have CP : Hid (∀ W, Below w.heap.size w W → _) := fun W hb => place23 B rb _ K c n W (h.on hb) hl
  have HG : Hid _ := get_th (c := c) (n := n) h.ok
  have HL : Hid (thB c n K = true → plN c n K < K.length) := fun h => (thB_lt h).1
  clear h hlc hcm
  generalize getB c n K = y at *
  generalize plN c n K = m at *
  generalize thB c n K = z at *
  go_enter Try.func16, Try.ntmps16
  go_wp2_with fail
  obtain ⟨W0, hW0⟩ : ∃ W0, (w.alloc (.cells #[.int .u32 c, .int .u32 n] 32)).alloc (.cells #[.int .u32 0, .int .u32 0, .int .u64 0, .int .u32 0, .int .u64 0, .int .u32 0, .int .u8 0, .bool false] 37) = W0 := ⟨_, rfl⟩
  have HB0 : Hid (Below w.heap.size w W0 ∧ W0.heap[w.heap.size + 1]? = some (.cells #[.int .u32 0, .int .u32 0, .int .u64 0, .int .u32 0, .int .u64 0, .int .u32 0, .int .u8 0, .bool false] 37 (0, 0))) := by
    rw [← hW0]
    exact ⟨(al _).alloc (by simp) _, by have := heap_alloc_new (w.alloc (.cells #[.int .u32 c, .int .u32 n] 32)) (.cells #[.int .u32 0, .int .u32 0, .int .u64 0, .int .u32 0, .int .u64 0, .int .u32 0, .int .u8 0, .bool false] 37); rwa [size_al] at this⟩
  rw [hW0]
  refine (CP.out W0 HB0.out.1).mono ?_
  rintro e w1 ⟨rfl, hb1⟩
  have H1 : Hid (RbAt B rb (.slice ao K.length cap) K w1) := H.out.on (HB0.out.1.trans (hb1.mono HB0.out.1.size))
  have HB1 : Hid (Below w.heap.size w w1) := HB0.out.1.trans (hb1.mono HB0.out.1.size)
  have hbx : w1.heap[w.heap.size + 1]? = some (.cells #[.int .u32 0, .int .u32 0, .int .u64 0, .int .u32 0, .int .u64 0, .int .u32 0, .int .u8 0, .bool false] 37 (0, 0)) := by rw [hb1.block _ (Array.getElem?_eq_some_iff.1 HB0.out.2).1]; exact HB0.out.2
  have HBX : Hid (w.heap.size ≤ w.heap.size + 1) := Nat.le_succ _
  generalize w.heap.size + 1 = bx at *
  have HX : Hid _ := hbx
  clear hb1 CP hW0 HB0
  have z0 : w1.cell? ⟨bx, 0, none⟩ = some (.int .u32 0) := block_cell hbx rfl
  have z1 : w1.cell? ⟨bx, 1, none⟩ = some (.int .u32 0) := block_cell hbx rfl
  have z2 : w1.cell? ⟨bx, 2, none⟩ = some (.int .u64 0) := block_cell hbx rfl
  have z3 : w1.cell? ⟨bx, 3, none⟩ = some (.int .u32 0) := block_cell hbx rfl
  have z4 : w1.cell? ⟨bx, 4, none⟩ = some (.int .u64 0) := block_cell hbx rfl
  have z5 : w1.cell? ⟨bx, 5, none⟩ = some (.int .u32 0) := block_cell hbx rfl
  have z6 : w1.cell? ⟨bx, 6, none⟩ = some (.int .u8 0) := block_cell hbx rfl
  have z7 : w1.cell? ⟨bx, 7, none⟩ = some (.bool false) := block_cell hbx rfl
  have f0 : w1.frozen? ⟨bx, 0, none⟩ = false := block_frozen hbx 0
  have f1 : w1.frozen? ⟨bx, 1, none⟩ = false := block_frozen hbx 1
  have f2 : w1.frozen? ⟨bx, 2, none⟩ = false := block_frozen hbx 2
  have f3 : w1.frozen? ⟨bx, 3, none⟩ = false := block_frozen hbx 3
  have f4 : w1.frozen? ⟨bx, 4, none⟩ = false := block_frozen hbx 4
  have f5 : w1.frozen? ⟨bx, 5, none⟩ = false := block_frozen hbx 5
  have f6 : w1.frozen? ⟨bx, 6, none⟩ = false := block_frozen hbx 6
  have f7 : w1.frozen? ⟨bx, 7, none⟩ = false := block_frozen hbx 7
  clear hbx
  cases z
  · have HI : Hid _ := bx8 dv HX.out
    have HBw : Hid _ := bx8_below dv HB1.out HBX.out
    simp only [dv] at HI HBw
    go_wp2_with fail
    rw [HG.out]
    have g0 : ((((((((w1.setCell ⟨bx, 0, none⟩ (.int .u32 0)).setCell ⟨bx, 1, none⟩ (.int .u32 0)).setCell ⟨bx, 2, none⟩ (.int .u64 0)).setCell ⟨bx, 3, none⟩ (.int .u32 0)).setCell ⟨bx, 4, none⟩ (.int .u64 0)).setCell ⟨bx, 5, none⟩ (.int .u32 0)).setCell ⟨bx, 6, none⟩ (.int .u8 0)).setCell ⟨bx, 7, none⟩ (.bool false)).cell? ⟨bx, 0, none⟩ = some (.int .u32 0) := block_cell HI.out rfl
    have g1 : ((((((((w1.setCell ⟨bx, 0, none⟩ (.int .u32 0)).setCell ⟨bx, 1, none⟩ (.int .u32 0)).setCell ⟨bx, 2, none⟩ (.int .u64 0)).setCell ⟨bx, 3, none⟩ (.int .u32 0)).setCell ⟨bx, 4, none⟩ (.int .u64 0)).setCell ⟨bx, 5, none⟩ (.int .u32 0)).setCell ⟨bx, 6, none⟩ (.int .u8 0)).setCell ⟨bx, 7, none⟩ (.bool false)).cell? ⟨bx, 1, none⟩ = some (.int .u32 0) := block_cell HI.out rfl
    have g2 : ((((((((w1.setCell ⟨bx, 0, none⟩ (.int .u32 0)).setCell ⟨bx, 1, none⟩ (.int .u32 0)).setCell ⟨bx, 2, none⟩ (.int .u64 0)).setCell ⟨bx, 3, none⟩ (.int .u32 0)).setCell ⟨bx, 4, none⟩ (.int .u64 0)).setCell ⟨bx, 5, none⟩ (.int .u32 0)).setCell ⟨bx, 6, none⟩ (.int .u8 0)).setCell ⟨bx, 7, none⟩ (.bool false)).cell? ⟨bx, 2, none⟩ = some (.int .u64 0) := block_cell HI.out rfl
    have g3 : ((((((((w1.setCell ⟨bx, 0, none⟩ (.int .u32 0)).setCell ⟨bx, 1, none⟩ (.int .u32 0)).setCell ⟨bx, 2, none⟩ (.int .u64 0)).setCell ⟨bx, 3, none⟩ (.int .u32 0)).setCell ⟨bx, 4, none⟩ (.int .u64 0)).setCell ⟨bx, 5, none⟩ (.int .u32 0)).setCell ⟨bx, 6, none⟩ (.int .u8 0)).setCell ⟨bx, 7, none⟩ (.bool false)).cell? ⟨bx, 3, none⟩ = some (.int .u32 0) := block_cell HI.out rfl
    have g4 : ((((((((w1.setCell ⟨bx, 0, none⟩ (.int .u32 0)).setCell ⟨bx, 1, none⟩ (.int .u32 0)).setCell ⟨bx, 2, none⟩ (.int .u64 0)).setCell ⟨bx, 3, none⟩ (.int .u32 0)).setCell ⟨bx, 4, none⟩ (.int .u64 0)).setCell ⟨bx, 5, none⟩ (.int .u32 0)).setCell ⟨bx, 6, none⟩ (.int .u8 0)).setCell ⟨bx, 7, none⟩ (.bool false)).cell? ⟨bx, 4, none⟩ = some (.int .u64 0) := block_cell HI.out rfl
    have g5 : ((((((((w1.setCell ⟨bx, 0, none⟩ (.int .u32 0)).setCell ⟨bx, 1, none⟩ (.int .u32 0)).setCell ⟨bx, 2, none⟩ (.int .u64 0)).setCell ⟨bx, 3, none⟩ (.int .u32 0)).setCell ⟨bx, 4, none⟩ (.int .u64 0)).setCell ⟨bx, 5, none⟩ (.int .u32 0)).setCell ⟨bx, 6, none⟩ (.int .u8 0)).setCell ⟨bx, 7, none⟩ (.bool false)).cell? ⟨bx, 5, none⟩ = some (.int .u32 0) := block_cell HI.out rfl
    have g6 : ((((((((w1.setCell ⟨bx, 0, none⟩ (.int .u32 0)).setCell ⟨bx, 1, none⟩ (.int .u32 0)).setCell ⟨bx, 2, none⟩ (.int .u64 0)).setCell ⟨bx, 3, none⟩ (.int .u32 0)).setCell ⟨bx, 4, none⟩ (.int .u64 0)).setCell ⟨bx, 5, none⟩ (.int .u32 0)).setCell ⟨bx, 6, none⟩ (.int .u8 0)).setCell ⟨bx, 7, none⟩ (.bool false)).cell? ⟨bx, 6, none⟩ = some (.int .u8 0) := block_cell HI.out rfl
    have g7 : ((((((((w1.setCell ⟨bx, 0, none⟩ (.int .u32 0)).setCell ⟨bx, 1, none⟩ (.int .u32 0)).setCell ⟨bx, 2, none⟩ (.int .u64 0)).setCell ⟨bx, 3, none⟩ (.int .u32 0)).setCell ⟨bx, 4, none⟩ (.int .u64 0)).setCell ⟨bx, 5, none⟩ (.int .u32 0)).setCell ⟨bx, 6, none⟩ (.int .u8 0)).setCell ⟨bx, 7, none⟩ (.bool false)).cell? ⟨bx, 7, none⟩ = some (.bool false) := block_cell HI.out rfl
    refine bodyPost_ret (v := ofV none) (by simp [results, Try.results16, go_sem, g0, g1, g2, g3, g4, g5, g6, g7, ofV, vdV, dv]) rfl ?_
    exact ⟨rfl, HBw.out⟩
  · have hml : m < K.length := HL.out rfl
    obtain ⟨b, off, rfl, e0, e1, e2, e3, e4, e5, e6, e7⟩ := H1.out.is.el hml
    have c0 := H1.out.cell
    generalize K.getD m dv = x at *
    have hml' : (m : Int) < K.length := by omega
    have HI : Hid _ := bx8 x HX.out
    have HBw : Hid _ := bx8_below x HB1.out HBX.out
    go_wp2_with fail
    rw [HG.out]
    have g0 : ((((((((w1.setCell ⟨bx, 0, none⟩ (.int .u32 x.c)).setCell ⟨bx, 1, none⟩ (.int .u32 x.n)).setCell ⟨bx, 2, none⟩ (.int .u64 x.sp)).setCell ⟨bx, 3, none⟩ (.int .u32 x.sl)).setCell ⟨bx, 4, none⟩ (.int .u64 x.ap)).setCell ⟨bx, 5, none⟩ (.int .u32 x.al)).setCell ⟨bx, 6, none⟩ (.int .u8 x.pt)).setCell ⟨bx, 7, none⟩ (.bool x.dn)).cell? ⟨bx, 0, none⟩ = some (.int .u32 x.c) := block_cell HI.out rfl
    have g1 : ((((((((w1.setCell ⟨bx, 0, none⟩ (.int .u32 x.c)).setCell ⟨bx, 1, none⟩ (.int .u32 x.n)).setCell ⟨bx, 2, none⟩ (.int .u64 x.sp)).setCell ⟨bx, 3, none⟩ (.int .u32 x.sl)).setCell ⟨bx, 4, none⟩ (.int .u64 x.ap)).setCell ⟨bx, 5, none⟩ (.int .u32 x.al)).setCell ⟨bx, 6, none⟩ (.int .u8 x.pt)).setCell ⟨bx, 7, none⟩ (.bool x.dn)).cell? ⟨bx, 1, none⟩ = some (.int .u32 x.n) := block_cell HI.out rfl
    have g2 : ((((((((w1.setCell ⟨bx, 0, none⟩ (.int .u32 x.c)).setCell ⟨bx, 1, none⟩ (.int .u32 x.n)).setCell ⟨bx, 2, none⟩ (.int .u64 x.sp)).setCell ⟨bx, 3, none⟩ (.int .u32 x.sl)).setCell ⟨bx, 4, none⟩ (.int .u64 x.ap)).setCell ⟨bx, 5, none⟩ (.int .u32 x.al)).setCell ⟨bx, 6, none⟩ (.int .u8 x.pt)).setCell ⟨bx, 7, none⟩ (.bool x.dn)).cell? ⟨bx, 2, none⟩ = some (.int .u64 x.sp) := block_cell HI.out rfl
    have g3 : ((((((((w1.setCell ⟨bx, 0, none⟩ (.int .u32 x.c)).setCell ⟨bx, 1, none⟩ (.int .u32 x.n)).setCell ⟨bx, 2, none⟩ (.int .u64 x.sp)).setCell ⟨bx, 3, none⟩ (.int .u32 x.sl)).setCell ⟨bx, 4, none⟩ (.int .u64 x.ap)).setCell ⟨bx, 5, none⟩ (.int .u32 x.al)).setCell ⟨bx, 6, none⟩ (.int .u8 x.pt)).setCell ⟨bx, 7, none⟩ (.bool x.dn)).cell? ⟨bx, 3, none⟩ = some (.int .u32 x.sl) := block_cell HI.out rfl
    have g4 : ((((((((w1.setCell ⟨bx, 0, none⟩ (.int .u32 x.c)).setCell ⟨bx, 1, none⟩ (.int .u32 x.n)).setCell ⟨bx, 2, none⟩ (.int .u64 x.sp)).setCell ⟨bx, 3, none⟩ (.int .u32 x.sl)).setCell ⟨bx, 4, none⟩ (.int .u64 x.ap)).setCell ⟨bx, 5, none⟩ (.int .u32 x.al)).setCell ⟨bx, 6, none⟩ (.int .u8 x.pt)).setCell ⟨bx, 7, none⟩ (.bool x.dn)).cell? ⟨bx, 4, none⟩ = some (.int .u64 x.ap) := block_cell HI.out rfl
    have g5 : ((((((((w1.setCell ⟨bx, 0, none⟩ (.int .u32 x.c)).setCell ⟨bx, 1, none⟩ (.int .u32 x.n)).setCell ⟨bx, 2, none⟩ (.int .u64 x.sp)).setCell ⟨bx, 3, none⟩ (.int .u32 x.sl)).setCell ⟨bx, 4, none⟩ (.int .u64 x.ap)).setCell ⟨bx, 5, none⟩ (.int .u32 x.al)).setCell ⟨bx, 6, none⟩ (.int .u8 x.pt)).setCell ⟨bx, 7, none⟩ (.bool x.dn)).cell? ⟨bx, 5, none⟩ = some (.int .u32 x.al) := block_cell HI.out rfl
    have g6 : ((((((((w1.setCell ⟨bx, 0, none⟩ (.int .u32 x.c)).setCell ⟨bx, 1, none⟩ (.int .u32 x.n)).setCell ⟨bx, 2, none⟩ (.int .u64 x.sp)).setCell ⟨bx, 3, none⟩ (.int .u32 x.sl)).setCell ⟨bx, 4, none⟩ (.int .u64 x.ap)).setCell ⟨bx, 5, none⟩ (.int .u32 x.al)).setCell ⟨bx, 6, none⟩ (.int .u8 x.pt)).setCell ⟨bx, 7, none⟩ (.bool x.dn)).cell? ⟨bx, 6, none⟩ = some (.int .u8 x.pt) := block_cell HI.out rfl
    have g7 : ((((((((w1.setCell ⟨bx, 0, none⟩ (.int .u32 x.c)).setCell ⟨bx, 1, none⟩ (.int .u32 x.n)).setCell ⟨bx, 2, none⟩ (.int .u64 x.sp)).setCell ⟨bx, 3, none⟩ (.int .u32 x.sl)).setCell ⟨bx, 4, none⟩ (.int .u64 x.ap)).setCell ⟨bx, 5, none⟩ (.int .u32 x.al)).setCell ⟨bx, 6, none⟩ (.int .u8 x.pt)).setCell ⟨bx, 7, none⟩ (.bool x.dn)).cell? ⟨bx, 7, none⟩ = some (.bool x.dn) := block_cell HI.out rfl
    refine bodyPost_ret (v := ofV (some x)) (by simp [results, Try.results16, go_sem, g0, g1, g2, g3, g4, g5, g6, g7, ofV, vdV]) rfl ?_
    exact ⟨rfl, HBw.out⟩
end Go.Proofs.Ytkadaoebehgkbaa
