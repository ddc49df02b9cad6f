/-
  The document's bare, kind by kind: the others.
-/
import Derived.Test.YtmgjlpgjjeknpaaBx
import Derived.Test.YtmgjlpgjjeknpaaBv
namespace Go.Proofs.Ytmgjlpgjjeknpaa
open Go.RowKit

set_option maxHeartbeats 1600000 in
set_option maxRecDepth 100000 in
theorem bare44_5 (c n sp sl ap aq mp ml : Nat) (prim : List UInt8) (pt : Nat) (dn : Bool) (ao : Option Addr) (ln cp : Nat) (w : World) : Calls Try.prog 45 #[.agg #[.int .i64 5, .int .u32 (c : Int), .int .u32 (n : Int), .int .u64 (sp : Int), .int .u32 (sl : Int), .int .u64 (ap : Int), .int .u32 (aq : Int), .int .u64 (mp : Int), .int .u32 (ml : Int), .string (bs prim), .int .u8 (pt : Int), .bool dn, .slice ao ln cp]] w fun r w' => r = .returned (.agg #[.int .i64 5, .int .u32 (c : Int), .int .u32 (n : Int), .int .u64 (sp : Int), .int .u32 (sl : Int), .int .u64 0, .int .u32 0, .int .u64 0, .int .u32 0, .string ⟨#[]⟩, .int .u8 0, .bool false, .slice none 0 0]) ∧ Below w.heap.size w w' := by
  have HZ : Hid _ := bz_new (w := w) #[.int .i64 5, .int .u32 (c : Int), .int .u32 (n : Int), .int .u64 (sp : Int), .int .u32 (sl : Int), .int .u64 (ap : Int), .int .u32 (aq : Int), .int .u64 (mp : Int), .int .u32 (ml : Int), .string (bs prim), .int .u8 (pt : Int), .bool dn, .slice ao ln cp] #[.int .i64 5, .int .u32 0, .int .u32 0, .int .u64 0, .int .u32 0, .int .u64 0, .int .u32 0, .int .u64 0, .int .u32 0, .string ⟨#[]⟩, .int .u8 0, .bool false, .slice none 0 0]
  go_enter Try.func45, Try.ntmps45
  go_upto_region 3 with fail
  obtain ⟨Y0, hY⟩ : ∃ Y0, ((w.alloc (.cells #[.int .i64 5, .int .u32 (c : Int), .int .u32 (n : Int), .int .u64 (sp : Int), .int .u32 (sl : Int), .int .u64 (ap : Int), .int .u32 (aq : Int), .int .u64 (mp : Int), .int .u32 (ml : Int), .string (bs prim), .int .u8 (pt : Int), .bool dn, .slice ao ln cp] 30)).alloc (.cells #[.int .i64 0, .int .u32 0, .int .u32 0, .int .u64 0, .int .u32 0, .int .u64 0, .int .u32 0, .int .u64 0, .int .u32 0, .string ⟨#[]⟩, .int .u8 0, .bool false, .slice none 0 0] 30)).alloc (.cells #[.int .i64 5, .int .u32 0, .int .u32 0, .int .u64 0, .int .u32 0, .int .u64 0, .int .u32 0, .int .u64 0, .int .u32 0, .string ⟨#[]⟩, .int .u8 0, .bool false, .slice none 0 0] 30) = Y0 := ⟨_, rfl⟩
  rw [hY] at HZ ⊢
  clear hY
  obtain ⟨b2, hb2⟩ : ∃ b2, w.heap.size + 1 = b2 := ⟨_, rfl⟩
  obtain ⟨b3, hb3⟩ : ∃ b3, b2 + 1 = b3 := ⟨_, rfl⟩
  obtain ⟨b1, hb1⟩ : ∃ b1, w.heap.size = b1 := ⟨_, rfl⟩
  rw [hb2, hb3] at HZ ⊢
  have HZ : Hid (Bz w b1 b2 b3 #[.int .i64 5, .int .u32 (c : Int), .int .u32 (n : Int), .int .u64 (sp : Int), .int .u32 (sl : Int), .int .u64 (ap : Int), .int .u32 (aq : Int), .int .u64 (mp : Int), .int .u32 (ml : Int), .string (bs prim), .int .u8 (pt : Int), .bool dn, .slice ao ln cp] #[.int .i64 5, .int .u32 0, .int .u32 0, .int .u64 0, .int .u32 0, .int .u64 0, .int .u32 0, .int .u64 0, .int .u32 0, .string ⟨#[]⟩, .int .u8 0, .bool false, .slice none 0 0] Y0) := by rw [← hb1]; exact HZ.out
  rw [hb1]
  clear hb1 hb2 hb3
  have p0 : Y0.cell? ⟨b1, 0, none⟩ = some (.int .i64 5) := block_cell HZ.out.x1 rfl
  have p1 : Y0.cell? ⟨b1, 1, none⟩ = some (.int .u32 (c : Int)) := block_cell HZ.out.x1 rfl
  have q1 : Y0.cell? ⟨b3, 1, none⟩ = some (.int .u32 0) := block_cell HZ.out.x3 rfl
  have f1 : Y0.frozen? ⟨b3, 1, none⟩ = false := block_frozen HZ.out.x3 1
  have p2 : Y0.cell? ⟨b1, 2, none⟩ = some (.int .u32 (n : Int)) := block_cell HZ.out.x1 rfl
  have q2 : Y0.cell? ⟨b3, 2, none⟩ = some (.int .u32 0) := block_cell HZ.out.x3 rfl
  have f2 : Y0.frozen? ⟨b3, 2, none⟩ = false := block_frozen HZ.out.x3 2
  obtain ⟨Y1, hY⟩ : ∃ Y1, ((Y0.setCell ⟨b3, 1, none⟩ (.int .u32 (c : Int))).setCell ⟨b3, 2, none⟩ (.int .u32 (n : Int))) = Y1 := ⟨_, rfl⟩
  have HZ2 : Hid (Bz w b1 b2 b3 #[.int .i64 5, .int .u32 (c : Int), .int .u32 (n : Int), .int .u64 (sp : Int), .int .u32 (sl : Int), .int .u64 (ap : Int), .int .u32 (aq : Int), .int .u64 (mp : Int), .int .u32 (ml : Int), .string (bs prim), .int .u8 (pt : Int), .bool dn, .slice ao ln cp] #[.int .i64 5, .int .u32 (c : Int), .int .u32 (n : Int), .int .u64 0, .int .u32 0, .int .u64 0, .int .u32 0, .int .u64 0, .int .u32 0, .string ⟨#[]⟩, .int .u8 0, .bool false, .slice none 0 0] Y1) := by rw [← hY]; exact ((HZ.out.st 1 (.int .u32 (c : Int))).st 2 (.int .u32 (n : Int)))
  have g0 : Y1.cell? ⟨b1, 0, none⟩ = some (.int .i64 5) := block_cell HZ2.out.x1 rfl
  go_upto_region 19 with fail
  clear p0 g0 hY HZ p1 q1 f1 p2 q2 f2
  have HZ : Hid _ := HZ2.out
  clear HZ2
  have p0 : Y1.cell? ⟨b1, 0, none⟩ = some (.int .i64 5) := block_cell HZ.out.x1 rfl
  have p3 : Y1.cell? ⟨b1, 3, none⟩ = some (.int .u64 (sp : Int)) := block_cell HZ.out.x1 rfl
  have q3 : Y1.cell? ⟨b3, 3, none⟩ = some (.int .u64 0) := block_cell HZ.out.x3 rfl
  have f3 : Y1.frozen? ⟨b3, 3, none⟩ = false := block_frozen HZ.out.x3 3
  have p4 : Y1.cell? ⟨b1, 4, none⟩ = some (.int .u32 (sl : Int)) := block_cell HZ.out.x1 rfl
  have q4 : Y1.cell? ⟨b3, 4, none⟩ = some (.int .u32 0) := block_cell HZ.out.x3 rfl
  have f4 : Y1.frozen? ⟨b3, 4, none⟩ = false := block_frozen HZ.out.x3 4
  obtain ⟨Y2, hY⟩ : ∃ Y2, ((Y1.setCell ⟨b3, 3, none⟩ (.int .u64 (sp : Int))).setCell ⟨b3, 4, none⟩ (.int .u32 (sl : Int))) = Y2 := ⟨_, rfl⟩
  have HZ2 : Hid (Bz w b1 b2 b3 #[.int .i64 5, .int .u32 (c : Int), .int .u32 (n : Int), .int .u64 (sp : Int), .int .u32 (sl : Int), .int .u64 (ap : Int), .int .u32 (aq : Int), .int .u64 (mp : Int), .int .u32 (ml : Int), .string (bs prim), .int .u8 (pt : Int), .bool dn, .slice ao ln cp] #[.int .i64 5, .int .u32 (c : Int), .int .u32 (n : Int), .int .u64 (sp : Int), .int .u32 (sl : Int), .int .u64 0, .int .u32 0, .int .u64 0, .int .u32 0, .string ⟨#[]⟩, .int .u8 0, .bool false, .slice none 0 0] Y2) := by rw [← hY]; exact ((HZ.out.st 3 (.int .u64 (sp : Int))).st 4 (.int .u32 (sl : Int)))
  have g0 : Y2.cell? ⟨b1, 0, none⟩ = some (.int .i64 5) := block_cell HZ2.out.x1 rfl
  go_upto_region 28 with fail
  clear p0 g0 hY HZ p3 q3 f3 p4 q4 f4
  have HZ : Hid _ := HZ2.out
  clear HZ2
  have x0 : Y2.cell? ⟨b3, 0, none⟩ = some (.int .i64 5) := block_cell HZ.out.x3 rfl
  have x1 : Y2.cell? ⟨b3, 1, none⟩ = some (.int .u32 (c : Int)) := block_cell HZ.out.x3 rfl
  have x2 : Y2.cell? ⟨b3, 2, none⟩ = some (.int .u32 (n : Int)) := block_cell HZ.out.x3 rfl
  have x3 : Y2.cell? ⟨b3, 3, none⟩ = some (.int .u64 (sp : Int)) := block_cell HZ.out.x3 rfl
  have x4 : Y2.cell? ⟨b3, 4, none⟩ = some (.int .u32 (sl : Int)) := block_cell HZ.out.x3 rfl
  have x5 : Y2.cell? ⟨b3, 5, none⟩ = some (.int .u64 0) := block_cell HZ.out.x3 rfl
  have x6 : Y2.cell? ⟨b3, 6, none⟩ = some (.int .u32 0) := block_cell HZ.out.x3 rfl
  have x7 : Y2.cell? ⟨b3, 7, none⟩ = some (.int .u64 0) := block_cell HZ.out.x3 rfl
  have x8 : Y2.cell? ⟨b3, 8, none⟩ = some (.int .u32 0) := block_cell HZ.out.x3 rfl
  have x9 : Y2.cell? ⟨b3, 9, none⟩ = some (.string ⟨#[]⟩) := block_cell HZ.out.x3 rfl
  have x10 : Y2.cell? ⟨b3, 10, none⟩ = some (.int .u8 0) := block_cell HZ.out.x3 rfl
  have x11 : Y2.cell? ⟨b3, 11, none⟩ = some (.bool false) := block_cell HZ.out.x3 rfl
  have x12 : Y2.cell? ⟨b3, 12, none⟩ = some (.slice none 0 0) := block_cell HZ.out.x3 rfl
  have y0 : Y2.cell? ⟨b2, 0, none⟩ = some (.int .i64 0) := block_cell HZ.out.x2 rfl
  have y1 : Y2.cell? ⟨b2, 1, none⟩ = some (.int .u32 0) := block_cell HZ.out.x2 rfl
  have y2 : Y2.cell? ⟨b2, 2, none⟩ = some (.int .u32 0) := block_cell HZ.out.x2 rfl
  have y3 : Y2.cell? ⟨b2, 3, none⟩ = some (.int .u64 0) := block_cell HZ.out.x2 rfl
  have y4 : Y2.cell? ⟨b2, 4, none⟩ = some (.int .u32 0) := block_cell HZ.out.x2 rfl
  have y5 : Y2.cell? ⟨b2, 5, none⟩ = some (.int .u64 0) := block_cell HZ.out.x2 rfl
  have y6 : Y2.cell? ⟨b2, 6, none⟩ = some (.int .u32 0) := block_cell HZ.out.x2 rfl
  have y7 : Y2.cell? ⟨b2, 7, none⟩ = some (.int .u64 0) := block_cell HZ.out.x2 rfl
  have y8 : Y2.cell? ⟨b2, 8, none⟩ = some (.int .u32 0) := block_cell HZ.out.x2 rfl
  have y9 : Y2.cell? ⟨b2, 9, none⟩ = some (.string ⟨#[]⟩) := block_cell HZ.out.x2 rfl
  have y10 : Y2.cell? ⟨b2, 10, none⟩ = some (.int .u8 0) := block_cell HZ.out.x2 rfl
  have y11 : Y2.cell? ⟨b2, 11, none⟩ = some (.bool false) := block_cell HZ.out.x2 rfl
  have y12 : Y2.cell? ⟨b2, 12, none⟩ = some (.slice none 0 0) := block_cell HZ.out.x2 rfl
  have z0 : Y2.frozen? ⟨b2, 0, none⟩ = false := block_frozen HZ.out.x2 0
  have z1 : Y2.frozen? ⟨b2, 1, none⟩ = false := block_frozen HZ.out.x2 1
  have z2 : Y2.frozen? ⟨b2, 2, none⟩ = false := block_frozen HZ.out.x2 2
  have z3 : Y2.frozen? ⟨b2, 3, none⟩ = false := block_frozen HZ.out.x2 3
  have z4 : Y2.frozen? ⟨b2, 4, none⟩ = false := block_frozen HZ.out.x2 4
  have z5 : Y2.frozen? ⟨b2, 5, none⟩ = false := block_frozen HZ.out.x2 5
  have z6 : Y2.frozen? ⟨b2, 6, none⟩ = false := block_frozen HZ.out.x2 6
  have z7 : Y2.frozen? ⟨b2, 7, none⟩ = false := block_frozen HZ.out.x2 7
  have z8 : Y2.frozen? ⟨b2, 8, none⟩ = false := block_frozen HZ.out.x2 8
  have z9 : Y2.frozen? ⟨b2, 9, none⟩ = false := block_frozen HZ.out.x2 9
  have z10 : Y2.frozen? ⟨b2, 10, none⟩ = false := block_frozen HZ.out.x2 10
  have z11 : Y2.frozen? ⟨b2, 11, none⟩ = false := block_frozen HZ.out.x2 11
  have z12 : Y2.frozen? ⟨b2, 12, none⟩ = false := block_frozen HZ.out.x2 12
  have HI : Hid _ := bx13 (.int .i64 5) (.int .u32 (c : Int)) (.int .u32 (n : Int)) (.int .u64 (sp : Int)) (.int .u32 (sl : Int)) (.int .u64 0) (.int .u32 0) (.int .u64 0) (.int .u32 0) (.string ⟨#[]⟩) (.int .u8 0) (.bool false) (.slice none 0 0) HZ.out.x2
  have HBw : Hid _ := bx13_below (.int .i64 5) (.int .u32 (c : Int)) (.int .u32 (n : Int)) (.int .u64 (sp : Int)) (.int .u32 (sl : Int)) (.int .u64 0) (.int .u32 0) (.int .u64 0) (.int .u32 0) (.string ⟨#[]⟩) (.int .u8 0) (.bool false) (.slice none 0 0) HZ.out.bel HZ.out.l2
  clear HZ
  go_wp2_with fail
  have r0 : (((((((((((((Y2.setCell ⟨b2, 0, none⟩ (.int .i64 5)).setCell ⟨b2, 1, none⟩ (.int .u32 (c : Int))).setCell ⟨b2, 2, none⟩ (.int .u32 (n : Int))).setCell ⟨b2, 3, none⟩ (.int .u64 (sp : Int))).setCell ⟨b2, 4, none⟩ (.int .u32 (sl : Int))).setCell ⟨b2, 5, none⟩ (.int .u64 0)).setCell ⟨b2, 6, none⟩ (.int .u32 0)).setCell ⟨b2, 7, none⟩ (.int .u64 0)).setCell ⟨b2, 8, none⟩ (.int .u32 0)).setCell ⟨b2, 9, none⟩ (.string ⟨#[]⟩)).setCell ⟨b2, 10, none⟩ (.int .u8 0)).setCell ⟨b2, 11, none⟩ (.bool false)).setCell ⟨b2, 12, none⟩ (.slice none 0 0)).cell? ⟨b2, 0, none⟩ = some (.int .i64 5) := block_cell HI.out rfl
  have r1 : (((((((((((((Y2.setCell ⟨b2, 0, none⟩ (.int .i64 5)).setCell ⟨b2, 1, none⟩ (.int .u32 (c : Int))).setCell ⟨b2, 2, none⟩ (.int .u32 (n : Int))).setCell ⟨b2, 3, none⟩ (.int .u64 (sp : Int))).setCell ⟨b2, 4, none⟩ (.int .u32 (sl : Int))).setCell ⟨b2, 5, none⟩ (.int .u64 0)).setCell ⟨b2, 6, none⟩ (.int .u32 0)).setCell ⟨b2, 7, none⟩ (.int .u64 0)).setCell ⟨b2, 8, none⟩ (.int .u32 0)).setCell ⟨b2, 9, none⟩ (.string ⟨#[]⟩)).setCell ⟨b2, 10, none⟩ (.int .u8 0)).setCell ⟨b2, 11, none⟩ (.bool false)).setCell ⟨b2, 12, none⟩ (.slice none 0 0)).cell? ⟨b2, 1, none⟩ = some (.int .u32 (c : Int)) := block_cell HI.out rfl
  have r2 : (((((((((((((Y2.setCell ⟨b2, 0, none⟩ (.int .i64 5)).setCell ⟨b2, 1, none⟩ (.int .u32 (c : Int))).setCell ⟨b2, 2, none⟩ (.int .u32 (n : Int))).setCell ⟨b2, 3, none⟩ (.int .u64 (sp : Int))).setCell ⟨b2, 4, none⟩ (.int .u32 (sl : Int))).setCell ⟨b2, 5, none⟩ (.int .u64 0)).setCell ⟨b2, 6, none⟩ (.int .u32 0)).setCell ⟨b2, 7, none⟩ (.int .u64 0)).setCell ⟨b2, 8, none⟩ (.int .u32 0)).setCell ⟨b2, 9, none⟩ (.string ⟨#[]⟩)).setCell ⟨b2, 10, none⟩ (.int .u8 0)).setCell ⟨b2, 11, none⟩ (.bool false)).setCell ⟨b2, 12, none⟩ (.slice none 0 0)).cell? ⟨b2, 2, none⟩ = some (.int .u32 (n : Int)) := block_cell HI.out rfl
  have r3 : (((((((((((((Y2.setCell ⟨b2, 0, none⟩ (.int .i64 5)).setCell ⟨b2, 1, none⟩ (.int .u32 (c : Int))).setCell ⟨b2, 2, none⟩ (.int .u32 (n : Int))).setCell ⟨b2, 3, none⟩ (.int .u64 (sp : Int))).setCell ⟨b2, 4, none⟩ (.int .u32 (sl : Int))).setCell ⟨b2, 5, none⟩ (.int .u64 0)).setCell ⟨b2, 6, none⟩ (.int .u32 0)).setCell ⟨b2, 7, none⟩ (.int .u64 0)).setCell ⟨b2, 8, none⟩ (.int .u32 0)).setCell ⟨b2, 9, none⟩ (.string ⟨#[]⟩)).setCell ⟨b2, 10, none⟩ (.int .u8 0)).setCell ⟨b2, 11, none⟩ (.bool false)).setCell ⟨b2, 12, none⟩ (.slice none 0 0)).cell? ⟨b2, 3, none⟩ = some (.int .u64 (sp : Int)) := block_cell HI.out rfl
  have r4 : (((((((((((((Y2.setCell ⟨b2, 0, none⟩ (.int .i64 5)).setCell ⟨b2, 1, none⟩ (.int .u32 (c : Int))).setCell ⟨b2, 2, none⟩ (.int .u32 (n : Int))).setCell ⟨b2, 3, none⟩ (.int .u64 (sp : Int))).setCell ⟨b2, 4, none⟩ (.int .u32 (sl : Int))).setCell ⟨b2, 5, none⟩ (.int .u64 0)).setCell ⟨b2, 6, none⟩ (.int .u32 0)).setCell ⟨b2, 7, none⟩ (.int .u64 0)).setCell ⟨b2, 8, none⟩ (.int .u32 0)).setCell ⟨b2, 9, none⟩ (.string ⟨#[]⟩)).setCell ⟨b2, 10, none⟩ (.int .u8 0)).setCell ⟨b2, 11, none⟩ (.bool false)).setCell ⟨b2, 12, none⟩ (.slice none 0 0)).cell? ⟨b2, 4, none⟩ = some (.int .u32 (sl : Int)) := block_cell HI.out rfl
  have r5 : (((((((((((((Y2.setCell ⟨b2, 0, none⟩ (.int .i64 5)).setCell ⟨b2, 1, none⟩ (.int .u32 (c : Int))).setCell ⟨b2, 2, none⟩ (.int .u32 (n : Int))).setCell ⟨b2, 3, none⟩ (.int .u64 (sp : Int))).setCell ⟨b2, 4, none⟩ (.int .u32 (sl : Int))).setCell ⟨b2, 5, none⟩ (.int .u64 0)).setCell ⟨b2, 6, none⟩ (.int .u32 0)).setCell ⟨b2, 7, none⟩ (.int .u64 0)).setCell ⟨b2, 8, none⟩ (.int .u32 0)).setCell ⟨b2, 9, none⟩ (.string ⟨#[]⟩)).setCell ⟨b2, 10, none⟩ (.int .u8 0)).setCell ⟨b2, 11, none⟩ (.bool false)).setCell ⟨b2, 12, none⟩ (.slice none 0 0)).cell? ⟨b2, 5, none⟩ = some (.int .u64 0) := block_cell HI.out rfl
  have r6 : (((((((((((((Y2.setCell ⟨b2, 0, none⟩ (.int .i64 5)).setCell ⟨b2, 1, none⟩ (.int .u32 (c : Int))).setCell ⟨b2, 2, none⟩ (.int .u32 (n : Int))).setCell ⟨b2, 3, none⟩ (.int .u64 (sp : Int))).setCell ⟨b2, 4, none⟩ (.int .u32 (sl : Int))).setCell ⟨b2, 5, none⟩ (.int .u64 0)).setCell ⟨b2, 6, none⟩ (.int .u32 0)).setCell ⟨b2, 7, none⟩ (.int .u64 0)).setCell ⟨b2, 8, none⟩ (.int .u32 0)).setCell ⟨b2, 9, none⟩ (.string ⟨#[]⟩)).setCell ⟨b2, 10, none⟩ (.int .u8 0)).setCell ⟨b2, 11, none⟩ (.bool false)).setCell ⟨b2, 12, none⟩ (.slice none 0 0)).cell? ⟨b2, 6, none⟩ = some (.int .u32 0) := block_cell HI.out rfl
  have r7 : (((((((((((((Y2.setCell ⟨b2, 0, none⟩ (.int .i64 5)).setCell ⟨b2, 1, none⟩ (.int .u32 (c : Int))).setCell ⟨b2, 2, none⟩ (.int .u32 (n : Int))).setCell ⟨b2, 3, none⟩ (.int .u64 (sp : Int))).setCell ⟨b2, 4, none⟩ (.int .u32 (sl : Int))).setCell ⟨b2, 5, none⟩ (.int .u64 0)).setCell ⟨b2, 6, none⟩ (.int .u32 0)).setCell ⟨b2, 7, none⟩ (.int .u64 0)).setCell ⟨b2, 8, none⟩ (.int .u32 0)).setCell ⟨b2, 9, none⟩ (.string ⟨#[]⟩)).setCell ⟨b2, 10, none⟩ (.int .u8 0)).setCell ⟨b2, 11, none⟩ (.bool false)).setCell ⟨b2, 12, none⟩ (.slice none 0 0)).cell? ⟨b2, 7, none⟩ = some (.int .u64 0) := block_cell HI.out rfl
  have r8 : (((((((((((((Y2.setCell ⟨b2, 0, none⟩ (.int .i64 5)).setCell ⟨b2, 1, none⟩ (.int .u32 (c : Int))).setCell ⟨b2, 2, none⟩ (.int .u32 (n : Int))).setCell ⟨b2, 3, none⟩ (.int .u64 (sp : Int))).setCell ⟨b2, 4, none⟩ (.int .u32 (sl : Int))).setCell ⟨b2, 5, none⟩ (.int .u64 0)).setCell ⟨b2, 6, none⟩ (.int .u32 0)).setCell ⟨b2, 7, none⟩ (.int .u64 0)).setCell ⟨b2, 8, none⟩ (.int .u32 0)).setCell ⟨b2, 9, none⟩ (.string ⟨#[]⟩)).setCell ⟨b2, 10, none⟩ (.int .u8 0)).setCell ⟨b2, 11, none⟩ (.bool false)).setCell ⟨b2, 12, none⟩ (.slice none 0 0)).cell? ⟨b2, 8, none⟩ = some (.int .u32 0) := block_cell HI.out rfl
  have r9 : (((((((((((((Y2.setCell ⟨b2, 0, none⟩ (.int .i64 5)).setCell ⟨b2, 1, none⟩ (.int .u32 (c : Int))).setCell ⟨b2, 2, none⟩ (.int .u32 (n : Int))).setCell ⟨b2, 3, none⟩ (.int .u64 (sp : Int))).setCell ⟨b2, 4, none⟩ (.int .u32 (sl : Int))).setCell ⟨b2, 5, none⟩ (.int .u64 0)).setCell ⟨b2, 6, none⟩ (.int .u32 0)).setCell ⟨b2, 7, none⟩ (.int .u64 0)).setCell ⟨b2, 8, none⟩ (.int .u32 0)).setCell ⟨b2, 9, none⟩ (.string ⟨#[]⟩)).setCell ⟨b2, 10, none⟩ (.int .u8 0)).setCell ⟨b2, 11, none⟩ (.bool false)).setCell ⟨b2, 12, none⟩ (.slice none 0 0)).cell? ⟨b2, 9, none⟩ = some (.string ⟨#[]⟩) := block_cell HI.out rfl
  have r10 : (((((((((((((Y2.setCell ⟨b2, 0, none⟩ (.int .i64 5)).setCell ⟨b2, 1, none⟩ (.int .u32 (c : Int))).setCell ⟨b2, 2, none⟩ (.int .u32 (n : Int))).setCell ⟨b2, 3, none⟩ (.int .u64 (sp : Int))).setCell ⟨b2, 4, none⟩ (.int .u32 (sl : Int))).setCell ⟨b2, 5, none⟩ (.int .u64 0)).setCell ⟨b2, 6, none⟩ (.int .u32 0)).setCell ⟨b2, 7, none⟩ (.int .u64 0)).setCell ⟨b2, 8, none⟩ (.int .u32 0)).setCell ⟨b2, 9, none⟩ (.string ⟨#[]⟩)).setCell ⟨b2, 10, none⟩ (.int .u8 0)).setCell ⟨b2, 11, none⟩ (.bool false)).setCell ⟨b2, 12, none⟩ (.slice none 0 0)).cell? ⟨b2, 10, none⟩ = some (.int .u8 0) := block_cell HI.out rfl
  have r11 : (((((((((((((Y2.setCell ⟨b2, 0, none⟩ (.int .i64 5)).setCell ⟨b2, 1, none⟩ (.int .u32 (c : Int))).setCell ⟨b2, 2, none⟩ (.int .u32 (n : Int))).setCell ⟨b2, 3, none⟩ (.int .u64 (sp : Int))).setCell ⟨b2, 4, none⟩ (.int .u32 (sl : Int))).setCell ⟨b2, 5, none⟩ (.int .u64 0)).setCell ⟨b2, 6, none⟩ (.int .u32 0)).setCell ⟨b2, 7, none⟩ (.int .u64 0)).setCell ⟨b2, 8, none⟩ (.int .u32 0)).setCell ⟨b2, 9, none⟩ (.string ⟨#[]⟩)).setCell ⟨b2, 10, none⟩ (.int .u8 0)).setCell ⟨b2, 11, none⟩ (.bool false)).setCell ⟨b2, 12, none⟩ (.slice none 0 0)).cell? ⟨b2, 11, none⟩ = some (.bool false) := block_cell HI.out rfl
  have r12 : (((((((((((((Y2.setCell ⟨b2, 0, none⟩ (.int .i64 5)).setCell ⟨b2, 1, none⟩ (.int .u32 (c : Int))).setCell ⟨b2, 2, none⟩ (.int .u32 (n : Int))).setCell ⟨b2, 3, none⟩ (.int .u64 (sp : Int))).setCell ⟨b2, 4, none⟩ (.int .u32 (sl : Int))).setCell ⟨b2, 5, none⟩ (.int .u64 0)).setCell ⟨b2, 6, none⟩ (.int .u32 0)).setCell ⟨b2, 7, none⟩ (.int .u64 0)).setCell ⟨b2, 8, none⟩ (.int .u32 0)).setCell ⟨b2, 9, none⟩ (.string ⟨#[]⟩)).setCell ⟨b2, 10, none⟩ (.int .u8 0)).setCell ⟨b2, 11, none⟩ (.bool false)).setCell ⟨b2, 12, none⟩ (.slice none 0 0)).cell? ⟨b2, 12, none⟩ = some (.slice none 0 0) := block_cell HI.out rfl
  refine bodyPost_ret (v := .agg #[.int .i64 5, .int .u32 (c : Int), .int .u32 (n : Int), .int .u64 (sp : Int), .int .u32 (sl : Int), .int .u64 0, .int .u32 0, .int .u64 0, .int .u32 0, .string ⟨#[]⟩, .int .u8 0, .bool false, .slice none 0 0]) (by simp [results, Try.results45, go_sem, r0, r1, r2, r3, r4, r5, r6, r7, r8, r9, r10, r11, r12]) rfl ?_
  exact ⟨rfl, HBw.out⟩

set_option maxHeartbeats 1600000 in
set_option maxRecDepth 100000 in
theorem bare44_7 (c n sp sl ap aq mp ml : Nat) (prim : List UInt8) (pt : Nat) (dn : Bool) (ao : Option Addr) (ln cp : Nat) (w : World) : Calls Try.prog 45 #[.agg #[.int .i64 7, .int .u32 (c : Int), .int .u32 (n : Int), .int .u64 (sp : Int), .int .u32 (sl : Int), .int .u64 (ap : Int), .int .u32 (aq : Int), .int .u64 (mp : Int), .int .u32 (ml : Int), .string (bs prim), .int .u8 (pt : Int), .bool dn, .slice ao ln cp]] w fun r w' => r = .returned (.agg #[.int .i64 7, .int .u32 (c : Int), .int .u32 (n : Int), .int .u64 0, .int .u32 0, .int .u64 0, .int .u32 0, .int .u64 0, .int .u32 0, .string ⟨#[]⟩, .int .u8 0, .bool false, .slice none 0 0]) ∧ Below w.heap.size w w' := by
  have HZ : Hid _ := bz_new (w := w) #[.int .i64 7, .int .u32 (c : Int), .int .u32 (n : Int), .int .u64 (sp : Int), .int .u32 (sl : Int), .int .u64 (ap : Int), .int .u32 (aq : Int), .int .u64 (mp : Int), .int .u32 (ml : Int), .string (bs prim), .int .u8 (pt : Int), .bool dn, .slice ao ln cp] #[.int .i64 7, .int .u32 0, .int .u32 0, .int .u64 0, .int .u32 0, .int .u64 0, .int .u32 0, .int .u64 0, .int .u32 0, .string ⟨#[]⟩, .int .u8 0, .bool false, .slice none 0 0]
  go_enter Try.func45, Try.ntmps45
  go_upto_region 3 with fail
  obtain ⟨Y0, hY⟩ : ∃ Y0, ((w.alloc (.cells #[.int .i64 7, .int .u32 (c : Int), .int .u32 (n : Int), .int .u64 (sp : Int), .int .u32 (sl : Int), .int .u64 (ap : Int), .int .u32 (aq : Int), .int .u64 (mp : Int), .int .u32 (ml : Int), .string (bs prim), .int .u8 (pt : Int), .bool dn, .slice ao ln cp] 30)).alloc (.cells #[.int .i64 0, .int .u32 0, .int .u32 0, .int .u64 0, .int .u32 0, .int .u64 0, .int .u32 0, .int .u64 0, .int .u32 0, .string ⟨#[]⟩, .int .u8 0, .bool false, .slice none 0 0] 30)).alloc (.cells #[.int .i64 7, .int .u32 0, .int .u32 0, .int .u64 0, .int .u32 0, .int .u64 0, .int .u32 0, .int .u64 0, .int .u32 0, .string ⟨#[]⟩, .int .u8 0, .bool false, .slice none 0 0] 30) = Y0 := ⟨_, rfl⟩
  rw [hY] at HZ ⊢
  clear hY
  obtain ⟨b2, hb2⟩ : ∃ b2, w.heap.size + 1 = b2 := ⟨_, rfl⟩
  obtain ⟨b3, hb3⟩ : ∃ b3, b2 + 1 = b3 := ⟨_, rfl⟩
  obtain ⟨b1, hb1⟩ : ∃ b1, w.heap.size = b1 := ⟨_, rfl⟩
  rw [hb2, hb3] at HZ ⊢
  have HZ : Hid (Bz w b1 b2 b3 #[.int .i64 7, .int .u32 (c : Int), .int .u32 (n : Int), .int .u64 (sp : Int), .int .u32 (sl : Int), .int .u64 (ap : Int), .int .u32 (aq : Int), .int .u64 (mp : Int), .int .u32 (ml : Int), .string (bs prim), .int .u8 (pt : Int), .bool dn, .slice ao ln cp] #[.int .i64 7, .int .u32 0, .int .u32 0, .int .u64 0, .int .u32 0, .int .u64 0, .int .u32 0, .int .u64 0, .int .u32 0, .string ⟨#[]⟩, .int .u8 0, .bool false, .slice none 0 0] Y0) := by rw [← hb1]; exact HZ.out
  rw [hb1]
  clear hb1 hb2 hb3
  have p0 : Y0.cell? ⟨b1, 0, none⟩ = some (.int .i64 7) := block_cell HZ.out.x1 rfl
  have p1 : Y0.cell? ⟨b1, 1, none⟩ = some (.int .u32 (c : Int)) := block_cell HZ.out.x1 rfl
  have q1 : Y0.cell? ⟨b3, 1, none⟩ = some (.int .u32 0) := block_cell HZ.out.x3 rfl
  have f1 : Y0.frozen? ⟨b3, 1, none⟩ = false := block_frozen HZ.out.x3 1
  have p2 : Y0.cell? ⟨b1, 2, none⟩ = some (.int .u32 (n : Int)) := block_cell HZ.out.x1 rfl
  have q2 : Y0.cell? ⟨b3, 2, none⟩ = some (.int .u32 0) := block_cell HZ.out.x3 rfl
  have f2 : Y0.frozen? ⟨b3, 2, none⟩ = false := block_frozen HZ.out.x3 2
  obtain ⟨Y1, hY⟩ : ∃ Y1, ((Y0.setCell ⟨b3, 1, none⟩ (.int .u32 (c : Int))).setCell ⟨b3, 2, none⟩ (.int .u32 (n : Int))) = Y1 := ⟨_, rfl⟩
  have HZ2 : Hid (Bz w b1 b2 b3 #[.int .i64 7, .int .u32 (c : Int), .int .u32 (n : Int), .int .u64 (sp : Int), .int .u32 (sl : Int), .int .u64 (ap : Int), .int .u32 (aq : Int), .int .u64 (mp : Int), .int .u32 (ml : Int), .string (bs prim), .int .u8 (pt : Int), .bool dn, .slice ao ln cp] #[.int .i64 7, .int .u32 (c : Int), .int .u32 (n : Int), .int .u64 0, .int .u32 0, .int .u64 0, .int .u32 0, .int .u64 0, .int .u32 0, .string ⟨#[]⟩, .int .u8 0, .bool false, .slice none 0 0] Y1) := by rw [← hY]; exact ((HZ.out.st 1 (.int .u32 (c : Int))).st 2 (.int .u32 (n : Int)))
  have g0 : Y1.cell? ⟨b1, 0, none⟩ = some (.int .i64 7) := block_cell HZ2.out.x1 rfl
  go_upto_region 28 with fail
  clear p0 g0 hY HZ p1 q1 f1 p2 q2 f2
  have HZ : Hid _ := HZ2.out
  clear HZ2
  have x0 : Y1.cell? ⟨b3, 0, none⟩ = some (.int .i64 7) := block_cell HZ.out.x3 rfl
  have x1 : Y1.cell? ⟨b3, 1, none⟩ = some (.int .u32 (c : Int)) := block_cell HZ.out.x3 rfl
  have x2 : Y1.cell? ⟨b3, 2, none⟩ = some (.int .u32 (n : Int)) := block_cell HZ.out.x3 rfl
  have x3 : Y1.cell? ⟨b3, 3, none⟩ = some (.int .u64 0) := block_cell HZ.out.x3 rfl
  have x4 : Y1.cell? ⟨b3, 4, none⟩ = some (.int .u32 0) := block_cell HZ.out.x3 rfl
  have x5 : Y1.cell? ⟨b3, 5, none⟩ = some (.int .u64 0) := block_cell HZ.out.x3 rfl
  have x6 : Y1.cell? ⟨b3, 6, none⟩ = some (.int .u32 0) := block_cell HZ.out.x3 rfl
  have x7 : Y1.cell? ⟨b3, 7, none⟩ = some (.int .u64 0) := block_cell HZ.out.x3 rfl
  have x8 : Y1.cell? ⟨b3, 8, none⟩ = some (.int .u32 0) := block_cell HZ.out.x3 rfl
  have x9 : Y1.cell? ⟨b3, 9, none⟩ = some (.string ⟨#[]⟩) := block_cell HZ.out.x3 rfl
  have x10 : Y1.cell? ⟨b3, 10, none⟩ = some (.int .u8 0) := block_cell HZ.out.x3 rfl
  have x11 : Y1.cell? ⟨b3, 11, none⟩ = some (.bool false) := block_cell HZ.out.x3 rfl
  have x12 : Y1.cell? ⟨b3, 12, none⟩ = some (.slice none 0 0) := block_cell HZ.out.x3 rfl
  have y0 : Y1.cell? ⟨b2, 0, none⟩ = some (.int .i64 0) := block_cell HZ.out.x2 rfl
  have y1 : Y1.cell? ⟨b2, 1, none⟩ = some (.int .u32 0) := block_cell HZ.out.x2 rfl
  have y2 : Y1.cell? ⟨b2, 2, none⟩ = some (.int .u32 0) := block_cell HZ.out.x2 rfl
  have y3 : Y1.cell? ⟨b2, 3, none⟩ = some (.int .u64 0) := block_cell HZ.out.x2 rfl
  have y4 : Y1.cell? ⟨b2, 4, none⟩ = some (.int .u32 0) := block_cell HZ.out.x2 rfl
  have y5 : Y1.cell? ⟨b2, 5, none⟩ = some (.int .u64 0) := block_cell HZ.out.x2 rfl
  have y6 : Y1.cell? ⟨b2, 6, none⟩ = some (.int .u32 0) := block_cell HZ.out.x2 rfl
  have y7 : Y1.cell? ⟨b2, 7, none⟩ = some (.int .u64 0) := block_cell HZ.out.x2 rfl
  have y8 : Y1.cell? ⟨b2, 8, none⟩ = some (.int .u32 0) := block_cell HZ.out.x2 rfl
  have y9 : Y1.cell? ⟨b2, 9, none⟩ = some (.string ⟨#[]⟩) := block_cell HZ.out.x2 rfl
  have y10 : Y1.cell? ⟨b2, 10, none⟩ = some (.int .u8 0) := block_cell HZ.out.x2 rfl
  have y11 : Y1.cell? ⟨b2, 11, none⟩ = some (.bool false) := block_cell HZ.out.x2 rfl
  have y12 : Y1.cell? ⟨b2, 12, none⟩ = some (.slice none 0 0) := block_cell HZ.out.x2 rfl
  have z0 : Y1.frozen? ⟨b2, 0, none⟩ = false := block_frozen HZ.out.x2 0
  have z1 : Y1.frozen? ⟨b2, 1, none⟩ = false := block_frozen HZ.out.x2 1
  have z2 : Y1.frozen? ⟨b2, 2, none⟩ = false := block_frozen HZ.out.x2 2
  have z3 : Y1.frozen? ⟨b2, 3, none⟩ = false := block_frozen HZ.out.x2 3
  have z4 : Y1.frozen? ⟨b2, 4, none⟩ = false := block_frozen HZ.out.x2 4
  have z5 : Y1.frozen? ⟨b2, 5, none⟩ = false := block_frozen HZ.out.x2 5
  have z6 : Y1.frozen? ⟨b2, 6, none⟩ = false := block_frozen HZ.out.x2 6
  have z7 : Y1.frozen? ⟨b2, 7, none⟩ = false := block_frozen HZ.out.x2 7
  have z8 : Y1.frozen? ⟨b2, 8, none⟩ = false := block_frozen HZ.out.x2 8
  have z9 : Y1.frozen? ⟨b2, 9, none⟩ = false := block_frozen HZ.out.x2 9
  have z10 : Y1.frozen? ⟨b2, 10, none⟩ = false := block_frozen HZ.out.x2 10
  have z11 : Y1.frozen? ⟨b2, 11, none⟩ = false := block_frozen HZ.out.x2 11
  have z12 : Y1.frozen? ⟨b2, 12, none⟩ = false := block_frozen HZ.out.x2 12
  have HI : Hid _ := bx13 (.int .i64 7) (.int .u32 (c : Int)) (.int .u32 (n : Int)) (.int .u64 0) (.int .u32 0) (.int .u64 0) (.int .u32 0) (.int .u64 0) (.int .u32 0) (.string ⟨#[]⟩) (.int .u8 0) (.bool false) (.slice none 0 0) HZ.out.x2
  have HBw : Hid _ := bx13_below (.int .i64 7) (.int .u32 (c : Int)) (.int .u32 (n : Int)) (.int .u64 0) (.int .u32 0) (.int .u64 0) (.int .u32 0) (.int .u64 0) (.int .u32 0) (.string ⟨#[]⟩) (.int .u8 0) (.bool false) (.slice none 0 0) HZ.out.bel HZ.out.l2
  clear HZ
  go_wp2_with fail
  have r0 : (((((((((((((Y1.setCell ⟨b2, 0, none⟩ (.int .i64 7)).setCell ⟨b2, 1, none⟩ (.int .u32 (c : Int))).setCell ⟨b2, 2, none⟩ (.int .u32 (n : Int))).setCell ⟨b2, 3, none⟩ (.int .u64 0)).setCell ⟨b2, 4, none⟩ (.int .u32 0)).setCell ⟨b2, 5, none⟩ (.int .u64 0)).setCell ⟨b2, 6, none⟩ (.int .u32 0)).setCell ⟨b2, 7, none⟩ (.int .u64 0)).setCell ⟨b2, 8, none⟩ (.int .u32 0)).setCell ⟨b2, 9, none⟩ (.string ⟨#[]⟩)).setCell ⟨b2, 10, none⟩ (.int .u8 0)).setCell ⟨b2, 11, none⟩ (.bool false)).setCell ⟨b2, 12, none⟩ (.slice none 0 0)).cell? ⟨b2, 0, none⟩ = some (.int .i64 7) := block_cell HI.out rfl
  have r1 : (((((((((((((Y1.setCell ⟨b2, 0, none⟩ (.int .i64 7)).setCell ⟨b2, 1, none⟩ (.int .u32 (c : Int))).setCell ⟨b2, 2, none⟩ (.int .u32 (n : Int))).setCell ⟨b2, 3, none⟩ (.int .u64 0)).setCell ⟨b2, 4, none⟩ (.int .u32 0)).setCell ⟨b2, 5, none⟩ (.int .u64 0)).setCell ⟨b2, 6, none⟩ (.int .u32 0)).setCell ⟨b2, 7, none⟩ (.int .u64 0)).setCell ⟨b2, 8, none⟩ (.int .u32 0)).setCell ⟨b2, 9, none⟩ (.string ⟨#[]⟩)).setCell ⟨b2, 10, none⟩ (.int .u8 0)).setCell ⟨b2, 11, none⟩ (.bool false)).setCell ⟨b2, 12, none⟩ (.slice none 0 0)).cell? ⟨b2, 1, none⟩ = some (.int .u32 (c : Int)) := block_cell HI.out rfl
  have r2 : (((((((((((((Y1.setCell ⟨b2, 0, none⟩ (.int .i64 7)).setCell ⟨b2, 1, none⟩ (.int .u32 (c : Int))).setCell ⟨b2, 2, none⟩ (.int .u32 (n : Int))).setCell ⟨b2, 3, none⟩ (.int .u64 0)).setCell ⟨b2, 4, none⟩ (.int .u32 0)).setCell ⟨b2, 5, none⟩ (.int .u64 0)).setCell ⟨b2, 6, none⟩ (.int .u32 0)).setCell ⟨b2, 7, none⟩ (.int .u64 0)).setCell ⟨b2, 8, none⟩ (.int .u32 0)).setCell ⟨b2, 9, none⟩ (.string ⟨#[]⟩)).setCell ⟨b2, 10, none⟩ (.int .u8 0)).setCell ⟨b2, 11, none⟩ (.bool false)).setCell ⟨b2, 12, none⟩ (.slice none 0 0)).cell? ⟨b2, 2, none⟩ = some (.int .u32 (n : Int)) := block_cell HI.out rfl
  have r3 : (((((((((((((Y1.setCell ⟨b2, 0, none⟩ (.int .i64 7)).setCell ⟨b2, 1, none⟩ (.int .u32 (c : Int))).setCell ⟨b2, 2, none⟩ (.int .u32 (n : Int))).setCell ⟨b2, 3, none⟩ (.int .u64 0)).setCell ⟨b2, 4, none⟩ (.int .u32 0)).setCell ⟨b2, 5, none⟩ (.int .u64 0)).setCell ⟨b2, 6, none⟩ (.int .u32 0)).setCell ⟨b2, 7, none⟩ (.int .u64 0)).setCell ⟨b2, 8, none⟩ (.int .u32 0)).setCell ⟨b2, 9, none⟩ (.string ⟨#[]⟩)).setCell ⟨b2, 10, none⟩ (.int .u8 0)).setCell ⟨b2, 11, none⟩ (.bool false)).setCell ⟨b2, 12, none⟩ (.slice none 0 0)).cell? ⟨b2, 3, none⟩ = some (.int .u64 0) := block_cell HI.out rfl
  have r4 : (((((((((((((Y1.setCell ⟨b2, 0, none⟩ (.int .i64 7)).setCell ⟨b2, 1, none⟩ (.int .u32 (c : Int))).setCell ⟨b2, 2, none⟩ (.int .u32 (n : Int))).setCell ⟨b2, 3, none⟩ (.int .u64 0)).setCell ⟨b2, 4, none⟩ (.int .u32 0)).setCell ⟨b2, 5, none⟩ (.int .u64 0)).setCell ⟨b2, 6, none⟩ (.int .u32 0)).setCell ⟨b2, 7, none⟩ (.int .u64 0)).setCell ⟨b2, 8, none⟩ (.int .u32 0)).setCell ⟨b2, 9, none⟩ (.string ⟨#[]⟩)).setCell ⟨b2, 10, none⟩ (.int .u8 0)).setCell ⟨b2, 11, none⟩ (.bool false)).setCell ⟨b2, 12, none⟩ (.slice none 0 0)).cell? ⟨b2, 4, none⟩ = some (.int .u32 0) := block_cell HI.out rfl
  have r5 : (((((((((((((Y1.setCell ⟨b2, 0, none⟩ (.int .i64 7)).setCell ⟨b2, 1, none⟩ (.int .u32 (c : Int))).setCell ⟨b2, 2, none⟩ (.int .u32 (n : Int))).setCell ⟨b2, 3, none⟩ (.int .u64 0)).setCell ⟨b2, 4, none⟩ (.int .u32 0)).setCell ⟨b2, 5, none⟩ (.int .u64 0)).setCell ⟨b2, 6, none⟩ (.int .u32 0)).setCell ⟨b2, 7, none⟩ (.int .u64 0)).setCell ⟨b2, 8, none⟩ (.int .u32 0)).setCell ⟨b2, 9, none⟩ (.string ⟨#[]⟩)).setCell ⟨b2, 10, none⟩ (.int .u8 0)).setCell ⟨b2, 11, none⟩ (.bool false)).setCell ⟨b2, 12, none⟩ (.slice none 0 0)).cell? ⟨b2, 5, none⟩ = some (.int .u64 0) := block_cell HI.out rfl
  have r6 : (((((((((((((Y1.setCell ⟨b2, 0, none⟩ (.int .i64 7)).setCell ⟨b2, 1, none⟩ (.int .u32 (c : Int))).setCell ⟨b2, 2, none⟩ (.int .u32 (n : Int))).setCell ⟨b2, 3, none⟩ (.int .u64 0)).setCell ⟨b2, 4, none⟩ (.int .u32 0)).setCell ⟨b2, 5, none⟩ (.int .u64 0)).setCell ⟨b2, 6, none⟩ (.int .u32 0)).setCell ⟨b2, 7, none⟩ (.int .u64 0)).setCell ⟨b2, 8, none⟩ (.int .u32 0)).setCell ⟨b2, 9, none⟩ (.string ⟨#[]⟩)).setCell ⟨b2, 10, none⟩ (.int .u8 0)).setCell ⟨b2, 11, none⟩ (.bool false)).setCell ⟨b2, 12, none⟩ (.slice none 0 0)).cell? ⟨b2, 6, none⟩ = some (.int .u32 0) := block_cell HI.out rfl
  have r7 : (((((((((((((Y1.setCell ⟨b2, 0, none⟩ (.int .i64 7)).setCell ⟨b2, 1, none⟩ (.int .u32 (c : Int))).setCell ⟨b2, 2, none⟩ (.int .u32 (n : Int))).setCell ⟨b2, 3, none⟩ (.int .u64 0)).setCell ⟨b2, 4, none⟩ (.int .u32 0)).setCell ⟨b2, 5, none⟩ (.int .u64 0)).setCell ⟨b2, 6, none⟩ (.int .u32 0)).setCell ⟨b2, 7, none⟩ (.int .u64 0)).setCell ⟨b2, 8, none⟩ (.int .u32 0)).setCell ⟨b2, 9, none⟩ (.string ⟨#[]⟩)).setCell ⟨b2, 10, none⟩ (.int .u8 0)).setCell ⟨b2, 11, none⟩ (.bool false)).setCell ⟨b2, 12, none⟩ (.slice none 0 0)).cell? ⟨b2, 7, none⟩ = some (.int .u64 0) := block_cell HI.out rfl
  have r8 : (((((((((((((Y1.setCell ⟨b2, 0, none⟩ (.int .i64 7)).setCell ⟨b2, 1, none⟩ (.int .u32 (c : Int))).setCell ⟨b2, 2, none⟩ (.int .u32 (n : Int))).setCell ⟨b2, 3, none⟩ (.int .u64 0)).setCell ⟨b2, 4, none⟩ (.int .u32 0)).setCell ⟨b2, 5, none⟩ (.int .u64 0)).setCell ⟨b2, 6, none⟩ (.int .u32 0)).setCell ⟨b2, 7, none⟩ (.int .u64 0)).setCell ⟨b2, 8, none⟩ (.int .u32 0)).setCell ⟨b2, 9, none⟩ (.string ⟨#[]⟩)).setCell ⟨b2, 10, none⟩ (.int .u8 0)).setCell ⟨b2, 11, none⟩ (.bool false)).setCell ⟨b2, 12, none⟩ (.slice none 0 0)).cell? ⟨b2, 8, none⟩ = some (.int .u32 0) := block_cell HI.out rfl
  have r9 : (((((((((((((Y1.setCell ⟨b2, 0, none⟩ (.int .i64 7)).setCell ⟨b2, 1, none⟩ (.int .u32 (c : Int))).setCell ⟨b2, 2, none⟩ (.int .u32 (n : Int))).setCell ⟨b2, 3, none⟩ (.int .u64 0)).setCell ⟨b2, 4, none⟩ (.int .u32 0)).setCell ⟨b2, 5, none⟩ (.int .u64 0)).setCell ⟨b2, 6, none⟩ (.int .u32 0)).setCell ⟨b2, 7, none⟩ (.int .u64 0)).setCell ⟨b2, 8, none⟩ (.int .u32 0)).setCell ⟨b2, 9, none⟩ (.string ⟨#[]⟩)).setCell ⟨b2, 10, none⟩ (.int .u8 0)).setCell ⟨b2, 11, none⟩ (.bool false)).setCell ⟨b2, 12, none⟩ (.slice none 0 0)).cell? ⟨b2, 9, none⟩ = some (.string ⟨#[]⟩) := block_cell HI.out rfl
  have r10 : (((((((((((((Y1.setCell ⟨b2, 0, none⟩ (.int .i64 7)).setCell ⟨b2, 1, none⟩ (.int .u32 (c : Int))).setCell ⟨b2, 2, none⟩ (.int .u32 (n : Int))).setCell ⟨b2, 3, none⟩ (.int .u64 0)).setCell ⟨b2, 4, none⟩ (.int .u32 0)).setCell ⟨b2, 5, none⟩ (.int .u64 0)).setCell ⟨b2, 6, none⟩ (.int .u32 0)).setCell ⟨b2, 7, none⟩ (.int .u64 0)).setCell ⟨b2, 8, none⟩ (.int .u32 0)).setCell ⟨b2, 9, none⟩ (.string ⟨#[]⟩)).setCell ⟨b2, 10, none⟩ (.int .u8 0)).setCell ⟨b2, 11, none⟩ (.bool false)).setCell ⟨b2, 12, none⟩ (.slice none 0 0)).cell? ⟨b2, 10, none⟩ = some (.int .u8 0) := block_cell HI.out rfl
  have r11 : (((((((((((((Y1.setCell ⟨b2, 0, none⟩ (.int .i64 7)).setCell ⟨b2, 1, none⟩ (.int .u32 (c : Int))).setCell ⟨b2, 2, none⟩ (.int .u32 (n : Int))).setCell ⟨b2, 3, none⟩ (.int .u64 0)).setCell ⟨b2, 4, none⟩ (.int .u32 0)).setCell ⟨b2, 5, none⟩ (.int .u64 0)).setCell ⟨b2, 6, none⟩ (.int .u32 0)).setCell ⟨b2, 7, none⟩ (.int .u64 0)).setCell ⟨b2, 8, none⟩ (.int .u32 0)).setCell ⟨b2, 9, none⟩ (.string ⟨#[]⟩)).setCell ⟨b2, 10, none⟩ (.int .u8 0)).setCell ⟨b2, 11, none⟩ (.bool false)).setCell ⟨b2, 12, none⟩ (.slice none 0 0)).cell? ⟨b2, 11, none⟩ = some (.bool false) := block_cell HI.out rfl
  have r12 : (((((((((((((Y1.setCell ⟨b2, 0, none⟩ (.int .i64 7)).setCell ⟨b2, 1, none⟩ (.int .u32 (c : Int))).setCell ⟨b2, 2, none⟩ (.int .u32 (n : Int))).setCell ⟨b2, 3, none⟩ (.int .u64 0)).setCell ⟨b2, 4, none⟩ (.int .u32 0)).setCell ⟨b2, 5, none⟩ (.int .u64 0)).setCell ⟨b2, 6, none⟩ (.int .u32 0)).setCell ⟨b2, 7, none⟩ (.int .u64 0)).setCell ⟨b2, 8, none⟩ (.int .u32 0)).setCell ⟨b2, 9, none⟩ (.string ⟨#[]⟩)).setCell ⟨b2, 10, none⟩ (.int .u8 0)).setCell ⟨b2, 11, none⟩ (.bool false)).setCell ⟨b2, 12, none⟩ (.slice none 0 0)).cell? ⟨b2, 12, none⟩ = some (.slice none 0 0) := block_cell HI.out rfl
  refine bodyPost_ret (v := .agg #[.int .i64 7, .int .u32 (c : Int), .int .u32 (n : Int), .int .u64 0, .int .u32 0, .int .u64 0, .int .u32 0, .int .u64 0, .int .u32 0, .string ⟨#[]⟩, .int .u8 0, .bool false, .slice none 0 0]) (by simp [results, Try.results45, go_sem, r0, r1, r2, r3, r4, r5, r6, r7, r8, r9, r10, r11, r12]) rfl ?_
  exact ⟨rfl, HBw.out⟩

set_option maxHeartbeats 1600000 in
set_option maxRecDepth 100000 in
theorem bare44_8 (c n sp sl ap aq mp ml : Nat) (prim : List UInt8) (pt : Nat) (dn : Bool) (ao : Option Addr) (ln cp : Nat) (w : World) : Calls Try.prog 45 #[.agg #[.int .i64 8, .int .u32 (c : Int), .int .u32 (n : Int), .int .u64 (sp : Int), .int .u32 (sl : Int), .int .u64 (ap : Int), .int .u32 (aq : Int), .int .u64 (mp : Int), .int .u32 (ml : Int), .string (bs prim), .int .u8 (pt : Int), .bool dn, .slice ao ln cp]] w fun r w' => r = .returned (.agg #[.int .i64 8, .int .u32 (c : Int), .int .u32 (n : Int), .int .u64 0, .int .u32 0, .int .u64 (ap : Int), .int .u32 (aq : Int), .int .u64 0, .int .u32 0, .string ⟨#[]⟩, .int .u8 0, .bool false, .slice ao ln cp]) ∧ Below w.heap.size w w' := by
  have HZ : Hid _ := bz_new (w := w) #[.int .i64 8, .int .u32 (c : Int), .int .u32 (n : Int), .int .u64 (sp : Int), .int .u32 (sl : Int), .int .u64 (ap : Int), .int .u32 (aq : Int), .int .u64 (mp : Int), .int .u32 (ml : Int), .string (bs prim), .int .u8 (pt : Int), .bool dn, .slice ao ln cp] #[.int .i64 8, .int .u32 0, .int .u32 0, .int .u64 0, .int .u32 0, .int .u64 0, .int .u32 0, .int .u64 0, .int .u32 0, .string ⟨#[]⟩, .int .u8 0, .bool false, .slice none 0 0]
  go_enter Try.func45, Try.ntmps45
  go_upto_region 3 with fail
  obtain ⟨Y0, hY⟩ : ∃ Y0, ((w.alloc (.cells #[.int .i64 8, .int .u32 (c : Int), .int .u32 (n : Int), .int .u64 (sp : Int), .int .u32 (sl : Int), .int .u64 (ap : Int), .int .u32 (aq : Int), .int .u64 (mp : Int), .int .u32 (ml : Int), .string (bs prim), .int .u8 (pt : Int), .bool dn, .slice ao ln cp] 30)).alloc (.cells #[.int .i64 0, .int .u32 0, .int .u32 0, .int .u64 0, .int .u32 0, .int .u64 0, .int .u32 0, .int .u64 0, .int .u32 0, .string ⟨#[]⟩, .int .u8 0, .bool false, .slice none 0 0] 30)).alloc (.cells #[.int .i64 8, .int .u32 0, .int .u32 0, .int .u64 0, .int .u32 0, .int .u64 0, .int .u32 0, .int .u64 0, .int .u32 0, .string ⟨#[]⟩, .int .u8 0, .bool false, .slice none 0 0] 30) = Y0 := ⟨_, rfl⟩
  rw [hY] at HZ ⊢
  clear hY
  obtain ⟨b2, hb2⟩ : ∃ b2, w.heap.size + 1 = b2 := ⟨_, rfl⟩
  obtain ⟨b3, hb3⟩ : ∃ b3, b2 + 1 = b3 := ⟨_, rfl⟩
  obtain ⟨b1, hb1⟩ : ∃ b1, w.heap.size = b1 := ⟨_, rfl⟩
  rw [hb2, hb3] at HZ ⊢
  have HZ : Hid (Bz w b1 b2 b3 #[.int .i64 8, .int .u32 (c : Int), .int .u32 (n : Int), .int .u64 (sp : Int), .int .u32 (sl : Int), .int .u64 (ap : Int), .int .u32 (aq : Int), .int .u64 (mp : Int), .int .u32 (ml : Int), .string (bs prim), .int .u8 (pt : Int), .bool dn, .slice ao ln cp] #[.int .i64 8, .int .u32 0, .int .u32 0, .int .u64 0, .int .u32 0, .int .u64 0, .int .u32 0, .int .u64 0, .int .u32 0, .string ⟨#[]⟩, .int .u8 0, .bool false, .slice none 0 0] Y0) := by rw [← hb1]; exact HZ.out
  rw [hb1]
  clear hb1 hb2 hb3
  have p0 : Y0.cell? ⟨b1, 0, none⟩ = some (.int .i64 8) := block_cell HZ.out.x1 rfl
  have p1 : Y0.cell? ⟨b1, 1, none⟩ = some (.int .u32 (c : Int)) := block_cell HZ.out.x1 rfl
  have q1 : Y0.cell? ⟨b3, 1, none⟩ = some (.int .u32 0) := block_cell HZ.out.x3 rfl
  have f1 : Y0.frozen? ⟨b3, 1, none⟩ = false := block_frozen HZ.out.x3 1
  have p2 : Y0.cell? ⟨b1, 2, none⟩ = some (.int .u32 (n : Int)) := block_cell HZ.out.x1 rfl
  have q2 : Y0.cell? ⟨b3, 2, none⟩ = some (.int .u32 0) := block_cell HZ.out.x3 rfl
  have f2 : Y0.frozen? ⟨b3, 2, none⟩ = false := block_frozen HZ.out.x3 2
  obtain ⟨Y1, hY⟩ : ∃ Y1, ((Y0.setCell ⟨b3, 1, none⟩ (.int .u32 (c : Int))).setCell ⟨b3, 2, none⟩ (.int .u32 (n : Int))) = Y1 := ⟨_, rfl⟩
  have HZ2 : Hid (Bz w b1 b2 b3 #[.int .i64 8, .int .u32 (c : Int), .int .u32 (n : Int), .int .u64 (sp : Int), .int .u32 (sl : Int), .int .u64 (ap : Int), .int .u32 (aq : Int), .int .u64 (mp : Int), .int .u32 (ml : Int), .string (bs prim), .int .u8 (pt : Int), .bool dn, .slice ao ln cp] #[.int .i64 8, .int .u32 (c : Int), .int .u32 (n : Int), .int .u64 0, .int .u32 0, .int .u64 0, .int .u32 0, .int .u64 0, .int .u32 0, .string ⟨#[]⟩, .int .u8 0, .bool false, .slice none 0 0] Y1) := by rw [← hY]; exact ((HZ.out.st 1 (.int .u32 (c : Int))).st 2 (.int .u32 (n : Int)))
  have g0 : Y1.cell? ⟨b1, 0, none⟩ = some (.int .i64 8) := block_cell HZ2.out.x1 rfl
  go_upto_region 21 with fail
  clear p0 g0 hY HZ p1 q1 f1 p2 q2 f2
  have HZ : Hid _ := HZ2.out
  clear HZ2
  have p0 : Y1.cell? ⟨b1, 0, none⟩ = some (.int .i64 8) := block_cell HZ.out.x1 rfl
  have p5 : Y1.cell? ⟨b1, 5, none⟩ = some (.int .u64 (ap : Int)) := block_cell HZ.out.x1 rfl
  have q5 : Y1.cell? ⟨b3, 5, none⟩ = some (.int .u64 0) := block_cell HZ.out.x3 rfl
  have f5 : Y1.frozen? ⟨b3, 5, none⟩ = false := block_frozen HZ.out.x3 5
  have p6 : Y1.cell? ⟨b1, 6, none⟩ = some (.int .u32 (aq : Int)) := block_cell HZ.out.x1 rfl
  have q6 : Y1.cell? ⟨b3, 6, none⟩ = some (.int .u32 0) := block_cell HZ.out.x3 rfl
  have f6 : Y1.frozen? ⟨b3, 6, none⟩ = false := block_frozen HZ.out.x3 6
  obtain ⟨Y2, hY⟩ : ∃ Y2, ((Y1.setCell ⟨b3, 5, none⟩ (.int .u64 (ap : Int))).setCell ⟨b3, 6, none⟩ (.int .u32 (aq : Int))) = Y2 := ⟨_, rfl⟩
  have HZ2 : Hid (Bz w b1 b2 b3 #[.int .i64 8, .int .u32 (c : Int), .int .u32 (n : Int), .int .u64 (sp : Int), .int .u32 (sl : Int), .int .u64 (ap : Int), .int .u32 (aq : Int), .int .u64 (mp : Int), .int .u32 (ml : Int), .string (bs prim), .int .u8 (pt : Int), .bool dn, .slice ao ln cp] #[.int .i64 8, .int .u32 (c : Int), .int .u32 (n : Int), .int .u64 0, .int .u32 0, .int .u64 (ap : Int), .int .u32 (aq : Int), .int .u64 0, .int .u32 0, .string ⟨#[]⟩, .int .u8 0, .bool false, .slice none 0 0] Y2) := by rw [← hY]; exact ((HZ.out.st 5 (.int .u64 (ap : Int))).st 6 (.int .u32 (aq : Int)))
  have g0 : Y2.cell? ⟨b1, 0, none⟩ = some (.int .i64 8) := block_cell HZ2.out.x1 rfl
  go_upto_region 22 with fail
  clear p0 g0 hY HZ p5 q5 f5 p6 q6 f6
  have HZ : Hid _ := HZ2.out
  clear HZ2
  have p0 : Y2.cell? ⟨b1, 0, none⟩ = some (.int .i64 8) := block_cell HZ.out.x1 rfl
  have p12 : Y2.cell? ⟨b1, 12, none⟩ = some (.slice ao ln cp) := block_cell HZ.out.x1 rfl
  have q12 : Y2.cell? ⟨b3, 12, none⟩ = some (.slice none 0 0) := block_cell HZ.out.x3 rfl
  have f12 : Y2.frozen? ⟨b3, 12, none⟩ = false := block_frozen HZ.out.x3 12
  obtain ⟨Y3, hY⟩ : ∃ Y3, (Y2.setCell ⟨b3, 12, none⟩ (.slice ao ln cp)) = Y3 := ⟨_, rfl⟩
  have HZ2 : Hid (Bz w b1 b2 b3 #[.int .i64 8, .int .u32 (c : Int), .int .u32 (n : Int), .int .u64 (sp : Int), .int .u32 (sl : Int), .int .u64 (ap : Int), .int .u32 (aq : Int), .int .u64 (mp : Int), .int .u32 (ml : Int), .string (bs prim), .int .u8 (pt : Int), .bool dn, .slice ao ln cp] #[.int .i64 8, .int .u32 (c : Int), .int .u32 (n : Int), .int .u64 0, .int .u32 0, .int .u64 (ap : Int), .int .u32 (aq : Int), .int .u64 0, .int .u32 0, .string ⟨#[]⟩, .int .u8 0, .bool false, .slice ao ln cp] Y3) := by rw [← hY]; exact (HZ.out.st 12 (.slice ao ln cp))
  have g0 : Y3.cell? ⟨b1, 0, none⟩ = some (.int .i64 8) := block_cell HZ2.out.x1 rfl
  go_upto_region 28 with fail
  clear p0 g0 hY HZ p12 q12 f12
  have HZ : Hid _ := HZ2.out
  clear HZ2
  have x0 : Y3.cell? ⟨b3, 0, none⟩ = some (.int .i64 8) := block_cell HZ.out.x3 rfl
  have x1 : Y3.cell? ⟨b3, 1, none⟩ = some (.int .u32 (c : Int)) := block_cell HZ.out.x3 rfl
  have x2 : Y3.cell? ⟨b3, 2, none⟩ = some (.int .u32 (n : Int)) := block_cell HZ.out.x3 rfl
  have x3 : Y3.cell? ⟨b3, 3, none⟩ = some (.int .u64 0) := block_cell HZ.out.x3 rfl
  have x4 : Y3.cell? ⟨b3, 4, none⟩ = some (.int .u32 0) := block_cell HZ.out.x3 rfl
  have x5 : Y3.cell? ⟨b3, 5, none⟩ = some (.int .u64 (ap : Int)) := block_cell HZ.out.x3 rfl
  have x6 : Y3.cell? ⟨b3, 6, none⟩ = some (.int .u32 (aq : Int)) := block_cell HZ.out.x3 rfl
  have x7 : Y3.cell? ⟨b3, 7, none⟩ = some (.int .u64 0) := block_cell HZ.out.x3 rfl
  have x8 : Y3.cell? ⟨b3, 8, none⟩ = some (.int .u32 0) := block_cell HZ.out.x3 rfl
  have x9 : Y3.cell? ⟨b3, 9, none⟩ = some (.string ⟨#[]⟩) := block_cell HZ.out.x3 rfl
  have x10 : Y3.cell? ⟨b3, 10, none⟩ = some (.int .u8 0) := block_cell HZ.out.x3 rfl
  have x11 : Y3.cell? ⟨b3, 11, none⟩ = some (.bool false) := block_cell HZ.out.x3 rfl
  have x12 : Y3.cell? ⟨b3, 12, none⟩ = some (.slice ao ln cp) := block_cell HZ.out.x3 rfl
  have y0 : Y3.cell? ⟨b2, 0, none⟩ = some (.int .i64 0) := block_cell HZ.out.x2 rfl
  have y1 : Y3.cell? ⟨b2, 1, none⟩ = some (.int .u32 0) := block_cell HZ.out.x2 rfl
  have y2 : Y3.cell? ⟨b2, 2, none⟩ = some (.int .u32 0) := block_cell HZ.out.x2 rfl
  have y3 : Y3.cell? ⟨b2, 3, none⟩ = some (.int .u64 0) := block_cell HZ.out.x2 rfl
  have y4 : Y3.cell? ⟨b2, 4, none⟩ = some (.int .u32 0) := block_cell HZ.out.x2 rfl
  have y5 : Y3.cell? ⟨b2, 5, none⟩ = some (.int .u64 0) := block_cell HZ.out.x2 rfl
  have y6 : Y3.cell? ⟨b2, 6, none⟩ = some (.int .u32 0) := block_cell HZ.out.x2 rfl
  have y7 : Y3.cell? ⟨b2, 7, none⟩ = some (.int .u64 0) := block_cell HZ.out.x2 rfl
  have y8 : Y3.cell? ⟨b2, 8, none⟩ = some (.int .u32 0) := block_cell HZ.out.x2 rfl
  have y9 : Y3.cell? ⟨b2, 9, none⟩ = some (.string ⟨#[]⟩) := block_cell HZ.out.x2 rfl
  have y10 : Y3.cell? ⟨b2, 10, none⟩ = some (.int .u8 0) := block_cell HZ.out.x2 rfl
  have y11 : Y3.cell? ⟨b2, 11, none⟩ = some (.bool false) := block_cell HZ.out.x2 rfl
  have y12 : Y3.cell? ⟨b2, 12, none⟩ = some (.slice none 0 0) := block_cell HZ.out.x2 rfl
  have z0 : Y3.frozen? ⟨b2, 0, none⟩ = false := block_frozen HZ.out.x2 0
  have z1 : Y3.frozen? ⟨b2, 1, none⟩ = false := block_frozen HZ.out.x2 1
  have z2 : Y3.frozen? ⟨b2, 2, none⟩ = false := block_frozen HZ.out.x2 2
  have z3 : Y3.frozen? ⟨b2, 3, none⟩ = false := block_frozen HZ.out.x2 3
  have z4 : Y3.frozen? ⟨b2, 4, none⟩ = false := block_frozen HZ.out.x2 4
  have z5 : Y3.frozen? ⟨b2, 5, none⟩ = false := block_frozen HZ.out.x2 5
  have z6 : Y3.frozen? ⟨b2, 6, none⟩ = false := block_frozen HZ.out.x2 6
  have z7 : Y3.frozen? ⟨b2, 7, none⟩ = false := block_frozen HZ.out.x2 7
  have z8 : Y3.frozen? ⟨b2, 8, none⟩ = false := block_frozen HZ.out.x2 8
  have z9 : Y3.frozen? ⟨b2, 9, none⟩ = false := block_frozen HZ.out.x2 9
  have z10 : Y3.frozen? ⟨b2, 10, none⟩ = false := block_frozen HZ.out.x2 10
  have z11 : Y3.frozen? ⟨b2, 11, none⟩ = false := block_frozen HZ.out.x2 11
  have z12 : Y3.frozen? ⟨b2, 12, none⟩ = false := block_frozen HZ.out.x2 12
  have HI : Hid _ := bx13 (.int .i64 8) (.int .u32 (c : Int)) (.int .u32 (n : Int)) (.int .u64 0) (.int .u32 0) (.int .u64 (ap : Int)) (.int .u32 (aq : Int)) (.int .u64 0) (.int .u32 0) (.string ⟨#[]⟩) (.int .u8 0) (.bool false) (.slice ao ln cp) HZ.out.x2
  have HBw : Hid _ := bx13_below (.int .i64 8) (.int .u32 (c : Int)) (.int .u32 (n : Int)) (.int .u64 0) (.int .u32 0) (.int .u64 (ap : Int)) (.int .u32 (aq : Int)) (.int .u64 0) (.int .u32 0) (.string ⟨#[]⟩) (.int .u8 0) (.bool false) (.slice ao ln cp) HZ.out.bel HZ.out.l2
  clear HZ
  go_wp2_with fail
  have r0 : (((((((((((((Y3.setCell ⟨b2, 0, none⟩ (.int .i64 8)).setCell ⟨b2, 1, none⟩ (.int .u32 (c : Int))).setCell ⟨b2, 2, none⟩ (.int .u32 (n : Int))).setCell ⟨b2, 3, none⟩ (.int .u64 0)).setCell ⟨b2, 4, none⟩ (.int .u32 0)).setCell ⟨b2, 5, none⟩ (.int .u64 (ap : Int))).setCell ⟨b2, 6, none⟩ (.int .u32 (aq : Int))).setCell ⟨b2, 7, none⟩ (.int .u64 0)).setCell ⟨b2, 8, none⟩ (.int .u32 0)).setCell ⟨b2, 9, none⟩ (.string ⟨#[]⟩)).setCell ⟨b2, 10, none⟩ (.int .u8 0)).setCell ⟨b2, 11, none⟩ (.bool false)).setCell ⟨b2, 12, none⟩ (.slice ao ln cp)).cell? ⟨b2, 0, none⟩ = some (.int .i64 8) := block_cell HI.out rfl
  have r1 : (((((((((((((Y3.setCell ⟨b2, 0, none⟩ (.int .i64 8)).setCell ⟨b2, 1, none⟩ (.int .u32 (c : Int))).setCell ⟨b2, 2, none⟩ (.int .u32 (n : Int))).setCell ⟨b2, 3, none⟩ (.int .u64 0)).setCell ⟨b2, 4, none⟩ (.int .u32 0)).setCell ⟨b2, 5, none⟩ (.int .u64 (ap : Int))).setCell ⟨b2, 6, none⟩ (.int .u32 (aq : Int))).setCell ⟨b2, 7, none⟩ (.int .u64 0)).setCell ⟨b2, 8, none⟩ (.int .u32 0)).setCell ⟨b2, 9, none⟩ (.string ⟨#[]⟩)).setCell ⟨b2, 10, none⟩ (.int .u8 0)).setCell ⟨b2, 11, none⟩ (.bool false)).setCell ⟨b2, 12, none⟩ (.slice ao ln cp)).cell? ⟨b2, 1, none⟩ = some (.int .u32 (c : Int)) := block_cell HI.out rfl
  have r2 : (((((((((((((Y3.setCell ⟨b2, 0, none⟩ (.int .i64 8)).setCell ⟨b2, 1, none⟩ (.int .u32 (c : Int))).setCell ⟨b2, 2, none⟩ (.int .u32 (n : Int))).setCell ⟨b2, 3, none⟩ (.int .u64 0)).setCell ⟨b2, 4, none⟩ (.int .u32 0)).setCell ⟨b2, 5, none⟩ (.int .u64 (ap : Int))).setCell ⟨b2, 6, none⟩ (.int .u32 (aq : Int))).setCell ⟨b2, 7, none⟩ (.int .u64 0)).setCell ⟨b2, 8, none⟩ (.int .u32 0)).setCell ⟨b2, 9, none⟩ (.string ⟨#[]⟩)).setCell ⟨b2, 10, none⟩ (.int .u8 0)).setCell ⟨b2, 11, none⟩ (.bool false)).setCell ⟨b2, 12, none⟩ (.slice ao ln cp)).cell? ⟨b2, 2, none⟩ = some (.int .u32 (n : Int)) := block_cell HI.out rfl
  have r3 : (((((((((((((Y3.setCell ⟨b2, 0, none⟩ (.int .i64 8)).setCell ⟨b2, 1, none⟩ (.int .u32 (c : Int))).setCell ⟨b2, 2, none⟩ (.int .u32 (n : Int))).setCell ⟨b2, 3, none⟩ (.int .u64 0)).setCell ⟨b2, 4, none⟩ (.int .u32 0)).setCell ⟨b2, 5, none⟩ (.int .u64 (ap : Int))).setCell ⟨b2, 6, none⟩ (.int .u32 (aq : Int))).setCell ⟨b2, 7, none⟩ (.int .u64 0)).setCell ⟨b2, 8, none⟩ (.int .u32 0)).setCell ⟨b2, 9, none⟩ (.string ⟨#[]⟩)).setCell ⟨b2, 10, none⟩ (.int .u8 0)).setCell ⟨b2, 11, none⟩ (.bool false)).setCell ⟨b2, 12, none⟩ (.slice ao ln cp)).cell? ⟨b2, 3, none⟩ = some (.int .u64 0) := block_cell HI.out rfl
  have r4 : (((((((((((((Y3.setCell ⟨b2, 0, none⟩ (.int .i64 8)).setCell ⟨b2, 1, none⟩ (.int .u32 (c : Int))).setCell ⟨b2, 2, none⟩ (.int .u32 (n : Int))).setCell ⟨b2, 3, none⟩ (.int .u64 0)).setCell ⟨b2, 4, none⟩ (.int .u32 0)).setCell ⟨b2, 5, none⟩ (.int .u64 (ap : Int))).setCell ⟨b2, 6, none⟩ (.int .u32 (aq : Int))).setCell ⟨b2, 7, none⟩ (.int .u64 0)).setCell ⟨b2, 8, none⟩ (.int .u32 0)).setCell ⟨b2, 9, none⟩ (.string ⟨#[]⟩)).setCell ⟨b2, 10, none⟩ (.int .u8 0)).setCell ⟨b2, 11, none⟩ (.bool false)).setCell ⟨b2, 12, none⟩ (.slice ao ln cp)).cell? ⟨b2, 4, none⟩ = some (.int .u32 0) := block_cell HI.out rfl
  have r5 : (((((((((((((Y3.setCell ⟨b2, 0, none⟩ (.int .i64 8)).setCell ⟨b2, 1, none⟩ (.int .u32 (c : Int))).setCell ⟨b2, 2, none⟩ (.int .u32 (n : Int))).setCell ⟨b2, 3, none⟩ (.int .u64 0)).setCell ⟨b2, 4, none⟩ (.int .u32 0)).setCell ⟨b2, 5, none⟩ (.int .u64 (ap : Int))).setCell ⟨b2, 6, none⟩ (.int .u32 (aq : Int))).setCell ⟨b2, 7, none⟩ (.int .u64 0)).setCell ⟨b2, 8, none⟩ (.int .u32 0)).setCell ⟨b2, 9, none⟩ (.string ⟨#[]⟩)).setCell ⟨b2, 10, none⟩ (.int .u8 0)).setCell ⟨b2, 11, none⟩ (.bool false)).setCell ⟨b2, 12, none⟩ (.slice ao ln cp)).cell? ⟨b2, 5, none⟩ = some (.int .u64 (ap : Int)) := block_cell HI.out rfl
  have r6 : (((((((((((((Y3.setCell ⟨b2, 0, none⟩ (.int .i64 8)).setCell ⟨b2, 1, none⟩ (.int .u32 (c : Int))).setCell ⟨b2, 2, none⟩ (.int .u32 (n : Int))).setCell ⟨b2, 3, none⟩ (.int .u64 0)).setCell ⟨b2, 4, none⟩ (.int .u32 0)).setCell ⟨b2, 5, none⟩ (.int .u64 (ap : Int))).setCell ⟨b2, 6, none⟩ (.int .u32 (aq : Int))).setCell ⟨b2, 7, none⟩ (.int .u64 0)).setCell ⟨b2, 8, none⟩ (.int .u32 0)).setCell ⟨b2, 9, none⟩ (.string ⟨#[]⟩)).setCell ⟨b2, 10, none⟩ (.int .u8 0)).setCell ⟨b2, 11, none⟩ (.bool false)).setCell ⟨b2, 12, none⟩ (.slice ao ln cp)).cell? ⟨b2, 6, none⟩ = some (.int .u32 (aq : Int)) := block_cell HI.out rfl
  have r7 : (((((((((((((Y3.setCell ⟨b2, 0, none⟩ (.int .i64 8)).setCell ⟨b2, 1, none⟩ (.int .u32 (c : Int))).setCell ⟨b2, 2, none⟩ (.int .u32 (n : Int))).setCell ⟨b2, 3, none⟩ (.int .u64 0)).setCell ⟨b2, 4, none⟩ (.int .u32 0)).setCell ⟨b2, 5, none⟩ (.int .u64 (ap : Int))).setCell ⟨b2, 6, none⟩ (.int .u32 (aq : Int))).setCell ⟨b2, 7, none⟩ (.int .u64 0)).setCell ⟨b2, 8, none⟩ (.int .u32 0)).setCell ⟨b2, 9, none⟩ (.string ⟨#[]⟩)).setCell ⟨b2, 10, none⟩ (.int .u8 0)).setCell ⟨b2, 11, none⟩ (.bool false)).setCell ⟨b2, 12, none⟩ (.slice ao ln cp)).cell? ⟨b2, 7, none⟩ = some (.int .u64 0) := block_cell HI.out rfl
  have r8 : (((((((((((((Y3.setCell ⟨b2, 0, none⟩ (.int .i64 8)).setCell ⟨b2, 1, none⟩ (.int .u32 (c : Int))).setCell ⟨b2, 2, none⟩ (.int .u32 (n : Int))).setCell ⟨b2, 3, none⟩ (.int .u64 0)).setCell ⟨b2, 4, none⟩ (.int .u32 0)).setCell ⟨b2, 5, none⟩ (.int .u64 (ap : Int))).setCell ⟨b2, 6, none⟩ (.int .u32 (aq : Int))).setCell ⟨b2, 7, none⟩ (.int .u64 0)).setCell ⟨b2, 8, none⟩ (.int .u32 0)).setCell ⟨b2, 9, none⟩ (.string ⟨#[]⟩)).setCell ⟨b2, 10, none⟩ (.int .u8 0)).setCell ⟨b2, 11, none⟩ (.bool false)).setCell ⟨b2, 12, none⟩ (.slice ao ln cp)).cell? ⟨b2, 8, none⟩ = some (.int .u32 0) := block_cell HI.out rfl
  have r9 : (((((((((((((Y3.setCell ⟨b2, 0, none⟩ (.int .i64 8)).setCell ⟨b2, 1, none⟩ (.int .u32 (c : Int))).setCell ⟨b2, 2, none⟩ (.int .u32 (n : Int))).setCell ⟨b2, 3, none⟩ (.int .u64 0)).setCell ⟨b2, 4, none⟩ (.int .u32 0)).setCell ⟨b2, 5, none⟩ (.int .u64 (ap : Int))).setCell ⟨b2, 6, none⟩ (.int .u32 (aq : Int))).setCell ⟨b2, 7, none⟩ (.int .u64 0)).setCell ⟨b2, 8, none⟩ (.int .u32 0)).setCell ⟨b2, 9, none⟩ (.string ⟨#[]⟩)).setCell ⟨b2, 10, none⟩ (.int .u8 0)).setCell ⟨b2, 11, none⟩ (.bool false)).setCell ⟨b2, 12, none⟩ (.slice ao ln cp)).cell? ⟨b2, 9, none⟩ = some (.string ⟨#[]⟩) := block_cell HI.out rfl
  have r10 : (((((((((((((Y3.setCell ⟨b2, 0, none⟩ (.int .i64 8)).setCell ⟨b2, 1, none⟩ (.int .u32 (c : Int))).setCell ⟨b2, 2, none⟩ (.int .u32 (n : Int))).setCell ⟨b2, 3, none⟩ (.int .u64 0)).setCell ⟨b2, 4, none⟩ (.int .u32 0)).setCell ⟨b2, 5, none⟩ (.int .u64 (ap : Int))).setCell ⟨b2, 6, none⟩ (.int .u32 (aq : Int))).setCell ⟨b2, 7, none⟩ (.int .u64 0)).setCell ⟨b2, 8, none⟩ (.int .u32 0)).setCell ⟨b2, 9, none⟩ (.string ⟨#[]⟩)).setCell ⟨b2, 10, none⟩ (.int .u8 0)).setCell ⟨b2, 11, none⟩ (.bool false)).setCell ⟨b2, 12, none⟩ (.slice ao ln cp)).cell? ⟨b2, 10, none⟩ = some (.int .u8 0) := block_cell HI.out rfl
  have r11 : (((((((((((((Y3.setCell ⟨b2, 0, none⟩ (.int .i64 8)).setCell ⟨b2, 1, none⟩ (.int .u32 (c : Int))).setCell ⟨b2, 2, none⟩ (.int .u32 (n : Int))).setCell ⟨b2, 3, none⟩ (.int .u64 0)).setCell ⟨b2, 4, none⟩ (.int .u32 0)).setCell ⟨b2, 5, none⟩ (.int .u64 (ap : Int))).setCell ⟨b2, 6, none⟩ (.int .u32 (aq : Int))).setCell ⟨b2, 7, none⟩ (.int .u64 0)).setCell ⟨b2, 8, none⟩ (.int .u32 0)).setCell ⟨b2, 9, none⟩ (.string ⟨#[]⟩)).setCell ⟨b2, 10, none⟩ (.int .u8 0)).setCell ⟨b2, 11, none⟩ (.bool false)).setCell ⟨b2, 12, none⟩ (.slice ao ln cp)).cell? ⟨b2, 11, none⟩ = some (.bool false) := block_cell HI.out rfl
  have r12 : (((((((((((((Y3.setCell ⟨b2, 0, none⟩ (.int .i64 8)).setCell ⟨b2, 1, none⟩ (.int .u32 (c : Int))).setCell ⟨b2, 2, none⟩ (.int .u32 (n : Int))).setCell ⟨b2, 3, none⟩ (.int .u64 0)).setCell ⟨b2, 4, none⟩ (.int .u32 0)).setCell ⟨b2, 5, none⟩ (.int .u64 (ap : Int))).setCell ⟨b2, 6, none⟩ (.int .u32 (aq : Int))).setCell ⟨b2, 7, none⟩ (.int .u64 0)).setCell ⟨b2, 8, none⟩ (.int .u32 0)).setCell ⟨b2, 9, none⟩ (.string ⟨#[]⟩)).setCell ⟨b2, 10, none⟩ (.int .u8 0)).setCell ⟨b2, 11, none⟩ (.bool false)).setCell ⟨b2, 12, none⟩ (.slice ao ln cp)).cell? ⟨b2, 12, none⟩ = some (.slice ao ln cp) := block_cell HI.out rfl
  refine bodyPost_ret (v := .agg #[.int .i64 8, .int .u32 (c : Int), .int .u32 (n : Int), .int .u64 0, .int .u32 0, .int .u64 (ap : Int), .int .u32 (aq : Int), .int .u64 0, .int .u32 0, .string ⟨#[]⟩, .int .u8 0, .bool false, .slice ao ln cp]) (by simp [results, Try.results45, go_sem, r0, r1, r2, r3, r4, r5, r6, r7, r8, r9, r10, r11, r12]) rfl ?_
  exact ⟨rfl, HBw.out⟩
end Go.Proofs.Ytmgjlpgjjeknpaa

namespace Go.Proofs.Ytmgjlpgjjeknpaa
open Go.RowKit

set_option maxHeartbeats 1600000 in
set_option maxRecDepth 100000 in
theorem bare44_9 (c n sp sl ap aq mp ml : Nat) (prim : List UInt8) (pt : Nat) (dn : Bool) (ao : Option Addr) (ln cp : Nat) (w : World) : Calls Try.prog 45 #[.agg #[.int .i64 9, .int .u32 (c : Int), .int .u32 (n : Int), .int .u64 (sp : Int), .int .u32 (sl : Int), .int .u64 (ap : Int), .int .u32 (aq : Int), .int .u64 (mp : Int), .int .u32 (ml : Int), .string (bs prim), .int .u8 (pt : Int), .bool dn, .slice ao ln cp]] w fun r w' => r = .returned (.agg #[.int .i64 9, .int .u32 (c : Int), .int .u32 (n : Int), .int .u64 (sp : Int), .int .u32 (sl : Int), .int .u64 (ap : Int), .int .u32 (aq : Int), .int .u64 0, .int .u32 0, .string ⟨#[]⟩, .int .u8 (pt : Int), .bool dn, .slice none 0 0]) ∧ Below w.heap.size w w' := by
  have HZ : Hid _ := bz_new (w := w) #[.int .i64 9, .int .u32 (c : Int), .int .u32 (n : Int), .int .u64 (sp : Int), .int .u32 (sl : Int), .int .u64 (ap : Int), .int .u32 (aq : Int), .int .u64 (mp : Int), .int .u32 (ml : Int), .string (bs prim), .int .u8 (pt : Int), .bool dn, .slice ao ln cp] #[.int .i64 9, .int .u32 0, .int .u32 0, .int .u64 0, .int .u32 0, .int .u64 0, .int .u32 0, .int .u64 0, .int .u32 0, .string ⟨#[]⟩, .int .u8 0, .bool false, .slice none 0 0]
  go_enter Try.func45, Try.ntmps45
  go_upto_region 3 with fail
  obtain ⟨Y0, hY⟩ : ∃ Y0, ((w.alloc (.cells #[.int .i64 9, .int .u32 (c : Int), .int .u32 (n : Int), .int .u64 (sp : Int), .int .u32 (sl : Int), .int .u64 (ap : Int), .int .u32 (aq : Int), .int .u64 (mp : Int), .int .u32 (ml : Int), .string (bs prim), .int .u8 (pt : Int), .bool dn, .slice ao ln cp] 30)).alloc (.cells #[.int .i64 0, .int .u32 0, .int .u32 0, .int .u64 0, .int .u32 0, .int .u64 0, .int .u32 0, .int .u64 0, .int .u32 0, .string ⟨#[]⟩, .int .u8 0, .bool false, .slice none 0 0] 30)).alloc (.cells #[.int .i64 9, .int .u32 0, .int .u32 0, .int .u64 0, .int .u32 0, .int .u64 0, .int .u32 0, .int .u64 0, .int .u32 0, .string ⟨#[]⟩, .int .u8 0, .bool false, .slice none 0 0] 30) = Y0 := ⟨_, rfl⟩
  rw [hY] at HZ ⊢
  clear hY
  obtain ⟨b2, hb2⟩ : ∃ b2, w.heap.size + 1 = b2 := ⟨_, rfl⟩
  obtain ⟨b3, hb3⟩ : ∃ b3, b2 + 1 = b3 := ⟨_, rfl⟩
  obtain ⟨b1, hb1⟩ : ∃ b1, w.heap.size = b1 := ⟨_, rfl⟩
  rw [hb2, hb3] at HZ ⊢
  have HZ : Hid (Bz w b1 b2 b3 #[.int .i64 9, .int .u32 (c : Int), .int .u32 (n : Int), .int .u64 (sp : Int), .int .u32 (sl : Int), .int .u64 (ap : Int), .int .u32 (aq : Int), .int .u64 (mp : Int), .int .u32 (ml : Int), .string (bs prim), .int .u8 (pt : Int), .bool dn, .slice ao ln cp] #[.int .i64 9, .int .u32 0, .int .u32 0, .int .u64 0, .int .u32 0, .int .u64 0, .int .u32 0, .int .u64 0, .int .u32 0, .string ⟨#[]⟩, .int .u8 0, .bool false, .slice none 0 0] Y0) := by rw [← hb1]; exact HZ.out
  rw [hb1]
  clear hb1 hb2 hb3
  have p0 : Y0.cell? ⟨b1, 0, none⟩ = some (.int .i64 9) := block_cell HZ.out.x1 rfl
  have p1 : Y0.cell? ⟨b1, 1, none⟩ = some (.int .u32 (c : Int)) := block_cell HZ.out.x1 rfl
  have q1 : Y0.cell? ⟨b3, 1, none⟩ = some (.int .u32 0) := block_cell HZ.out.x3 rfl
  have f1 : Y0.frozen? ⟨b3, 1, none⟩ = false := block_frozen HZ.out.x3 1
  have p2 : Y0.cell? ⟨b1, 2, none⟩ = some (.int .u32 (n : Int)) := block_cell HZ.out.x1 rfl
  have q2 : Y0.cell? ⟨b3, 2, none⟩ = some (.int .u32 0) := block_cell HZ.out.x3 rfl
  have f2 : Y0.frozen? ⟨b3, 2, none⟩ = false := block_frozen HZ.out.x3 2
  obtain ⟨Y1, hY⟩ : ∃ Y1, ((Y0.setCell ⟨b3, 1, none⟩ (.int .u32 (c : Int))).setCell ⟨b3, 2, none⟩ (.int .u32 (n : Int))) = Y1 := ⟨_, rfl⟩
  have HZ2 : Hid (Bz w b1 b2 b3 #[.int .i64 9, .int .u32 (c : Int), .int .u32 (n : Int), .int .u64 (sp : Int), .int .u32 (sl : Int), .int .u64 (ap : Int), .int .u32 (aq : Int), .int .u64 (mp : Int), .int .u32 (ml : Int), .string (bs prim), .int .u8 (pt : Int), .bool dn, .slice ao ln cp] #[.int .i64 9, .int .u32 (c : Int), .int .u32 (n : Int), .int .u64 0, .int .u32 0, .int .u64 0, .int .u32 0, .int .u64 0, .int .u32 0, .string ⟨#[]⟩, .int .u8 0, .bool false, .slice none 0 0] Y1) := by rw [← hY]; exact ((HZ.out.st 1 (.int .u32 (c : Int))).st 2 (.int .u32 (n : Int)))
  have g0 : Y1.cell? ⟨b1, 0, none⟩ = some (.int .i64 9) := block_cell HZ2.out.x1 rfl
  go_upto_region 24 with fail
  clear p0 g0 hY HZ p1 q1 f1 p2 q2 f2
  have HZ : Hid _ := HZ2.out
  clear HZ2
  have p0 : Y1.cell? ⟨b1, 0, none⟩ = some (.int .i64 9) := block_cell HZ.out.x1 rfl
  have p3 : Y1.cell? ⟨b1, 3, none⟩ = some (.int .u64 (sp : Int)) := block_cell HZ.out.x1 rfl
  have q3 : Y1.cell? ⟨b3, 3, none⟩ = some (.int .u64 0) := block_cell HZ.out.x3 rfl
  have f3 : Y1.frozen? ⟨b3, 3, none⟩ = false := block_frozen HZ.out.x3 3
  have p4 : Y1.cell? ⟨b1, 4, none⟩ = some (.int .u32 (sl : Int)) := block_cell HZ.out.x1 rfl
  have q4 : Y1.cell? ⟨b3, 4, none⟩ = some (.int .u32 0) := block_cell HZ.out.x3 rfl
  have f4 : Y1.frozen? ⟨b3, 4, none⟩ = false := block_frozen HZ.out.x3 4
  obtain ⟨Y2, hY⟩ : ∃ Y2, ((Y1.setCell ⟨b3, 3, none⟩ (.int .u64 (sp : Int))).setCell ⟨b3, 4, none⟩ (.int .u32 (sl : Int))) = Y2 := ⟨_, rfl⟩
  have HZ2 : Hid (Bz w b1 b2 b3 #[.int .i64 9, .int .u32 (c : Int), .int .u32 (n : Int), .int .u64 (sp : Int), .int .u32 (sl : Int), .int .u64 (ap : Int), .int .u32 (aq : Int), .int .u64 (mp : Int), .int .u32 (ml : Int), .string (bs prim), .int .u8 (pt : Int), .bool dn, .slice ao ln cp] #[.int .i64 9, .int .u32 (c : Int), .int .u32 (n : Int), .int .u64 (sp : Int), .int .u32 (sl : Int), .int .u64 0, .int .u32 0, .int .u64 0, .int .u32 0, .string ⟨#[]⟩, .int .u8 0, .bool false, .slice none 0 0] Y2) := by rw [← hY]; exact ((HZ.out.st 3 (.int .u64 (sp : Int))).st 4 (.int .u32 (sl : Int)))
  have g0 : Y2.cell? ⟨b1, 0, none⟩ = some (.int .i64 9) := block_cell HZ2.out.x1 rfl
  go_upto_region 25 with fail
  clear p0 g0 hY HZ p3 q3 f3 p4 q4 f4
  have HZ : Hid _ := HZ2.out
  clear HZ2
  have p0 : Y2.cell? ⟨b1, 0, none⟩ = some (.int .i64 9) := block_cell HZ.out.x1 rfl
  have p5 : Y2.cell? ⟨b1, 5, none⟩ = some (.int .u64 (ap : Int)) := block_cell HZ.out.x1 rfl
  have q5 : Y2.cell? ⟨b3, 5, none⟩ = some (.int .u64 0) := block_cell HZ.out.x3 rfl
  have f5 : Y2.frozen? ⟨b3, 5, none⟩ = false := block_frozen HZ.out.x3 5
  have p6 : Y2.cell? ⟨b1, 6, none⟩ = some (.int .u32 (aq : Int)) := block_cell HZ.out.x1 rfl
  have q6 : Y2.cell? ⟨b3, 6, none⟩ = some (.int .u32 0) := block_cell HZ.out.x3 rfl
  have f6 : Y2.frozen? ⟨b3, 6, none⟩ = false := block_frozen HZ.out.x3 6
  obtain ⟨Y3, hY⟩ : ∃ Y3, ((Y2.setCell ⟨b3, 5, none⟩ (.int .u64 (ap : Int))).setCell ⟨b3, 6, none⟩ (.int .u32 (aq : Int))) = Y3 := ⟨_, rfl⟩
  have HZ2 : Hid (Bz w b1 b2 b3 #[.int .i64 9, .int .u32 (c : Int), .int .u32 (n : Int), .int .u64 (sp : Int), .int .u32 (sl : Int), .int .u64 (ap : Int), .int .u32 (aq : Int), .int .u64 (mp : Int), .int .u32 (ml : Int), .string (bs prim), .int .u8 (pt : Int), .bool dn, .slice ao ln cp] #[.int .i64 9, .int .u32 (c : Int), .int .u32 (n : Int), .int .u64 (sp : Int), .int .u32 (sl : Int), .int .u64 (ap : Int), .int .u32 (aq : Int), .int .u64 0, .int .u32 0, .string ⟨#[]⟩, .int .u8 0, .bool false, .slice none 0 0] Y3) := by rw [← hY]; exact ((HZ.out.st 5 (.int .u64 (ap : Int))).st 6 (.int .u32 (aq : Int)))
  have g0 : Y3.cell? ⟨b1, 0, none⟩ = some (.int .i64 9) := block_cell HZ2.out.x1 rfl
  go_upto_region 26 with fail
  clear p0 g0 hY HZ p5 q5 f5 p6 q6 f6
  have HZ : Hid _ := HZ2.out
  clear HZ2
  have p0 : Y3.cell? ⟨b1, 0, none⟩ = some (.int .i64 9) := block_cell HZ.out.x1 rfl
  have p10 : Y3.cell? ⟨b1, 10, none⟩ = some (.int .u8 (pt : Int)) := block_cell HZ.out.x1 rfl
  have q10 : Y3.cell? ⟨b3, 10, none⟩ = some (.int .u8 0) := block_cell HZ.out.x3 rfl
  have f10 : Y3.frozen? ⟨b3, 10, none⟩ = false := block_frozen HZ.out.x3 10
  obtain ⟨Y4, hY⟩ : ∃ Y4, (Y3.setCell ⟨b3, 10, none⟩ (.int .u8 (pt : Int))) = Y4 := ⟨_, rfl⟩
  have HZ2 : Hid (Bz w b1 b2 b3 #[.int .i64 9, .int .u32 (c : Int), .int .u32 (n : Int), .int .u64 (sp : Int), .int .u32 (sl : Int), .int .u64 (ap : Int), .int .u32 (aq : Int), .int .u64 (mp : Int), .int .u32 (ml : Int), .string (bs prim), .int .u8 (pt : Int), .bool dn, .slice ao ln cp] #[.int .i64 9, .int .u32 (c : Int), .int .u32 (n : Int), .int .u64 (sp : Int), .int .u32 (sl : Int), .int .u64 (ap : Int), .int .u32 (aq : Int), .int .u64 0, .int .u32 0, .string ⟨#[]⟩, .int .u8 (pt : Int), .bool false, .slice none 0 0] Y4) := by rw [← hY]; exact (HZ.out.st 10 (.int .u8 (pt : Int)))
  have g0 : Y4.cell? ⟨b1, 0, none⟩ = some (.int .i64 9) := block_cell HZ2.out.x1 rfl
  go_upto_region 27 with fail
  clear p0 g0 hY HZ p10 q10 f10
  have HZ : Hid _ := HZ2.out
  clear HZ2
  have p0 : Y4.cell? ⟨b1, 0, none⟩ = some (.int .i64 9) := block_cell HZ.out.x1 rfl
  have p11 : Y4.cell? ⟨b1, 11, none⟩ = some (.bool dn) := block_cell HZ.out.x1 rfl
  have q11 : Y4.cell? ⟨b3, 11, none⟩ = some (.bool false) := block_cell HZ.out.x3 rfl
  have f11 : Y4.frozen? ⟨b3, 11, none⟩ = false := block_frozen HZ.out.x3 11
  obtain ⟨Y5, hY⟩ : ∃ Y5, (Y4.setCell ⟨b3, 11, none⟩ (.bool dn)) = Y5 := ⟨_, rfl⟩
  have HZ2 : Hid (Bz w b1 b2 b3 #[.int .i64 9, .int .u32 (c : Int), .int .u32 (n : Int), .int .u64 (sp : Int), .int .u32 (sl : Int), .int .u64 (ap : Int), .int .u32 (aq : Int), .int .u64 (mp : Int), .int .u32 (ml : Int), .string (bs prim), .int .u8 (pt : Int), .bool dn, .slice ao ln cp] #[.int .i64 9, .int .u32 (c : Int), .int .u32 (n : Int), .int .u64 (sp : Int), .int .u32 (sl : Int), .int .u64 (ap : Int), .int .u32 (aq : Int), .int .u64 0, .int .u32 0, .string ⟨#[]⟩, .int .u8 (pt : Int), .bool dn, .slice none 0 0] Y5) := by rw [← hY]; exact (HZ.out.st 11 (.bool dn))
  have g0 : Y5.cell? ⟨b1, 0, none⟩ = some (.int .i64 9) := block_cell HZ2.out.x1 rfl
  go_upto_region 28 with fail
  clear p0 g0 hY HZ p11 q11 f11
  have HZ : Hid _ := HZ2.out
  clear HZ2
  have x0 : Y5.cell? ⟨b3, 0, none⟩ = some (.int .i64 9) := block_cell HZ.out.x3 rfl
  have x1 : Y5.cell? ⟨b3, 1, none⟩ = some (.int .u32 (c : Int)) := block_cell HZ.out.x3 rfl
  have x2 : Y5.cell? ⟨b3, 2, none⟩ = some (.int .u32 (n : Int)) := block_cell HZ.out.x3 rfl
  have x3 : Y5.cell? ⟨b3, 3, none⟩ = some (.int .u64 (sp : Int)) := block_cell HZ.out.x3 rfl
  have x4 : Y5.cell? ⟨b3, 4, none⟩ = some (.int .u32 (sl : Int)) := block_cell HZ.out.x3 rfl
  have x5 : Y5.cell? ⟨b3, 5, none⟩ = some (.int .u64 (ap : Int)) := block_cell HZ.out.x3 rfl
  have x6 : Y5.cell? ⟨b3, 6, none⟩ = some (.int .u32 (aq : Int)) := block_cell HZ.out.x3 rfl
  have x7 : Y5.cell? ⟨b3, 7, none⟩ = some (.int .u64 0) := block_cell HZ.out.x3 rfl
  have x8 : Y5.cell? ⟨b3, 8, none⟩ = some (.int .u32 0) := block_cell HZ.out.x3 rfl
  have x9 : Y5.cell? ⟨b3, 9, none⟩ = some (.string ⟨#[]⟩) := block_cell HZ.out.x3 rfl
  have x10 : Y5.cell? ⟨b3, 10, none⟩ = some (.int .u8 (pt : Int)) := block_cell HZ.out.x3 rfl
  have x11 : Y5.cell? ⟨b3, 11, none⟩ = some (.bool dn) := block_cell HZ.out.x3 rfl
  have x12 : Y5.cell? ⟨b3, 12, none⟩ = some (.slice none 0 0) := block_cell HZ.out.x3 rfl
  have y0 : Y5.cell? ⟨b2, 0, none⟩ = some (.int .i64 0) := block_cell HZ.out.x2 rfl
  have y1 : Y5.cell? ⟨b2, 1, none⟩ = some (.int .u32 0) := block_cell HZ.out.x2 rfl
  have y2 : Y5.cell? ⟨b2, 2, none⟩ = some (.int .u32 0) := block_cell HZ.out.x2 rfl
  have y3 : Y5.cell? ⟨b2, 3, none⟩ = some (.int .u64 0) := block_cell HZ.out.x2 rfl
  have y4 : Y5.cell? ⟨b2, 4, none⟩ = some (.int .u32 0) := block_cell HZ.out.x2 rfl
  have y5 : Y5.cell? ⟨b2, 5, none⟩ = some (.int .u64 0) := block_cell HZ.out.x2 rfl
  have y6 : Y5.cell? ⟨b2, 6, none⟩ = some (.int .u32 0) := block_cell HZ.out.x2 rfl
  have y7 : Y5.cell? ⟨b2, 7, none⟩ = some (.int .u64 0) := block_cell HZ.out.x2 rfl
  have y8 : Y5.cell? ⟨b2, 8, none⟩ = some (.int .u32 0) := block_cell HZ.out.x2 rfl
  have y9 : Y5.cell? ⟨b2, 9, none⟩ = some (.string ⟨#[]⟩) := block_cell HZ.out.x2 rfl
  have y10 : Y5.cell? ⟨b2, 10, none⟩ = some (.int .u8 0) := block_cell HZ.out.x2 rfl
  have y11 : Y5.cell? ⟨b2, 11, none⟩ = some (.bool false) := block_cell HZ.out.x2 rfl
  have y12 : Y5.cell? ⟨b2, 12, none⟩ = some (.slice none 0 0) := block_cell HZ.out.x2 rfl
  have z0 : Y5.frozen? ⟨b2, 0, none⟩ = false := block_frozen HZ.out.x2 0
  have z1 : Y5.frozen? ⟨b2, 1, none⟩ = false := block_frozen HZ.out.x2 1
  have z2 : Y5.frozen? ⟨b2, 2, none⟩ = false := block_frozen HZ.out.x2 2
  have z3 : Y5.frozen? ⟨b2, 3, none⟩ = false := block_frozen HZ.out.x2 3
  have z4 : Y5.frozen? ⟨b2, 4, none⟩ = false := block_frozen HZ.out.x2 4
  have z5 : Y5.frozen? ⟨b2, 5, none⟩ = false := block_frozen HZ.out.x2 5
  have z6 : Y5.frozen? ⟨b2, 6, none⟩ = false := block_frozen HZ.out.x2 6
  have z7 : Y5.frozen? ⟨b2, 7, none⟩ = false := block_frozen HZ.out.x2 7
  have z8 : Y5.frozen? ⟨b2, 8, none⟩ = false := block_frozen HZ.out.x2 8
  have z9 : Y5.frozen? ⟨b2, 9, none⟩ = false := block_frozen HZ.out.x2 9
  have z10 : Y5.frozen? ⟨b2, 10, none⟩ = false := block_frozen HZ.out.x2 10
  have z11 : Y5.frozen? ⟨b2, 11, none⟩ = false := block_frozen HZ.out.x2 11
  have z12 : Y5.frozen? ⟨b2, 12, none⟩ = false := block_frozen HZ.out.x2 12
  have HI : Hid _ := bx13 (.int .i64 9) (.int .u32 (c : Int)) (.int .u32 (n : Int)) (.int .u64 (sp : Int)) (.int .u32 (sl : Int)) (.int .u64 (ap : Int)) (.int .u32 (aq : Int)) (.int .u64 0) (.int .u32 0) (.string ⟨#[]⟩) (.int .u8 (pt : Int)) (.bool dn) (.slice none 0 0) HZ.out.x2
  have HBw : Hid _ := bx13_below (.int .i64 9) (.int .u32 (c : Int)) (.int .u32 (n : Int)) (.int .u64 (sp : Int)) (.int .u32 (sl : Int)) (.int .u64 (ap : Int)) (.int .u32 (aq : Int)) (.int .u64 0) (.int .u32 0) (.string ⟨#[]⟩) (.int .u8 (pt : Int)) (.bool dn) (.slice none 0 0) HZ.out.bel HZ.out.l2
  clear HZ
  go_wp2_with fail
  have r0 : (((((((((((((Y5.setCell ⟨b2, 0, none⟩ (.int .i64 9)).setCell ⟨b2, 1, none⟩ (.int .u32 (c : Int))).setCell ⟨b2, 2, none⟩ (.int .u32 (n : Int))).setCell ⟨b2, 3, none⟩ (.int .u64 (sp : Int))).setCell ⟨b2, 4, none⟩ (.int .u32 (sl : Int))).setCell ⟨b2, 5, none⟩ (.int .u64 (ap : Int))).setCell ⟨b2, 6, none⟩ (.int .u32 (aq : Int))).setCell ⟨b2, 7, none⟩ (.int .u64 0)).setCell ⟨b2, 8, none⟩ (.int .u32 0)).setCell ⟨b2, 9, none⟩ (.string ⟨#[]⟩)).setCell ⟨b2, 10, none⟩ (.int .u8 (pt : Int))).setCell ⟨b2, 11, none⟩ (.bool dn)).setCell ⟨b2, 12, none⟩ (.slice none 0 0)).cell? ⟨b2, 0, none⟩ = some (.int .i64 9) := block_cell HI.out rfl
  have r1 : (((((((((((((Y5.setCell ⟨b2, 0, none⟩ (.int .i64 9)).setCell ⟨b2, 1, none⟩ (.int .u32 (c : Int))).setCell ⟨b2, 2, none⟩ (.int .u32 (n : Int))).setCell ⟨b2, 3, none⟩ (.int .u64 (sp : Int))).setCell ⟨b2, 4, none⟩ (.int .u32 (sl : Int))).setCell ⟨b2, 5, none⟩ (.int .u64 (ap : Int))).setCell ⟨b2, 6, none⟩ (.int .u32 (aq : Int))).setCell ⟨b2, 7, none⟩ (.int .u64 0)).setCell ⟨b2, 8, none⟩ (.int .u32 0)).setCell ⟨b2, 9, none⟩ (.string ⟨#[]⟩)).setCell ⟨b2, 10, none⟩ (.int .u8 (pt : Int))).setCell ⟨b2, 11, none⟩ (.bool dn)).setCell ⟨b2, 12, none⟩ (.slice none 0 0)).cell? ⟨b2, 1, none⟩ = some (.int .u32 (c : Int)) := block_cell HI.out rfl
  have r2 : (((((((((((((Y5.setCell ⟨b2, 0, none⟩ (.int .i64 9)).setCell ⟨b2, 1, none⟩ (.int .u32 (c : Int))).setCell ⟨b2, 2, none⟩ (.int .u32 (n : Int))).setCell ⟨b2, 3, none⟩ (.int .u64 (sp : Int))).setCell ⟨b2, 4, none⟩ (.int .u32 (sl : Int))).setCell ⟨b2, 5, none⟩ (.int .u64 (ap : Int))).setCell ⟨b2, 6, none⟩ (.int .u32 (aq : Int))).setCell ⟨b2, 7, none⟩ (.int .u64 0)).setCell ⟨b2, 8, none⟩ (.int .u32 0)).setCell ⟨b2, 9, none⟩ (.string ⟨#[]⟩)).setCell ⟨b2, 10, none⟩ (.int .u8 (pt : Int))).setCell ⟨b2, 11, none⟩ (.bool dn)).setCell ⟨b2, 12, none⟩ (.slice none 0 0)).cell? ⟨b2, 2, none⟩ = some (.int .u32 (n : Int)) := block_cell HI.out rfl
  have r3 : (((((((((((((Y5.setCell ⟨b2, 0, none⟩ (.int .i64 9)).setCell ⟨b2, 1, none⟩ (.int .u32 (c : Int))).setCell ⟨b2, 2, none⟩ (.int .u32 (n : Int))).setCell ⟨b2, 3, none⟩ (.int .u64 (sp : Int))).setCell ⟨b2, 4, none⟩ (.int .u32 (sl : Int))).setCell ⟨b2, 5, none⟩ (.int .u64 (ap : Int))).setCell ⟨b2, 6, none⟩ (.int .u32 (aq : Int))).setCell ⟨b2, 7, none⟩ (.int .u64 0)).setCell ⟨b2, 8, none⟩ (.int .u32 0)).setCell ⟨b2, 9, none⟩ (.string ⟨#[]⟩)).setCell ⟨b2, 10, none⟩ (.int .u8 (pt : Int))).setCell ⟨b2, 11, none⟩ (.bool dn)).setCell ⟨b2, 12, none⟩ (.slice none 0 0)).cell? ⟨b2, 3, none⟩ = some (.int .u64 (sp : Int)) := block_cell HI.out rfl
  have r4 : (((((((((((((Y5.setCell ⟨b2, 0, none⟩ (.int .i64 9)).setCell ⟨b2, 1, none⟩ (.int .u32 (c : Int))).setCell ⟨b2, 2, none⟩ (.int .u32 (n : Int))).setCell ⟨b2, 3, none⟩ (.int .u64 (sp : Int))).setCell ⟨b2, 4, none⟩ (.int .u32 (sl : Int))).setCell ⟨b2, 5, none⟩ (.int .u64 (ap : Int))).setCell ⟨b2, 6, none⟩ (.int .u32 (aq : Int))).setCell ⟨b2, 7, none⟩ (.int .u64 0)).setCell ⟨b2, 8, none⟩ (.int .u32 0)).setCell ⟨b2, 9, none⟩ (.string ⟨#[]⟩)).setCell ⟨b2, 10, none⟩ (.int .u8 (pt : Int))).setCell ⟨b2, 11, none⟩ (.bool dn)).setCell ⟨b2, 12, none⟩ (.slice none 0 0)).cell? ⟨b2, 4, none⟩ = some (.int .u32 (sl : Int)) := block_cell HI.out rfl
  have r5 : (((((((((((((Y5.setCell ⟨b2, 0, none⟩ (.int .i64 9)).setCell ⟨b2, 1, none⟩ (.int .u32 (c : Int))).setCell ⟨b2, 2, none⟩ (.int .u32 (n : Int))).setCell ⟨b2, 3, none⟩ (.int .u64 (sp : Int))).setCell ⟨b2, 4, none⟩ (.int .u32 (sl : Int))).setCell ⟨b2, 5, none⟩ (.int .u64 (ap : Int))).setCell ⟨b2, 6, none⟩ (.int .u32 (aq : Int))).setCell ⟨b2, 7, none⟩ (.int .u64 0)).setCell ⟨b2, 8, none⟩ (.int .u32 0)).setCell ⟨b2, 9, none⟩ (.string ⟨#[]⟩)).setCell ⟨b2, 10, none⟩ (.int .u8 (pt : Int))).setCell ⟨b2, 11, none⟩ (.bool dn)).setCell ⟨b2, 12, none⟩ (.slice none 0 0)).cell? ⟨b2, 5, none⟩ = some (.int .u64 (ap : Int)) := block_cell HI.out rfl
  have r6 : (((((((((((((Y5.setCell ⟨b2, 0, none⟩ (.int .i64 9)).setCell ⟨b2, 1, none⟩ (.int .u32 (c : Int))).setCell ⟨b2, 2, none⟩ (.int .u32 (n : Int))).setCell ⟨b2, 3, none⟩ (.int .u64 (sp : Int))).setCell ⟨b2, 4, none⟩ (.int .u32 (sl : Int))).setCell ⟨b2, 5, none⟩ (.int .u64 (ap : Int))).setCell ⟨b2, 6, none⟩ (.int .u32 (aq : Int))).setCell ⟨b2, 7, none⟩ (.int .u64 0)).setCell ⟨b2, 8, none⟩ (.int .u32 0)).setCell ⟨b2, 9, none⟩ (.string ⟨#[]⟩)).setCell ⟨b2, 10, none⟩ (.int .u8 (pt : Int))).setCell ⟨b2, 11, none⟩ (.bool dn)).setCell ⟨b2, 12, none⟩ (.slice none 0 0)).cell? ⟨b2, 6, none⟩ = some (.int .u32 (aq : Int)) := block_cell HI.out rfl
  have r7 : (((((((((((((Y5.setCell ⟨b2, 0, none⟩ (.int .i64 9)).setCell ⟨b2, 1, none⟩ (.int .u32 (c : Int))).setCell ⟨b2, 2, none⟩ (.int .u32 (n : Int))).setCell ⟨b2, 3, none⟩ (.int .u64 (sp : Int))).setCell ⟨b2, 4, none⟩ (.int .u32 (sl : Int))).setCell ⟨b2, 5, none⟩ (.int .u64 (ap : Int))).setCell ⟨b2, 6, none⟩ (.int .u32 (aq : Int))).setCell ⟨b2, 7, none⟩ (.int .u64 0)).setCell ⟨b2, 8, none⟩ (.int .u32 0)).setCell ⟨b2, 9, none⟩ (.string ⟨#[]⟩)).setCell ⟨b2, 10, none⟩ (.int .u8 (pt : Int))).setCell ⟨b2, 11, none⟩ (.bool dn)).setCell ⟨b2, 12, none⟩ (.slice none 0 0)).cell? ⟨b2, 7, none⟩ = some (.int .u64 0) := block_cell HI.out rfl
  have r8 : (((((((((((((Y5.setCell ⟨b2, 0, none⟩ (.int .i64 9)).setCell ⟨b2, 1, none⟩ (.int .u32 (c : Int))).setCell ⟨b2, 2, none⟩ (.int .u32 (n : Int))).setCell ⟨b2, 3, none⟩ (.int .u64 (sp : Int))).setCell ⟨b2, 4, none⟩ (.int .u32 (sl : Int))).setCell ⟨b2, 5, none⟩ (.int .u64 (ap : Int))).setCell ⟨b2, 6, none⟩ (.int .u32 (aq : Int))).setCell ⟨b2, 7, none⟩ (.int .u64 0)).setCell ⟨b2, 8, none⟩ (.int .u32 0)).setCell ⟨b2, 9, none⟩ (.string ⟨#[]⟩)).setCell ⟨b2, 10, none⟩ (.int .u8 (pt : Int))).setCell ⟨b2, 11, none⟩ (.bool dn)).setCell ⟨b2, 12, none⟩ (.slice none 0 0)).cell? ⟨b2, 8, none⟩ = some (.int .u32 0) := block_cell HI.out rfl
  have r9 : (((((((((((((Y5.setCell ⟨b2, 0, none⟩ (.int .i64 9)).setCell ⟨b2, 1, none⟩ (.int .u32 (c : Int))).setCell ⟨b2, 2, none⟩ (.int .u32 (n : Int))).setCell ⟨b2, 3, none⟩ (.int .u64 (sp : Int))).setCell ⟨b2, 4, none⟩ (.int .u32 (sl : Int))).setCell ⟨b2, 5, none⟩ (.int .u64 (ap : Int))).setCell ⟨b2, 6, none⟩ (.int .u32 (aq : Int))).setCell ⟨b2, 7, none⟩ (.int .u64 0)).setCell ⟨b2, 8, none⟩ (.int .u32 0)).setCell ⟨b2, 9, none⟩ (.string ⟨#[]⟩)).setCell ⟨b2, 10, none⟩ (.int .u8 (pt : Int))).setCell ⟨b2, 11, none⟩ (.bool dn)).setCell ⟨b2, 12, none⟩ (.slice none 0 0)).cell? ⟨b2, 9, none⟩ = some (.string ⟨#[]⟩) := block_cell HI.out rfl
  have r10 : (((((((((((((Y5.setCell ⟨b2, 0, none⟩ (.int .i64 9)).setCell ⟨b2, 1, none⟩ (.int .u32 (c : Int))).setCell ⟨b2, 2, none⟩ (.int .u32 (n : Int))).setCell ⟨b2, 3, none⟩ (.int .u64 (sp : Int))).setCell ⟨b2, 4, none⟩ (.int .u32 (sl : Int))).setCell ⟨b2, 5, none⟩ (.int .u64 (ap : Int))).setCell ⟨b2, 6, none⟩ (.int .u32 (aq : Int))).setCell ⟨b2, 7, none⟩ (.int .u64 0)).setCell ⟨b2, 8, none⟩ (.int .u32 0)).setCell ⟨b2, 9, none⟩ (.string ⟨#[]⟩)).setCell ⟨b2, 10, none⟩ (.int .u8 (pt : Int))).setCell ⟨b2, 11, none⟩ (.bool dn)).setCell ⟨b2, 12, none⟩ (.slice none 0 0)).cell? ⟨b2, 10, none⟩ = some (.int .u8 (pt : Int)) := block_cell HI.out rfl
  have r11 : (((((((((((((Y5.setCell ⟨b2, 0, none⟩ (.int .i64 9)).setCell ⟨b2, 1, none⟩ (.int .u32 (c : Int))).setCell ⟨b2, 2, none⟩ (.int .u32 (n : Int))).setCell ⟨b2, 3, none⟩ (.int .u64 (sp : Int))).setCell ⟨b2, 4, none⟩ (.int .u32 (sl : Int))).setCell ⟨b2, 5, none⟩ (.int .u64 (ap : Int))).setCell ⟨b2, 6, none⟩ (.int .u32 (aq : Int))).setCell ⟨b2, 7, none⟩ (.int .u64 0)).setCell ⟨b2, 8, none⟩ (.int .u32 0)).setCell ⟨b2, 9, none⟩ (.string ⟨#[]⟩)).setCell ⟨b2, 10, none⟩ (.int .u8 (pt : Int))).setCell ⟨b2, 11, none⟩ (.bool dn)).setCell ⟨b2, 12, none⟩ (.slice none 0 0)).cell? ⟨b2, 11, none⟩ = some (.bool dn) := block_cell HI.out rfl
  have r12 : (((((((((((((Y5.setCell ⟨b2, 0, none⟩ (.int .i64 9)).setCell ⟨b2, 1, none⟩ (.int .u32 (c : Int))).setCell ⟨b2, 2, none⟩ (.int .u32 (n : Int))).setCell ⟨b2, 3, none⟩ (.int .u64 (sp : Int))).setCell ⟨b2, 4, none⟩ (.int .u32 (sl : Int))).setCell ⟨b2, 5, none⟩ (.int .u64 (ap : Int))).setCell ⟨b2, 6, none⟩ (.int .u32 (aq : Int))).setCell ⟨b2, 7, none⟩ (.int .u64 0)).setCell ⟨b2, 8, none⟩ (.int .u32 0)).setCell ⟨b2, 9, none⟩ (.string ⟨#[]⟩)).setCell ⟨b2, 10, none⟩ (.int .u8 (pt : Int))).setCell ⟨b2, 11, none⟩ (.bool dn)).setCell ⟨b2, 12, none⟩ (.slice none 0 0)).cell? ⟨b2, 12, none⟩ = some (.slice none 0 0) := block_cell HI.out rfl
  refine bodyPost_ret (v := .agg #[.int .i64 9, .int .u32 (c : Int), .int .u32 (n : Int), .int .u64 (sp : Int), .int .u32 (sl : Int), .int .u64 (ap : Int), .int .u32 (aq : Int), .int .u64 0, .int .u32 0, .string ⟨#[]⟩, .int .u8 (pt : Int), .bool dn, .slice none 0 0]) (by simp [results, Try.results45, go_sem, r0, r1, r2, r3, r4, r5, r6, r7, r8, r9, r10, r11, r12]) rfl ?_
  exact ⟨rfl, HBw.out⟩

set_option maxHeartbeats 1600000 in
set_option maxRecDepth 100000 in
theorem bare44_O (k : Int) (c n sp sl ap aq mp ml : Nat) (prim : List UInt8) (pt : Nat) (dn : Bool) (ao : Option Addr) (ln cp : Nat) (w : World) (h1 : (k == 1) = false) (h2 : (k == 2) = false) (h3 : (k == 3) = false) (h4 : (k == 4) = false) (h5 : (k == 5) = false) (h6 : (k == 6) = false) (h8 : (k == 8) = false) (h9 : (k == 9) = false) : Calls Try.prog 45 #[.agg #[.int .i64 k, .int .u32 (c : Int), .int .u32 (n : Int), .int .u64 (sp : Int), .int .u32 (sl : Int), .int .u64 (ap : Int), .int .u32 (aq : Int), .int .u64 (mp : Int), .int .u32 (ml : Int), .string (bs prim), .int .u8 (pt : Int), .bool dn, .slice ao ln cp]] w fun r w' => r = .returned (.agg #[.int .i64 k, .int .u32 (c : Int), .int .u32 (n : Int), .int .u64 0, .int .u32 0, .int .u64 0, .int .u32 0, .int .u64 0, .int .u32 0, .string ⟨#[]⟩, .int .u8 0, .bool false, .slice none 0 0]) ∧ Below w.heap.size w w' := by
  have HZ : Hid _ := bz_new (w := w) #[.int .i64 k, .int .u32 (c : Int), .int .u32 (n : Int), .int .u64 (sp : Int), .int .u32 (sl : Int), .int .u64 (ap : Int), .int .u32 (aq : Int), .int .u64 (mp : Int), .int .u32 (ml : Int), .string (bs prim), .int .u8 (pt : Int), .bool dn, .slice ao ln cp] #[.int .i64 k, .int .u32 0, .int .u32 0, .int .u64 0, .int .u32 0, .int .u64 0, .int .u32 0, .int .u64 0, .int .u32 0, .string ⟨#[]⟩, .int .u8 0, .bool false, .slice none 0 0]
  have n1 : (k != 1) = true := by rw [bne, h1]; rfl
  have n6 : (k != 6) = true := by rw [bne, h6]; rfl
  go_enter Try.func45, Try.ntmps45
  go_upto_region 3 with fail
  obtain ⟨Y0, hY⟩ : ∃ Y0, ((w.alloc (.cells #[.int .i64 k, .int .u32 (c : Int), .int .u32 (n : Int), .int .u64 (sp : Int), .int .u32 (sl : Int), .int .u64 (ap : Int), .int .u32 (aq : Int), .int .u64 (mp : Int), .int .u32 (ml : Int), .string (bs prim), .int .u8 (pt : Int), .bool dn, .slice ao ln cp] 30)).alloc (.cells #[.int .i64 0, .int .u32 0, .int .u32 0, .int .u64 0, .int .u32 0, .int .u64 0, .int .u32 0, .int .u64 0, .int .u32 0, .string ⟨#[]⟩, .int .u8 0, .bool false, .slice none 0 0] 30)).alloc (.cells #[.int .i64 k, .int .u32 0, .int .u32 0, .int .u64 0, .int .u32 0, .int .u64 0, .int .u32 0, .int .u64 0, .int .u32 0, .string ⟨#[]⟩, .int .u8 0, .bool false, .slice none 0 0] 30) = Y0 := ⟨_, rfl⟩
  rw [hY] at HZ ⊢
  clear hY
  obtain ⟨b2, hb2⟩ : ∃ b2, w.heap.size + 1 = b2 := ⟨_, rfl⟩
  obtain ⟨b3, hb3⟩ : ∃ b3, b2 + 1 = b3 := ⟨_, rfl⟩
  obtain ⟨b1, hb1⟩ : ∃ b1, w.heap.size = b1 := ⟨_, rfl⟩
  rw [hb2, hb3] at HZ ⊢
  have HZ : Hid (Bz w b1 b2 b3 #[.int .i64 k, .int .u32 (c : Int), .int .u32 (n : Int), .int .u64 (sp : Int), .int .u32 (sl : Int), .int .u64 (ap : Int), .int .u32 (aq : Int), .int .u64 (mp : Int), .int .u32 (ml : Int), .string (bs prim), .int .u8 (pt : Int), .bool dn, .slice ao ln cp] #[.int .i64 k, .int .u32 0, .int .u32 0, .int .u64 0, .int .u32 0, .int .u64 0, .int .u32 0, .int .u64 0, .int .u32 0, .string ⟨#[]⟩, .int .u8 0, .bool false, .slice none 0 0] Y0) := by rw [← hb1]; exact HZ.out
  rw [hb1]
  clear hb1 hb2 hb3
  have p0 : Y0.cell? ⟨b1, 0, none⟩ = some (.int .i64 k) := block_cell HZ.out.x1 rfl
  have p1 : Y0.cell? ⟨b1, 1, none⟩ = some (.int .u32 (c : Int)) := block_cell HZ.out.x1 rfl
  have q1 : Y0.cell? ⟨b3, 1, none⟩ = some (.int .u32 0) := block_cell HZ.out.x3 rfl
  have f1 : Y0.frozen? ⟨b3, 1, none⟩ = false := block_frozen HZ.out.x3 1
  have p2 : Y0.cell? ⟨b1, 2, none⟩ = some (.int .u32 (n : Int)) := block_cell HZ.out.x1 rfl
  have q2 : Y0.cell? ⟨b3, 2, none⟩ = some (.int .u32 0) := block_cell HZ.out.x3 rfl
  have f2 : Y0.frozen? ⟨b3, 2, none⟩ = false := block_frozen HZ.out.x3 2
  obtain ⟨Y1, hY⟩ : ∃ Y1, ((Y0.setCell ⟨b3, 1, none⟩ (.int .u32 (c : Int))).setCell ⟨b3, 2, none⟩ (.int .u32 (n : Int))) = Y1 := ⟨_, rfl⟩
  have HZ2 : Hid (Bz w b1 b2 b3 #[.int .i64 k, .int .u32 (c : Int), .int .u32 (n : Int), .int .u64 (sp : Int), .int .u32 (sl : Int), .int .u64 (ap : Int), .int .u32 (aq : Int), .int .u64 (mp : Int), .int .u32 (ml : Int), .string (bs prim), .int .u8 (pt : Int), .bool dn, .slice ao ln cp] #[.int .i64 k, .int .u32 (c : Int), .int .u32 (n : Int), .int .u64 0, .int .u32 0, .int .u64 0, .int .u32 0, .int .u64 0, .int .u32 0, .string ⟨#[]⟩, .int .u8 0, .bool false, .slice none 0 0] Y1) := by rw [← hY]; exact ((HZ.out.st 1 (.int .u32 (c : Int))).st 2 (.int .u32 (n : Int)))
  have g0 : Y1.cell? ⟨b1, 0, none⟩ = some (.int .i64 k) := block_cell HZ2.out.x1 rfl
  go_upto_region 28 with fail
  clear p0 g0 hY HZ p1 q1 f1 p2 q2 f2
  have HZ : Hid _ := HZ2.out
  clear HZ2
  have x0 : Y1.cell? ⟨b3, 0, none⟩ = some (.int .i64 k) := block_cell HZ.out.x3 rfl
  have x1 : Y1.cell? ⟨b3, 1, none⟩ = some (.int .u32 (c : Int)) := block_cell HZ.out.x3 rfl
  have x2 : Y1.cell? ⟨b3, 2, none⟩ = some (.int .u32 (n : Int)) := block_cell HZ.out.x3 rfl
  have x3 : Y1.cell? ⟨b3, 3, none⟩ = some (.int .u64 0) := block_cell HZ.out.x3 rfl
  have x4 : Y1.cell? ⟨b3, 4, none⟩ = some (.int .u32 0) := block_cell HZ.out.x3 rfl
  have x5 : Y1.cell? ⟨b3, 5, none⟩ = some (.int .u64 0) := block_cell HZ.out.x3 rfl
  have x6 : Y1.cell? ⟨b3, 6, none⟩ = some (.int .u32 0) := block_cell HZ.out.x3 rfl
  have x7 : Y1.cell? ⟨b3, 7, none⟩ = some (.int .u64 0) := block_cell HZ.out.x3 rfl
  have x8 : Y1.cell? ⟨b3, 8, none⟩ = some (.int .u32 0) := block_cell HZ.out.x3 rfl
  have x9 : Y1.cell? ⟨b3, 9, none⟩ = some (.string ⟨#[]⟩) := block_cell HZ.out.x3 rfl
  have x10 : Y1.cell? ⟨b3, 10, none⟩ = some (.int .u8 0) := block_cell HZ.out.x3 rfl
  have x11 : Y1.cell? ⟨b3, 11, none⟩ = some (.bool false) := block_cell HZ.out.x3 rfl
  have x12 : Y1.cell? ⟨b3, 12, none⟩ = some (.slice none 0 0) := block_cell HZ.out.x3 rfl
  have y0 : Y1.cell? ⟨b2, 0, none⟩ = some (.int .i64 0) := block_cell HZ.out.x2 rfl
  have y1 : Y1.cell? ⟨b2, 1, none⟩ = some (.int .u32 0) := block_cell HZ.out.x2 rfl
  have y2 : Y1.cell? ⟨b2, 2, none⟩ = some (.int .u32 0) := block_cell HZ.out.x2 rfl
  have y3 : Y1.cell? ⟨b2, 3, none⟩ = some (.int .u64 0) := block_cell HZ.out.x2 rfl
  have y4 : Y1.cell? ⟨b2, 4, none⟩ = some (.int .u32 0) := block_cell HZ.out.x2 rfl
  have y5 : Y1.cell? ⟨b2, 5, none⟩ = some (.int .u64 0) := block_cell HZ.out.x2 rfl
  have y6 : Y1.cell? ⟨b2, 6, none⟩ = some (.int .u32 0) := block_cell HZ.out.x2 rfl
  have y7 : Y1.cell? ⟨b2, 7, none⟩ = some (.int .u64 0) := block_cell HZ.out.x2 rfl
  have y8 : Y1.cell? ⟨b2, 8, none⟩ = some (.int .u32 0) := block_cell HZ.out.x2 rfl
  have y9 : Y1.cell? ⟨b2, 9, none⟩ = some (.string ⟨#[]⟩) := block_cell HZ.out.x2 rfl
  have y10 : Y1.cell? ⟨b2, 10, none⟩ = some (.int .u8 0) := block_cell HZ.out.x2 rfl
  have y11 : Y1.cell? ⟨b2, 11, none⟩ = some (.bool false) := block_cell HZ.out.x2 rfl
  have y12 : Y1.cell? ⟨b2, 12, none⟩ = some (.slice none 0 0) := block_cell HZ.out.x2 rfl
  have z0 : Y1.frozen? ⟨b2, 0, none⟩ = false := block_frozen HZ.out.x2 0
  have z1 : Y1.frozen? ⟨b2, 1, none⟩ = false := block_frozen HZ.out.x2 1
  have z2 : Y1.frozen? ⟨b2, 2, none⟩ = false := block_frozen HZ.out.x2 2
  have z3 : Y1.frozen? ⟨b2, 3, none⟩ = false := block_frozen HZ.out.x2 3
  have z4 : Y1.frozen? ⟨b2, 4, none⟩ = false := block_frozen HZ.out.x2 4
  have z5 : Y1.frozen? ⟨b2, 5, none⟩ = false := block_frozen HZ.out.x2 5
  have z6 : Y1.frozen? ⟨b2, 6, none⟩ = false := block_frozen HZ.out.x2 6
  have z7 : Y1.frozen? ⟨b2, 7, none⟩ = false := block_frozen HZ.out.x2 7
  have z8 : Y1.frozen? ⟨b2, 8, none⟩ = false := block_frozen HZ.out.x2 8
  have z9 : Y1.frozen? ⟨b2, 9, none⟩ = false := block_frozen HZ.out.x2 9
  have z10 : Y1.frozen? ⟨b2, 10, none⟩ = false := block_frozen HZ.out.x2 10
  have z11 : Y1.frozen? ⟨b2, 11, none⟩ = false := block_frozen HZ.out.x2 11
  have z12 : Y1.frozen? ⟨b2, 12, none⟩ = false := block_frozen HZ.out.x2 12
  have HI : Hid _ := bx13 (.int .i64 k) (.int .u32 (c : Int)) (.int .u32 (n : Int)) (.int .u64 0) (.int .u32 0) (.int .u64 0) (.int .u32 0) (.int .u64 0) (.int .u32 0) (.string ⟨#[]⟩) (.int .u8 0) (.bool false) (.slice none 0 0) HZ.out.x2
  have HBw : Hid _ := bx13_below (.int .i64 k) (.int .u32 (c : Int)) (.int .u32 (n : Int)) (.int .u64 0) (.int .u32 0) (.int .u64 0) (.int .u32 0) (.int .u64 0) (.int .u32 0) (.string ⟨#[]⟩) (.int .u8 0) (.bool false) (.slice none 0 0) HZ.out.bel HZ.out.l2
  clear HZ
  go_wp2_with fail
  have r0 : (((((((((((((Y1.setCell ⟨b2, 0, none⟩ (.int .i64 k)).setCell ⟨b2, 1, none⟩ (.int .u32 (c : Int))).setCell ⟨b2, 2, none⟩ (.int .u32 (n : Int))).setCell ⟨b2, 3, none⟩ (.int .u64 0)).setCell ⟨b2, 4, none⟩ (.int .u32 0)).setCell ⟨b2, 5, none⟩ (.int .u64 0)).setCell ⟨b2, 6, none⟩ (.int .u32 0)).setCell ⟨b2, 7, none⟩ (.int .u64 0)).setCell ⟨b2, 8, none⟩ (.int .u32 0)).setCell ⟨b2, 9, none⟩ (.string ⟨#[]⟩)).setCell ⟨b2, 10, none⟩ (.int .u8 0)).setCell ⟨b2, 11, none⟩ (.bool false)).setCell ⟨b2, 12, none⟩ (.slice none 0 0)).cell? ⟨b2, 0, none⟩ = some (.int .i64 k) := block_cell HI.out rfl
  have r1 : (((((((((((((Y1.setCell ⟨b2, 0, none⟩ (.int .i64 k)).setCell ⟨b2, 1, none⟩ (.int .u32 (c : Int))).setCell ⟨b2, 2, none⟩ (.int .u32 (n : Int))).setCell ⟨b2, 3, none⟩ (.int .u64 0)).setCell ⟨b2, 4, none⟩ (.int .u32 0)).setCell ⟨b2, 5, none⟩ (.int .u64 0)).setCell ⟨b2, 6, none⟩ (.int .u32 0)).setCell ⟨b2, 7, none⟩ (.int .u64 0)).setCell ⟨b2, 8, none⟩ (.int .u32 0)).setCell ⟨b2, 9, none⟩ (.string ⟨#[]⟩)).setCell ⟨b2, 10, none⟩ (.int .u8 0)).setCell ⟨b2, 11, none⟩ (.bool false)).setCell ⟨b2, 12, none⟩ (.slice none 0 0)).cell? ⟨b2, 1, none⟩ = some (.int .u32 (c : Int)) := block_cell HI.out rfl
  have r2 : (((((((((((((Y1.setCell ⟨b2, 0, none⟩ (.int .i64 k)).setCell ⟨b2, 1, none⟩ (.int .u32 (c : Int))).setCell ⟨b2, 2, none⟩ (.int .u32 (n : Int))).setCell ⟨b2, 3, none⟩ (.int .u64 0)).setCell ⟨b2, 4, none⟩ (.int .u32 0)).setCell ⟨b2, 5, none⟩ (.int .u64 0)).setCell ⟨b2, 6, none⟩ (.int .u32 0)).setCell ⟨b2, 7, none⟩ (.int .u64 0)).setCell ⟨b2, 8, none⟩ (.int .u32 0)).setCell ⟨b2, 9, none⟩ (.string ⟨#[]⟩)).setCell ⟨b2, 10, none⟩ (.int .u8 0)).setCell ⟨b2, 11, none⟩ (.bool false)).setCell ⟨b2, 12, none⟩ (.slice none 0 0)).cell? ⟨b2, 2, none⟩ = some (.int .u32 (n : Int)) := block_cell HI.out rfl
  have r3 : (((((((((((((Y1.setCell ⟨b2, 0, none⟩ (.int .i64 k)).setCell ⟨b2, 1, none⟩ (.int .u32 (c : Int))).setCell ⟨b2, 2, none⟩ (.int .u32 (n : Int))).setCell ⟨b2, 3, none⟩ (.int .u64 0)).setCell ⟨b2, 4, none⟩ (.int .u32 0)).setCell ⟨b2, 5, none⟩ (.int .u64 0)).setCell ⟨b2, 6, none⟩ (.int .u32 0)).setCell ⟨b2, 7, none⟩ (.int .u64 0)).setCell ⟨b2, 8, none⟩ (.int .u32 0)).setCell ⟨b2, 9, none⟩ (.string ⟨#[]⟩)).setCell ⟨b2, 10, none⟩ (.int .u8 0)).setCell ⟨b2, 11, none⟩ (.bool false)).setCell ⟨b2, 12, none⟩ (.slice none 0 0)).cell? ⟨b2, 3, none⟩ = some (.int .u64 0) := block_cell HI.out rfl
  have r4 : (((((((((((((Y1.setCell ⟨b2, 0, none⟩ (.int .i64 k)).setCell ⟨b2, 1, none⟩ (.int .u32 (c : Int))).setCell ⟨b2, 2, none⟩ (.int .u32 (n : Int))).setCell ⟨b2, 3, none⟩ (.int .u64 0)).setCell ⟨b2, 4, none⟩ (.int .u32 0)).setCell ⟨b2, 5, none⟩ (.int .u64 0)).setCell ⟨b2, 6, none⟩ (.int .u32 0)).setCell ⟨b2, 7, none⟩ (.int .u64 0)).setCell ⟨b2, 8, none⟩ (.int .u32 0)).setCell ⟨b2, 9, none⟩ (.string ⟨#[]⟩)).setCell ⟨b2, 10, none⟩ (.int .u8 0)).setCell ⟨b2, 11, none⟩ (.bool false)).setCell ⟨b2, 12, none⟩ (.slice none 0 0)).cell? ⟨b2, 4, none⟩ = some (.int .u32 0) := block_cell HI.out rfl
  have r5 : (((((((((((((Y1.setCell ⟨b2, 0, none⟩ (.int .i64 k)).setCell ⟨b2, 1, none⟩ (.int .u32 (c : Int))).setCell ⟨b2, 2, none⟩ (.int .u32 (n : Int))).setCell ⟨b2, 3, none⟩ (.int .u64 0)).setCell ⟨b2, 4, none⟩ (.int .u32 0)).setCell ⟨b2, 5, none⟩ (.int .u64 0)).setCell ⟨b2, 6, none⟩ (.int .u32 0)).setCell ⟨b2, 7, none⟩ (.int .u64 0)).setCell ⟨b2, 8, none⟩ (.int .u32 0)).setCell ⟨b2, 9, none⟩ (.string ⟨#[]⟩)).setCell ⟨b2, 10, none⟩ (.int .u8 0)).setCell ⟨b2, 11, none⟩ (.bool false)).setCell ⟨b2, 12, none⟩ (.slice none 0 0)).cell? ⟨b2, 5, none⟩ = some (.int .u64 0) := block_cell HI.out rfl
  have r6 : (((((((((((((Y1.setCell ⟨b2, 0, none⟩ (.int .i64 k)).setCell ⟨b2, 1, none⟩ (.int .u32 (c : Int))).setCell ⟨b2, 2, none⟩ (.int .u32 (n : Int))).setCell ⟨b2, 3, none⟩ (.int .u64 0)).setCell ⟨b2, 4, none⟩ (.int .u32 0)).setCell ⟨b2, 5, none⟩ (.int .u64 0)).setCell ⟨b2, 6, none⟩ (.int .u32 0)).setCell ⟨b2, 7, none⟩ (.int .u64 0)).setCell ⟨b2, 8, none⟩ (.int .u32 0)).setCell ⟨b2, 9, none⟩ (.string ⟨#[]⟩)).setCell ⟨b2, 10, none⟩ (.int .u8 0)).setCell ⟨b2, 11, none⟩ (.bool false)).setCell ⟨b2, 12, none⟩ (.slice none 0 0)).cell? ⟨b2, 6, none⟩ = some (.int .u32 0) := block_cell HI.out rfl
  have r7 : (((((((((((((Y1.setCell ⟨b2, 0, none⟩ (.int .i64 k)).setCell ⟨b2, 1, none⟩ (.int .u32 (c : Int))).setCell ⟨b2, 2, none⟩ (.int .u32 (n : Int))).setCell ⟨b2, 3, none⟩ (.int .u64 0)).setCell ⟨b2, 4, none⟩ (.int .u32 0)).setCell ⟨b2, 5, none⟩ (.int .u64 0)).setCell ⟨b2, 6, none⟩ (.int .u32 0)).setCell ⟨b2, 7, none⟩ (.int .u64 0)).setCell ⟨b2, 8, none⟩ (.int .u32 0)).setCell ⟨b2, 9, none⟩ (.string ⟨#[]⟩)).setCell ⟨b2, 10, none⟩ (.int .u8 0)).setCell ⟨b2, 11, none⟩ (.bool false)).setCell ⟨b2, 12, none⟩ (.slice none 0 0)).cell? ⟨b2, 7, none⟩ = some (.int .u64 0) := block_cell HI.out rfl
  have r8 : (((((((((((((Y1.setCell ⟨b2, 0, none⟩ (.int .i64 k)).setCell ⟨b2, 1, none⟩ (.int .u32 (c : Int))).setCell ⟨b2, 2, none⟩ (.int .u32 (n : Int))).setCell ⟨b2, 3, none⟩ (.int .u64 0)).setCell ⟨b2, 4, none⟩ (.int .u32 0)).setCell ⟨b2, 5, none⟩ (.int .u64 0)).setCell ⟨b2, 6, none⟩ (.int .u32 0)).setCell ⟨b2, 7, none⟩ (.int .u64 0)).setCell ⟨b2, 8, none⟩ (.int .u32 0)).setCell ⟨b2, 9, none⟩ (.string ⟨#[]⟩)).setCell ⟨b2, 10, none⟩ (.int .u8 0)).setCell ⟨b2, 11, none⟩ (.bool false)).setCell ⟨b2, 12, none⟩ (.slice none 0 0)).cell? ⟨b2, 8, none⟩ = some (.int .u32 0) := block_cell HI.out rfl
  have r9 : (((((((((((((Y1.setCell ⟨b2, 0, none⟩ (.int .i64 k)).setCell ⟨b2, 1, none⟩ (.int .u32 (c : Int))).setCell ⟨b2, 2, none⟩ (.int .u32 (n : Int))).setCell ⟨b2, 3, none⟩ (.int .u64 0)).setCell ⟨b2, 4, none⟩ (.int .u32 0)).setCell ⟨b2, 5, none⟩ (.int .u64 0)).setCell ⟨b2, 6, none⟩ (.int .u32 0)).setCell ⟨b2, 7, none⟩ (.int .u64 0)).setCell ⟨b2, 8, none⟩ (.int .u32 0)).setCell ⟨b2, 9, none⟩ (.string ⟨#[]⟩)).setCell ⟨b2, 10, none⟩ (.int .u8 0)).setCell ⟨b2, 11, none⟩ (.bool false)).setCell ⟨b2, 12, none⟩ (.slice none 0 0)).cell? ⟨b2, 9, none⟩ = some (.string ⟨#[]⟩) := block_cell HI.out rfl
  have r10 : (((((((((((((Y1.setCell ⟨b2, 0, none⟩ (.int .i64 k)).setCell ⟨b2, 1, none⟩ (.int .u32 (c : Int))).setCell ⟨b2, 2, none⟩ (.int .u32 (n : Int))).setCell ⟨b2, 3, none⟩ (.int .u64 0)).setCell ⟨b2, 4, none⟩ (.int .u32 0)).setCell ⟨b2, 5, none⟩ (.int .u64 0)).setCell ⟨b2, 6, none⟩ (.int .u32 0)).setCell ⟨b2, 7, none⟩ (.int .u64 0)).setCell ⟨b2, 8, none⟩ (.int .u32 0)).setCell ⟨b2, 9, none⟩ (.string ⟨#[]⟩)).setCell ⟨b2, 10, none⟩ (.int .u8 0)).setCell ⟨b2, 11, none⟩ (.bool false)).setCell ⟨b2, 12, none⟩ (.slice none 0 0)).cell? ⟨b2, 10, none⟩ = some (.int .u8 0) := block_cell HI.out rfl
  have r11 : (((((((((((((Y1.setCell ⟨b2, 0, none⟩ (.int .i64 k)).setCell ⟨b2, 1, none⟩ (.int .u32 (c : Int))).setCell ⟨b2, 2, none⟩ (.int .u32 (n : Int))).setCell ⟨b2, 3, none⟩ (.int .u64 0)).setCell ⟨b2, 4, none⟩ (.int .u32 0)).setCell ⟨b2, 5, none⟩ (.int .u64 0)).setCell ⟨b2, 6, none⟩ (.int .u32 0)).setCell ⟨b2, 7, none⟩ (.int .u64 0)).setCell ⟨b2, 8, none⟩ (.int .u32 0)).setCell ⟨b2, 9, none⟩ (.string ⟨#[]⟩)).setCell ⟨b2, 10, none⟩ (.int .u8 0)).setCell ⟨b2, 11, none⟩ (.bool false)).setCell ⟨b2, 12, none⟩ (.slice none 0 0)).cell? ⟨b2, 11, none⟩ = some (.bool false) := block_cell HI.out rfl
  have r12 : (((((((((((((Y1.setCell ⟨b2, 0, none⟩ (.int .i64 k)).setCell ⟨b2, 1, none⟩ (.int .u32 (c : Int))).setCell ⟨b2, 2, none⟩ (.int .u32 (n : Int))).setCell ⟨b2, 3, none⟩ (.int .u64 0)).setCell ⟨b2, 4, none⟩ (.int .u32 0)).setCell ⟨b2, 5, none⟩ (.int .u64 0)).setCell ⟨b2, 6, none⟩ (.int .u32 0)).setCell ⟨b2, 7, none⟩ (.int .u64 0)).setCell ⟨b2, 8, none⟩ (.int .u32 0)).setCell ⟨b2, 9, none⟩ (.string ⟨#[]⟩)).setCell ⟨b2, 10, none⟩ (.int .u8 0)).setCell ⟨b2, 11, none⟩ (.bool false)).setCell ⟨b2, 12, none⟩ (.slice none 0 0)).cell? ⟨b2, 12, none⟩ = some (.slice none 0 0) := block_cell HI.out rfl
  refine bodyPost_ret (v := .agg #[.int .i64 k, .int .u32 (c : Int), .int .u32 (n : Int), .int .u64 0, .int .u32 0, .int .u64 0, .int .u32 0, .int .u64 0, .int .u32 0, .string ⟨#[]⟩, .int .u8 0, .bool false, .slice none 0 0]) (by simp [results, Try.results45, go_sem, r0, r1, r2, r3, r4, r5, r6, r7, r8, r9, r10, r11, r12]) rfl ?_
  exact ⟨rfl, HBw.out⟩
end Go.Proofs.Ytmgjlpgjjeknpaa

namespace Go.Proofs.Ytmgjlpgjjeknpaa
open Go.RowKit

theorem bare44 (e : En) (ao : Option Addr) (ln cp : Nat) (w : World) : Calls Try.prog 45 #[.agg #[.int .i64 e.k, .int .u32 (e.c : Int), .int .u32 (e.n : Int), .int .u64 (e.sp : Int), .int .u32 (e.sl : Int), .int .u64 (e.ap : Int), .int .u32 (e.al : Int), .int .u64 (e.mp : Int), .int .u32 (e.ml : Int), .string (bs e.prim), .int .u8 (e.pt : Int), .bool e.dn, .slice ao ln cp]] w fun r w' => r = .returned (.agg #[.int .i64 (bareE e).k, .int .u32 ((bareE e).c : Int), .int .u32 ((bareE e).n : Int), .int .u64 ((bareE e).sp : Int), .int .u32 ((bareE e).sl : Int), .int .u64 ((bareE e).ap : Int), .int .u32 ((bareE e).al : Int), .int .u64 ((bareE e).mp : Int), .int .u32 ((bareE e).ml : Int), .string (bs (bareE e).prim), .int .u8 ((bareE e).pt : Int), .bool (bareE e).dn, bareS e.k (.slice ao ln cp)]) ∧ Below w.heap.size w w' := by
  obtain ⟨k, c, n, sp, sq, ap, aq, mp, mq, prim, pt, dn, ws⟩ := e
  by_cases h1 : k = 1
  · subst h1
    exact bare44_1 c n sp sq ap aq mp mq prim pt dn ao ln cp w
  by_cases h2 : k = 2
  · subst h2
    exact bare44_2 c n sp sq ap aq mp mq prim pt dn ao ln cp w
  by_cases h3 : k = 3
  · subst h3
    exact bare44_3 c n sp sq ap aq mp mq prim pt dn ao ln cp w
  by_cases h4 : k = 4
  · subst h4
    exact bare44_4 c n sp sq ap aq mp mq prim pt dn ao ln cp w
  by_cases h5 : k = 5
  · subst h5
    exact bare44_5 c n sp sq ap aq mp mq prim pt dn ao ln cp w
  by_cases h6 : k = 6
  · subst h6
    exact bare44_6 c n sp sq ap aq mp mq prim pt dn ao ln cp w
  by_cases h7 : k = 7
  · subst h7
    exact bare44_7 c n sp sq ap aq mp mq prim pt dn ao ln cp w
  by_cases h8 : k = 8
  · subst h8
    exact bare44_8 c n sp sq ap aq mp mq prim pt dn ao ln cp w
  by_cases h9 : k = 9
  · subst h9
    exact bare44_9 c n sp sq ap aq mp mq prim pt dn ao ln cp w
  have b1 : (k == 1) = false := by simpa using h1
  have b2 : (k == 2) = false := by simpa using h2
  have b3 : (k == 3) = false := by simpa using h3
  have b4 : (k == 4) = false := by simpa using h4
  have b5 : (k == 5) = false := by simpa using h5
  have b6 : (k == 6) = false := by simpa using h6
  have b8 : (k == 8) = false := by simpa using h8
  have b9 : (k == 9) = false := by simpa using h9
  have := bare44_O k c n sp sq ap aq mp mq prim pt dn ao ln cp w b1 b2 b3 b4 b5 b6 b8 b9
  simpa [bareE, bareS, hasBy, hasSt, hasAt, hasPt, hasWs, b1, b2, b3, b4, b5, b6, b8, b9, h2, h9, bs] using this
end Go.Proofs.Ytmgjlpgjjeknpaa
