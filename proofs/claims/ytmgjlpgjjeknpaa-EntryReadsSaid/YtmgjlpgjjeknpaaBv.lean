/-
  The document's bare, kind by kind: the first ones.
-/
import Derived.Test.YtmgjlpgjjeknpaaBx
namespace Go.Proofs.Ytmgjlpgjjeknpaa
open Go.RowKit

set_option maxHeartbeats 1600000 in
set_option maxRecDepth 100000 in
theorem bare44_1 (c n sp sl ap aq mp ml : Nat) (prim : List UInt8) (pt : Nat) (dn : Bool) (ao : Option Addr) (ln cp : Nat) (w : World) : Calls Try.prog 45 #[.agg #[.int .i64 1, .int .u32 (c : Int), .int .u32 (n : Int), .int .u64 (sp : Int), .int .u32 (sl : Int), .int .u64 (ap : Int), .int .u32 (aq : Int), .int .u64 (mp : Int), .int .u32 (ml : Int), .string (bs prim), .int .u8 (pt : Int), .bool dn, .slice ao ln cp]] w fun r w' => r = .returned (.agg #[.int .i64 1, .int .u32 0, .int .u32 0, .int .u64 0, .int .u32 0, .int .u64 (ap : Int), .int .u32 (aq : Int), .int .u64 0, .int .u32 0, .string ⟨#[]⟩, .int .u8 0, .bool false, .slice none 0 0]) ∧ Below w.heap.size w w' := by
  have HZ : Hid _ := bz_new (w := w) #[.int .i64 1, .int .u32 (c : Int), .int .u32 (n : Int), .int .u64 (sp : Int), .int .u32 (sl : Int), .int .u64 (ap : Int), .int .u32 (aq : Int), .int .u64 (mp : Int), .int .u32 (ml : Int), .string (bs prim), .int .u8 (pt : Int), .bool dn, .slice ao ln cp] #[.int .i64 1, .int .u32 0, .int .u32 0, .int .u64 0, .int .u32 0, .int .u64 0, .int .u32 0, .int .u64 0, .int .u32 0, .string ⟨#[]⟩, .int .u8 0, .bool false, .slice none 0 0]
  go_enter Try.func45, Try.ntmps45
  go_upto_region 8 with fail
  obtain ⟨Y0, hY⟩ : ∃ Y0, ((w.alloc (.cells #[.int .i64 1, .int .u32 (c : Int), .int .u32 (n : Int), .int .u64 (sp : Int), .int .u32 (sl : Int), .int .u64 (ap : Int), .int .u32 (aq : Int), .int .u64 (mp : Int), .int .u32 (ml : Int), .string (bs prim), .int .u8 (pt : Int), .bool dn, .slice ao ln cp] 30)).alloc (.cells #[.int .i64 0, .int .u32 0, .int .u32 0, .int .u64 0, .int .u32 0, .int .u64 0, .int .u32 0, .int .u64 0, .int .u32 0, .string ⟨#[]⟩, .int .u8 0, .bool false, .slice none 0 0] 30)).alloc (.cells #[.int .i64 1, .int .u32 0, .int .u32 0, .int .u64 0, .int .u32 0, .int .u64 0, .int .u32 0, .int .u64 0, .int .u32 0, .string ⟨#[]⟩, .int .u8 0, .bool false, .slice none 0 0] 30) = Y0 := ⟨_, rfl⟩
  rw [hY] at HZ ⊢
  clear hY
  obtain ⟨b2, hb2⟩ : ∃ b2, w.heap.size + 1 = b2 := ⟨_, rfl⟩
  obtain ⟨b3, hb3⟩ : ∃ b3, b2 + 1 = b3 := ⟨_, rfl⟩
  obtain ⟨b1, hb1⟩ : ∃ b1, w.heap.size = b1 := ⟨_, rfl⟩
  rw [hb2, hb3] at HZ ⊢
  have HZ : Hid (Bz w b1 b2 b3 #[.int .i64 1, .int .u32 (c : Int), .int .u32 (n : Int), .int .u64 (sp : Int), .int .u32 (sl : Int), .int .u64 (ap : Int), .int .u32 (aq : Int), .int .u64 (mp : Int), .int .u32 (ml : Int), .string (bs prim), .int .u8 (pt : Int), .bool dn, .slice ao ln cp] #[.int .i64 1, .int .u32 0, .int .u32 0, .int .u64 0, .int .u32 0, .int .u64 0, .int .u32 0, .int .u64 0, .int .u32 0, .string ⟨#[]⟩, .int .u8 0, .bool false, .slice none 0 0] Y0) := by rw [← hb1]; exact HZ.out
  rw [hb1]
  clear hb1 hb2 hb3
  have p0 : Y0.cell? ⟨b1, 0, none⟩ = some (.int .i64 1) := block_cell HZ.out.x1 rfl
  have p5 : Y0.cell? ⟨b1, 5, none⟩ = some (.int .u64 (ap : Int)) := block_cell HZ.out.x1 rfl
  have q5 : Y0.cell? ⟨b3, 5, none⟩ = some (.int .u64 0) := block_cell HZ.out.x3 rfl
  have f5 : Y0.frozen? ⟨b3, 5, none⟩ = false := block_frozen HZ.out.x3 5
  have p6 : Y0.cell? ⟨b1, 6, none⟩ = some (.int .u32 (aq : Int)) := block_cell HZ.out.x1 rfl
  have q6 : Y0.cell? ⟨b3, 6, none⟩ = some (.int .u32 0) := block_cell HZ.out.x3 rfl
  have f6 : Y0.frozen? ⟨b3, 6, none⟩ = false := block_frozen HZ.out.x3 6
  obtain ⟨Y1, hY⟩ : ∃ Y1, ((Y0.setCell ⟨b3, 5, none⟩ (.int .u64 (ap : Int))).setCell ⟨b3, 6, none⟩ (.int .u32 (aq : Int))) = Y1 := ⟨_, rfl⟩
  have HZ2 : Hid (Bz w b1 b2 b3 #[.int .i64 1, .int .u32 (c : Int), .int .u32 (n : Int), .int .u64 (sp : Int), .int .u32 (sl : Int), .int .u64 (ap : Int), .int .u32 (aq : Int), .int .u64 (mp : Int), .int .u32 (ml : Int), .string (bs prim), .int .u8 (pt : Int), .bool dn, .slice ao ln cp] #[.int .i64 1, .int .u32 0, .int .u32 0, .int .u64 0, .int .u32 0, .int .u64 (ap : Int), .int .u32 (aq : Int), .int .u64 0, .int .u32 0, .string ⟨#[]⟩, .int .u8 0, .bool false, .slice none 0 0] Y1) := by rw [← hY]; exact ((HZ.out.st 5 (.int .u64 (ap : Int))).st 6 (.int .u32 (aq : Int)))
  have g0 : Y1.cell? ⟨b1, 0, none⟩ = some (.int .i64 1) := block_cell HZ2.out.x1 rfl
  go_upto_region 28 with fail
  clear p0 g0 hY HZ p5 q5 f5 p6 q6 f6
  have HZ : Hid _ := HZ2.out
  clear HZ2
  have x0 : Y1.cell? ⟨b3, 0, none⟩ = some (.int .i64 1) := block_cell HZ.out.x3 rfl
  have x1 : Y1.cell? ⟨b3, 1, none⟩ = some (.int .u32 0) := block_cell HZ.out.x3 rfl
  have x2 : Y1.cell? ⟨b3, 2, none⟩ = some (.int .u32 0) := block_cell HZ.out.x3 rfl
  have x3 : Y1.cell? ⟨b3, 3, none⟩ = some (.int .u64 0) := block_cell HZ.out.x3 rfl
  have x4 : Y1.cell? ⟨b3, 4, none⟩ = some (.int .u32 0) := block_cell HZ.out.x3 rfl
  have x5 : Y1.cell? ⟨b3, 5, none⟩ = some (.int .u64 (ap : Int)) := block_cell HZ.out.x3 rfl
  have x6 : Y1.cell? ⟨b3, 6, none⟩ = some (.int .u32 (aq : Int)) := block_cell HZ.out.x3 rfl
  have x7 : Y1.cell? ⟨b3, 7, none⟩ = some (.int .u64 0) := block_cell HZ.out.x3 rfl
  have x8 : Y1.cell? ⟨b3, 8, none⟩ = some (.int .u32 0) := block_cell HZ.out.x3 rfl
  have x9 : Y1.cell? ⟨b3, 9, none⟩ = some (.string ⟨#[]⟩) := block_cell HZ.out.x3 rfl
  have x10 : Y1.cell? ⟨b3, 10, none⟩ = some (.int .u8 0) := block_cell HZ.out.x3 rfl
  have x11 : Y1.cell? ⟨b3, 11, none⟩ = some (.bool false) := block_cell HZ.out.x3 rfl
  have x12 : Y1.cell? ⟨b3, 12, none⟩ = some (.slice none 0 0) := block_cell HZ.out.x3 rfl
  have y0 : Y1.cell? ⟨b2, 0, none⟩ = some (.int .i64 0) := block_cell HZ.out.x2 rfl
  have y1 : Y1.cell? ⟨b2, 1, none⟩ = some (.int .u32 0) := block_cell HZ.out.x2 rfl
  have y2 : Y1.cell? ⟨b2, 2, none⟩ = some (.int .u32 0) := block_cell HZ.out.x2 rfl
  have y3 : Y1.cell? ⟨b2, 3, none⟩ = some (.int .u64 0) := block_cell HZ.out.x2 rfl
  have y4 : Y1.cell? ⟨b2, 4, none⟩ = some (.int .u32 0) := block_cell HZ.out.x2 rfl
  have y5 : Y1.cell? ⟨b2, 5, none⟩ = some (.int .u64 0) := block_cell HZ.out.x2 rfl
  have y6 : Y1.cell? ⟨b2, 6, none⟩ = some (.int .u32 0) := block_cell HZ.out.x2 rfl
  have y7 : Y1.cell? ⟨b2, 7, none⟩ = some (.int .u64 0) := block_cell HZ.out.x2 rfl
  have y8 : Y1.cell? ⟨b2, 8, none⟩ = some (.int .u32 0) := block_cell HZ.out.x2 rfl
  have y9 : Y1.cell? ⟨b2, 9, none⟩ = some (.string ⟨#[]⟩) := block_cell HZ.out.x2 rfl
  have y10 : Y1.cell? ⟨b2, 10, none⟩ = some (.int .u8 0) := block_cell HZ.out.x2 rfl
  have y11 : Y1.cell? ⟨b2, 11, none⟩ = some (.bool false) := block_cell HZ.out.x2 rfl
  have y12 : Y1.cell? ⟨b2, 12, none⟩ = some (.slice none 0 0) := block_cell HZ.out.x2 rfl
  have z0 : Y1.frozen? ⟨b2, 0, none⟩ = false := block_frozen HZ.out.x2 0
  have z1 : Y1.frozen? ⟨b2, 1, none⟩ = false := block_frozen HZ.out.x2 1
  have z2 : Y1.frozen? ⟨b2, 2, none⟩ = false := block_frozen HZ.out.x2 2
  have z3 : Y1.frozen? ⟨b2, 3, none⟩ = false := block_frozen HZ.out.x2 3
  have z4 : Y1.frozen? ⟨b2, 4, none⟩ = false := block_frozen HZ.out.x2 4
  have z5 : Y1.frozen? ⟨b2, 5, none⟩ = false := block_frozen HZ.out.x2 5
  have z6 : Y1.frozen? ⟨b2, 6, none⟩ = false := block_frozen HZ.out.x2 6
  have z7 : Y1.frozen? ⟨b2, 7, none⟩ = false := block_frozen HZ.out.x2 7
  have z8 : Y1.frozen? ⟨b2, 8, none⟩ = false := block_frozen HZ.out.x2 8
  have z9 : Y1.frozen? ⟨b2, 9, none⟩ = false := block_frozen HZ.out.x2 9
  have z10 : Y1.frozen? ⟨b2, 10, none⟩ = false := block_frozen HZ.out.x2 10
  have z11 : Y1.frozen? ⟨b2, 11, none⟩ = false := block_frozen HZ.out.x2 11
  have z12 : Y1.frozen? ⟨b2, 12, none⟩ = false := block_frozen HZ.out.x2 12
  have HI : Hid _ := bx13 (.int .i64 1) (.int .u32 0) (.int .u32 0) (.int .u64 0) (.int .u32 0) (.int .u64 (ap : Int)) (.int .u32 (aq : Int)) (.int .u64 0) (.int .u32 0) (.string ⟨#[]⟩) (.int .u8 0) (.bool false) (.slice none 0 0) HZ.out.x2
  have HBw : Hid _ := bx13_below (.int .i64 1) (.int .u32 0) (.int .u32 0) (.int .u64 0) (.int .u32 0) (.int .u64 (ap : Int)) (.int .u32 (aq : Int)) (.int .u64 0) (.int .u32 0) (.string ⟨#[]⟩) (.int .u8 0) (.bool false) (.slice none 0 0) HZ.out.bel HZ.out.l2
  clear HZ
  go_wp2_with fail
  have r0 : (((((((((((((Y1.setCell ⟨b2, 0, none⟩ (.int .i64 1)).setCell ⟨b2, 1, none⟩ (.int .u32 0)).setCell ⟨b2, 2, none⟩ (.int .u32 0)).setCell ⟨b2, 3, none⟩ (.int .u64 0)).setCell ⟨b2, 4, none⟩ (.int .u32 0)).setCell ⟨b2, 5, none⟩ (.int .u64 (ap : Int))).setCell ⟨b2, 6, none⟩ (.int .u32 (aq : Int))).setCell ⟨b2, 7, none⟩ (.int .u64 0)).setCell ⟨b2, 8, none⟩ (.int .u32 0)).setCell ⟨b2, 9, none⟩ (.string ⟨#[]⟩)).setCell ⟨b2, 10, none⟩ (.int .u8 0)).setCell ⟨b2, 11, none⟩ (.bool false)).setCell ⟨b2, 12, none⟩ (.slice none 0 0)).cell? ⟨b2, 0, none⟩ = some (.int .i64 1) := block_cell HI.out rfl
  have r1 : (((((((((((((Y1.setCell ⟨b2, 0, none⟩ (.int .i64 1)).setCell ⟨b2, 1, none⟩ (.int .u32 0)).setCell ⟨b2, 2, none⟩ (.int .u32 0)).setCell ⟨b2, 3, none⟩ (.int .u64 0)).setCell ⟨b2, 4, none⟩ (.int .u32 0)).setCell ⟨b2, 5, none⟩ (.int .u64 (ap : Int))).setCell ⟨b2, 6, none⟩ (.int .u32 (aq : Int))).setCell ⟨b2, 7, none⟩ (.int .u64 0)).setCell ⟨b2, 8, none⟩ (.int .u32 0)).setCell ⟨b2, 9, none⟩ (.string ⟨#[]⟩)).setCell ⟨b2, 10, none⟩ (.int .u8 0)).setCell ⟨b2, 11, none⟩ (.bool false)).setCell ⟨b2, 12, none⟩ (.slice none 0 0)).cell? ⟨b2, 1, none⟩ = some (.int .u32 0) := block_cell HI.out rfl
  have r2 : (((((((((((((Y1.setCell ⟨b2, 0, none⟩ (.int .i64 1)).setCell ⟨b2, 1, none⟩ (.int .u32 0)).setCell ⟨b2, 2, none⟩ (.int .u32 0)).setCell ⟨b2, 3, none⟩ (.int .u64 0)).setCell ⟨b2, 4, none⟩ (.int .u32 0)).setCell ⟨b2, 5, none⟩ (.int .u64 (ap : Int))).setCell ⟨b2, 6, none⟩ (.int .u32 (aq : Int))).setCell ⟨b2, 7, none⟩ (.int .u64 0)).setCell ⟨b2, 8, none⟩ (.int .u32 0)).setCell ⟨b2, 9, none⟩ (.string ⟨#[]⟩)).setCell ⟨b2, 10, none⟩ (.int .u8 0)).setCell ⟨b2, 11, none⟩ (.bool false)).setCell ⟨b2, 12, none⟩ (.slice none 0 0)).cell? ⟨b2, 2, none⟩ = some (.int .u32 0) := block_cell HI.out rfl
  have r3 : (((((((((((((Y1.setCell ⟨b2, 0, none⟩ (.int .i64 1)).setCell ⟨b2, 1, none⟩ (.int .u32 0)).setCell ⟨b2, 2, none⟩ (.int .u32 0)).setCell ⟨b2, 3, none⟩ (.int .u64 0)).setCell ⟨b2, 4, none⟩ (.int .u32 0)).setCell ⟨b2, 5, none⟩ (.int .u64 (ap : Int))).setCell ⟨b2, 6, none⟩ (.int .u32 (aq : Int))).setCell ⟨b2, 7, none⟩ (.int .u64 0)).setCell ⟨b2, 8, none⟩ (.int .u32 0)).setCell ⟨b2, 9, none⟩ (.string ⟨#[]⟩)).setCell ⟨b2, 10, none⟩ (.int .u8 0)).setCell ⟨b2, 11, none⟩ (.bool false)).setCell ⟨b2, 12, none⟩ (.slice none 0 0)).cell? ⟨b2, 3, none⟩ = some (.int .u64 0) := block_cell HI.out rfl
  have r4 : (((((((((((((Y1.setCell ⟨b2, 0, none⟩ (.int .i64 1)).setCell ⟨b2, 1, none⟩ (.int .u32 0)).setCell ⟨b2, 2, none⟩ (.int .u32 0)).setCell ⟨b2, 3, none⟩ (.int .u64 0)).setCell ⟨b2, 4, none⟩ (.int .u32 0)).setCell ⟨b2, 5, none⟩ (.int .u64 (ap : Int))).setCell ⟨b2, 6, none⟩ (.int .u32 (aq : Int))).setCell ⟨b2, 7, none⟩ (.int .u64 0)).setCell ⟨b2, 8, none⟩ (.int .u32 0)).setCell ⟨b2, 9, none⟩ (.string ⟨#[]⟩)).setCell ⟨b2, 10, none⟩ (.int .u8 0)).setCell ⟨b2, 11, none⟩ (.bool false)).setCell ⟨b2, 12, none⟩ (.slice none 0 0)).cell? ⟨b2, 4, none⟩ = some (.int .u32 0) := block_cell HI.out rfl
  have r5 : (((((((((((((Y1.setCell ⟨b2, 0, none⟩ (.int .i64 1)).setCell ⟨b2, 1, none⟩ (.int .u32 0)).setCell ⟨b2, 2, none⟩ (.int .u32 0)).setCell ⟨b2, 3, none⟩ (.int .u64 0)).setCell ⟨b2, 4, none⟩ (.int .u32 0)).setCell ⟨b2, 5, none⟩ (.int .u64 (ap : Int))).setCell ⟨b2, 6, none⟩ (.int .u32 (aq : Int))).setCell ⟨b2, 7, none⟩ (.int .u64 0)).setCell ⟨b2, 8, none⟩ (.int .u32 0)).setCell ⟨b2, 9, none⟩ (.string ⟨#[]⟩)).setCell ⟨b2, 10, none⟩ (.int .u8 0)).setCell ⟨b2, 11, none⟩ (.bool false)).setCell ⟨b2, 12, none⟩ (.slice none 0 0)).cell? ⟨b2, 5, none⟩ = some (.int .u64 (ap : Int)) := block_cell HI.out rfl
  have r6 : (((((((((((((Y1.setCell ⟨b2, 0, none⟩ (.int .i64 1)).setCell ⟨b2, 1, none⟩ (.int .u32 0)).setCell ⟨b2, 2, none⟩ (.int .u32 0)).setCell ⟨b2, 3, none⟩ (.int .u64 0)).setCell ⟨b2, 4, none⟩ (.int .u32 0)).setCell ⟨b2, 5, none⟩ (.int .u64 (ap : Int))).setCell ⟨b2, 6, none⟩ (.int .u32 (aq : Int))).setCell ⟨b2, 7, none⟩ (.int .u64 0)).setCell ⟨b2, 8, none⟩ (.int .u32 0)).setCell ⟨b2, 9, none⟩ (.string ⟨#[]⟩)).setCell ⟨b2, 10, none⟩ (.int .u8 0)).setCell ⟨b2, 11, none⟩ (.bool false)).setCell ⟨b2, 12, none⟩ (.slice none 0 0)).cell? ⟨b2, 6, none⟩ = some (.int .u32 (aq : Int)) := block_cell HI.out rfl
  have r7 : (((((((((((((Y1.setCell ⟨b2, 0, none⟩ (.int .i64 1)).setCell ⟨b2, 1, none⟩ (.int .u32 0)).setCell ⟨b2, 2, none⟩ (.int .u32 0)).setCell ⟨b2, 3, none⟩ (.int .u64 0)).setCell ⟨b2, 4, none⟩ (.int .u32 0)).setCell ⟨b2, 5, none⟩ (.int .u64 (ap : Int))).setCell ⟨b2, 6, none⟩ (.int .u32 (aq : Int))).setCell ⟨b2, 7, none⟩ (.int .u64 0)).setCell ⟨b2, 8, none⟩ (.int .u32 0)).setCell ⟨b2, 9, none⟩ (.string ⟨#[]⟩)).setCell ⟨b2, 10, none⟩ (.int .u8 0)).setCell ⟨b2, 11, none⟩ (.bool false)).setCell ⟨b2, 12, none⟩ (.slice none 0 0)).cell? ⟨b2, 7, none⟩ = some (.int .u64 0) := block_cell HI.out rfl
  have r8 : (((((((((((((Y1.setCell ⟨b2, 0, none⟩ (.int .i64 1)).setCell ⟨b2, 1, none⟩ (.int .u32 0)).setCell ⟨b2, 2, none⟩ (.int .u32 0)).setCell ⟨b2, 3, none⟩ (.int .u64 0)).setCell ⟨b2, 4, none⟩ (.int .u32 0)).setCell ⟨b2, 5, none⟩ (.int .u64 (ap : Int))).setCell ⟨b2, 6, none⟩ (.int .u32 (aq : Int))).setCell ⟨b2, 7, none⟩ (.int .u64 0)).setCell ⟨b2, 8, none⟩ (.int .u32 0)).setCell ⟨b2, 9, none⟩ (.string ⟨#[]⟩)).setCell ⟨b2, 10, none⟩ (.int .u8 0)).setCell ⟨b2, 11, none⟩ (.bool false)).setCell ⟨b2, 12, none⟩ (.slice none 0 0)).cell? ⟨b2, 8, none⟩ = some (.int .u32 0) := block_cell HI.out rfl
  have r9 : (((((((((((((Y1.setCell ⟨b2, 0, none⟩ (.int .i64 1)).setCell ⟨b2, 1, none⟩ (.int .u32 0)).setCell ⟨b2, 2, none⟩ (.int .u32 0)).setCell ⟨b2, 3, none⟩ (.int .u64 0)).setCell ⟨b2, 4, none⟩ (.int .u32 0)).setCell ⟨b2, 5, none⟩ (.int .u64 (ap : Int))).setCell ⟨b2, 6, none⟩ (.int .u32 (aq : Int))).setCell ⟨b2, 7, none⟩ (.int .u64 0)).setCell ⟨b2, 8, none⟩ (.int .u32 0)).setCell ⟨b2, 9, none⟩ (.string ⟨#[]⟩)).setCell ⟨b2, 10, none⟩ (.int .u8 0)).setCell ⟨b2, 11, none⟩ (.bool false)).setCell ⟨b2, 12, none⟩ (.slice none 0 0)).cell? ⟨b2, 9, none⟩ = some (.string ⟨#[]⟩) := block_cell HI.out rfl
  have r10 : (((((((((((((Y1.setCell ⟨b2, 0, none⟩ (.int .i64 1)).setCell ⟨b2, 1, none⟩ (.int .u32 0)).setCell ⟨b2, 2, none⟩ (.int .u32 0)).setCell ⟨b2, 3, none⟩ (.int .u64 0)).setCell ⟨b2, 4, none⟩ (.int .u32 0)).setCell ⟨b2, 5, none⟩ (.int .u64 (ap : Int))).setCell ⟨b2, 6, none⟩ (.int .u32 (aq : Int))).setCell ⟨b2, 7, none⟩ (.int .u64 0)).setCell ⟨b2, 8, none⟩ (.int .u32 0)).setCell ⟨b2, 9, none⟩ (.string ⟨#[]⟩)).setCell ⟨b2, 10, none⟩ (.int .u8 0)).setCell ⟨b2, 11, none⟩ (.bool false)).setCell ⟨b2, 12, none⟩ (.slice none 0 0)).cell? ⟨b2, 10, none⟩ = some (.int .u8 0) := block_cell HI.out rfl
  have r11 : (((((((((((((Y1.setCell ⟨b2, 0, none⟩ (.int .i64 1)).setCell ⟨b2, 1, none⟩ (.int .u32 0)).setCell ⟨b2, 2, none⟩ (.int .u32 0)).setCell ⟨b2, 3, none⟩ (.int .u64 0)).setCell ⟨b2, 4, none⟩ (.int .u32 0)).setCell ⟨b2, 5, none⟩ (.int .u64 (ap : Int))).setCell ⟨b2, 6, none⟩ (.int .u32 (aq : Int))).setCell ⟨b2, 7, none⟩ (.int .u64 0)).setCell ⟨b2, 8, none⟩ (.int .u32 0)).setCell ⟨b2, 9, none⟩ (.string ⟨#[]⟩)).setCell ⟨b2, 10, none⟩ (.int .u8 0)).setCell ⟨b2, 11, none⟩ (.bool false)).setCell ⟨b2, 12, none⟩ (.slice none 0 0)).cell? ⟨b2, 11, none⟩ = some (.bool false) := block_cell HI.out rfl
  have r12 : (((((((((((((Y1.setCell ⟨b2, 0, none⟩ (.int .i64 1)).setCell ⟨b2, 1, none⟩ (.int .u32 0)).setCell ⟨b2, 2, none⟩ (.int .u32 0)).setCell ⟨b2, 3, none⟩ (.int .u64 0)).setCell ⟨b2, 4, none⟩ (.int .u32 0)).setCell ⟨b2, 5, none⟩ (.int .u64 (ap : Int))).setCell ⟨b2, 6, none⟩ (.int .u32 (aq : Int))).setCell ⟨b2, 7, none⟩ (.int .u64 0)).setCell ⟨b2, 8, none⟩ (.int .u32 0)).setCell ⟨b2, 9, none⟩ (.string ⟨#[]⟩)).setCell ⟨b2, 10, none⟩ (.int .u8 0)).setCell ⟨b2, 11, none⟩ (.bool false)).setCell ⟨b2, 12, none⟩ (.slice none 0 0)).cell? ⟨b2, 12, none⟩ = some (.slice none 0 0) := block_cell HI.out rfl
  refine bodyPost_ret (v := .agg #[.int .i64 1, .int .u32 0, .int .u32 0, .int .u64 0, .int .u32 0, .int .u64 (ap : Int), .int .u32 (aq : Int), .int .u64 0, .int .u32 0, .string ⟨#[]⟩, .int .u8 0, .bool false, .slice none 0 0]) (by simp [results, Try.results45, go_sem, r0, r1, r2, r3, r4, r5, r6, r7, r8, r9, r10, r11, r12]) rfl ?_
  exact ⟨rfl, HBw.out⟩

set_option maxHeartbeats 1600000 in
set_option maxRecDepth 100000 in
theorem bare44_6 (c n sp sl ap aq mp ml : Nat) (prim : List UInt8) (pt : Nat) (dn : Bool) (ao : Option Addr) (ln cp : Nat) (w : World) : Calls Try.prog 45 #[.agg #[.int .i64 6, .int .u32 (c : Int), .int .u32 (n : Int), .int .u64 (sp : Int), .int .u32 (sl : Int), .int .u64 (ap : Int), .int .u32 (aq : Int), .int .u64 (mp : Int), .int .u32 (ml : Int), .string (bs prim), .int .u8 (pt : Int), .bool dn, .slice ao ln cp]] w fun r w' => r = .returned (.agg #[.int .i64 6, .int .u32 0, .int .u32 0, .int .u64 0, .int .u32 0, .int .u64 (ap : Int), .int .u32 (aq : Int), .int .u64 0, .int .u32 0, .string ⟨#[]⟩, .int .u8 0, .bool false, .slice none 0 0]) ∧ Below w.heap.size w w' := by
  have HZ : Hid _ := bz_new (w := w) #[.int .i64 6, .int .u32 (c : Int), .int .u32 (n : Int), .int .u64 (sp : Int), .int .u32 (sl : Int), .int .u64 (ap : Int), .int .u32 (aq : Int), .int .u64 (mp : Int), .int .u32 (ml : Int), .string (bs prim), .int .u8 (pt : Int), .bool dn, .slice ao ln cp] #[.int .i64 6, .int .u32 0, .int .u32 0, .int .u64 0, .int .u32 0, .int .u64 0, .int .u32 0, .int .u64 0, .int .u32 0, .string ⟨#[]⟩, .int .u8 0, .bool false, .slice none 0 0]
  go_enter Try.func45, Try.ntmps45
  go_upto_region 8 with fail
  obtain ⟨Y0, hY⟩ : ∃ Y0, ((w.alloc (.cells #[.int .i64 6, .int .u32 (c : Int), .int .u32 (n : Int), .int .u64 (sp : Int), .int .u32 (sl : Int), .int .u64 (ap : Int), .int .u32 (aq : Int), .int .u64 (mp : Int), .int .u32 (ml : Int), .string (bs prim), .int .u8 (pt : Int), .bool dn, .slice ao ln cp] 30)).alloc (.cells #[.int .i64 0, .int .u32 0, .int .u32 0, .int .u64 0, .int .u32 0, .int .u64 0, .int .u32 0, .int .u64 0, .int .u32 0, .string ⟨#[]⟩, .int .u8 0, .bool false, .slice none 0 0] 30)).alloc (.cells #[.int .i64 6, .int .u32 0, .int .u32 0, .int .u64 0, .int .u32 0, .int .u64 0, .int .u32 0, .int .u64 0, .int .u32 0, .string ⟨#[]⟩, .int .u8 0, .bool false, .slice none 0 0] 30) = Y0 := ⟨_, rfl⟩
  rw [hY] at HZ ⊢
  clear hY
  obtain ⟨b2, hb2⟩ : ∃ b2, w.heap.size + 1 = b2 := ⟨_, rfl⟩
  obtain ⟨b3, hb3⟩ : ∃ b3, b2 + 1 = b3 := ⟨_, rfl⟩
  obtain ⟨b1, hb1⟩ : ∃ b1, w.heap.size = b1 := ⟨_, rfl⟩
  rw [hb2, hb3] at HZ ⊢
  have HZ : Hid (Bz w b1 b2 b3 #[.int .i64 6, .int .u32 (c : Int), .int .u32 (n : Int), .int .u64 (sp : Int), .int .u32 (sl : Int), .int .u64 (ap : Int), .int .u32 (aq : Int), .int .u64 (mp : Int), .int .u32 (ml : Int), .string (bs prim), .int .u8 (pt : Int), .bool dn, .slice ao ln cp] #[.int .i64 6, .int .u32 0, .int .u32 0, .int .u64 0, .int .u32 0, .int .u64 0, .int .u32 0, .int .u64 0, .int .u32 0, .string ⟨#[]⟩, .int .u8 0, .bool false, .slice none 0 0] Y0) := by rw [← hb1]; exact HZ.out
  rw [hb1]
  clear hb1 hb2 hb3
  have p0 : Y0.cell? ⟨b1, 0, none⟩ = some (.int .i64 6) := block_cell HZ.out.x1 rfl
  have p5 : Y0.cell? ⟨b1, 5, none⟩ = some (.int .u64 (ap : Int)) := block_cell HZ.out.x1 rfl
  have q5 : Y0.cell? ⟨b3, 5, none⟩ = some (.int .u64 0) := block_cell HZ.out.x3 rfl
  have f5 : Y0.frozen? ⟨b3, 5, none⟩ = false := block_frozen HZ.out.x3 5
  have p6 : Y0.cell? ⟨b1, 6, none⟩ = some (.int .u32 (aq : Int)) := block_cell HZ.out.x1 rfl
  have q6 : Y0.cell? ⟨b3, 6, none⟩ = some (.int .u32 0) := block_cell HZ.out.x3 rfl
  have f6 : Y0.frozen? ⟨b3, 6, none⟩ = false := block_frozen HZ.out.x3 6
  obtain ⟨Y1, hY⟩ : ∃ Y1, ((Y0.setCell ⟨b3, 5, none⟩ (.int .u64 (ap : Int))).setCell ⟨b3, 6, none⟩ (.int .u32 (aq : Int))) = Y1 := ⟨_, rfl⟩
  have HZ2 : Hid (Bz w b1 b2 b3 #[.int .i64 6, .int .u32 (c : Int), .int .u32 (n : Int), .int .u64 (sp : Int), .int .u32 (sl : Int), .int .u64 (ap : Int), .int .u32 (aq : Int), .int .u64 (mp : Int), .int .u32 (ml : Int), .string (bs prim), .int .u8 (pt : Int), .bool dn, .slice ao ln cp] #[.int .i64 6, .int .u32 0, .int .u32 0, .int .u64 0, .int .u32 0, .int .u64 (ap : Int), .int .u32 (aq : Int), .int .u64 0, .int .u32 0, .string ⟨#[]⟩, .int .u8 0, .bool false, .slice none 0 0] Y1) := by rw [← hY]; exact ((HZ.out.st 5 (.int .u64 (ap : Int))).st 6 (.int .u32 (aq : Int)))
  have g0 : Y1.cell? ⟨b1, 0, none⟩ = some (.int .i64 6) := block_cell HZ2.out.x1 rfl
  go_upto_region 28 with fail
  clear p0 g0 hY HZ p5 q5 f5 p6 q6 f6
  have HZ : Hid _ := HZ2.out
  clear HZ2
  have x0 : Y1.cell? ⟨b3, 0, none⟩ = some (.int .i64 6) := block_cell HZ.out.x3 rfl
  have x1 : Y1.cell? ⟨b3, 1, none⟩ = some (.int .u32 0) := block_cell HZ.out.x3 rfl
  have x2 : Y1.cell? ⟨b3, 2, none⟩ = some (.int .u32 0) := block_cell HZ.out.x3 rfl
  have x3 : Y1.cell? ⟨b3, 3, none⟩ = some (.int .u64 0) := block_cell HZ.out.x3 rfl
  have x4 : Y1.cell? ⟨b3, 4, none⟩ = some (.int .u32 0) := block_cell HZ.out.x3 rfl
  have x5 : Y1.cell? ⟨b3, 5, none⟩ = some (.int .u64 (ap : Int)) := block_cell HZ.out.x3 rfl
  have x6 : Y1.cell? ⟨b3, 6, none⟩ = some (.int .u32 (aq : Int)) := block_cell HZ.out.x3 rfl
  have x7 : Y1.cell? ⟨b3, 7, none⟩ = some (.int .u64 0) := block_cell HZ.out.x3 rfl
  have x8 : Y1.cell? ⟨b3, 8, none⟩ = some (.int .u32 0) := block_cell HZ.out.x3 rfl
  have x9 : Y1.cell? ⟨b3, 9, none⟩ = some (.string ⟨#[]⟩) := block_cell HZ.out.x3 rfl
  have x10 : Y1.cell? ⟨b3, 10, none⟩ = some (.int .u8 0) := block_cell HZ.out.x3 rfl
  have x11 : Y1.cell? ⟨b3, 11, none⟩ = some (.bool false) := block_cell HZ.out.x3 rfl
  have x12 : Y1.cell? ⟨b3, 12, none⟩ = some (.slice none 0 0) := block_cell HZ.out.x3 rfl
  have y0 : Y1.cell? ⟨b2, 0, none⟩ = some (.int .i64 0) := block_cell HZ.out.x2 rfl
  have y1 : Y1.cell? ⟨b2, 1, none⟩ = some (.int .u32 0) := block_cell HZ.out.x2 rfl
  have y2 : Y1.cell? ⟨b2, 2, none⟩ = some (.int .u32 0) := block_cell HZ.out.x2 rfl
  have y3 : Y1.cell? ⟨b2, 3, none⟩ = some (.int .u64 0) := block_cell HZ.out.x2 rfl
  have y4 : Y1.cell? ⟨b2, 4, none⟩ = some (.int .u32 0) := block_cell HZ.out.x2 rfl
  have y5 : Y1.cell? ⟨b2, 5, none⟩ = some (.int .u64 0) := block_cell HZ.out.x2 rfl
  have y6 : Y1.cell? ⟨b2, 6, none⟩ = some (.int .u32 0) := block_cell HZ.out.x2 rfl
  have y7 : Y1.cell? ⟨b2, 7, none⟩ = some (.int .u64 0) := block_cell HZ.out.x2 rfl
  have y8 : Y1.cell? ⟨b2, 8, none⟩ = some (.int .u32 0) := block_cell HZ.out.x2 rfl
  have y9 : Y1.cell? ⟨b2, 9, none⟩ = some (.string ⟨#[]⟩) := block_cell HZ.out.x2 rfl
  have y10 : Y1.cell? ⟨b2, 10, none⟩ = some (.int .u8 0) := block_cell HZ.out.x2 rfl
  have y11 : Y1.cell? ⟨b2, 11, none⟩ = some (.bool false) := block_cell HZ.out.x2 rfl
  have y12 : Y1.cell? ⟨b2, 12, none⟩ = some (.slice none 0 0) := block_cell HZ.out.x2 rfl
  have z0 : Y1.frozen? ⟨b2, 0, none⟩ = false := block_frozen HZ.out.x2 0
  have z1 : Y1.frozen? ⟨b2, 1, none⟩ = false := block_frozen HZ.out.x2 1
  have z2 : Y1.frozen? ⟨b2, 2, none⟩ = false := block_frozen HZ.out.x2 2
  have z3 : Y1.frozen? ⟨b2, 3, none⟩ = false := block_frozen HZ.out.x2 3
  have z4 : Y1.frozen? ⟨b2, 4, none⟩ = false := block_frozen HZ.out.x2 4
  have z5 : Y1.frozen? ⟨b2, 5, none⟩ = false := block_frozen HZ.out.x2 5
  have z6 : Y1.frozen? ⟨b2, 6, none⟩ = false := block_frozen HZ.out.x2 6
  have z7 : Y1.frozen? ⟨b2, 7, none⟩ = false := block_frozen HZ.out.x2 7
  have z8 : Y1.frozen? ⟨b2, 8, none⟩ = false := block_frozen HZ.out.x2 8
  have z9 : Y1.frozen? ⟨b2, 9, none⟩ = false := block_frozen HZ.out.x2 9
  have z10 : Y1.frozen? ⟨b2, 10, none⟩ = false := block_frozen HZ.out.x2 10
  have z11 : Y1.frozen? ⟨b2, 11, none⟩ = false := block_frozen HZ.out.x2 11
  have z12 : Y1.frozen? ⟨b2, 12, none⟩ = false := block_frozen HZ.out.x2 12
  have HI : Hid _ := bx13 (.int .i64 6) (.int .u32 0) (.int .u32 0) (.int .u64 0) (.int .u32 0) (.int .u64 (ap : Int)) (.int .u32 (aq : Int)) (.int .u64 0) (.int .u32 0) (.string ⟨#[]⟩) (.int .u8 0) (.bool false) (.slice none 0 0) HZ.out.x2
  have HBw : Hid _ := bx13_below (.int .i64 6) (.int .u32 0) (.int .u32 0) (.int .u64 0) (.int .u32 0) (.int .u64 (ap : Int)) (.int .u32 (aq : Int)) (.int .u64 0) (.int .u32 0) (.string ⟨#[]⟩) (.int .u8 0) (.bool false) (.slice none 0 0) HZ.out.bel HZ.out.l2
  clear HZ
  go_wp2_with fail
  have r0 : (((((((((((((Y1.setCell ⟨b2, 0, none⟩ (.int .i64 6)).setCell ⟨b2, 1, none⟩ (.int .u32 0)).setCell ⟨b2, 2, none⟩ (.int .u32 0)).setCell ⟨b2, 3, none⟩ (.int .u64 0)).setCell ⟨b2, 4, none⟩ (.int .u32 0)).setCell ⟨b2, 5, none⟩ (.int .u64 (ap : Int))).setCell ⟨b2, 6, none⟩ (.int .u32 (aq : Int))).setCell ⟨b2, 7, none⟩ (.int .u64 0)).setCell ⟨b2, 8, none⟩ (.int .u32 0)).setCell ⟨b2, 9, none⟩ (.string ⟨#[]⟩)).setCell ⟨b2, 10, none⟩ (.int .u8 0)).setCell ⟨b2, 11, none⟩ (.bool false)).setCell ⟨b2, 12, none⟩ (.slice none 0 0)).cell? ⟨b2, 0, none⟩ = some (.int .i64 6) := block_cell HI.out rfl
  have r1 : (((((((((((((Y1.setCell ⟨b2, 0, none⟩ (.int .i64 6)).setCell ⟨b2, 1, none⟩ (.int .u32 0)).setCell ⟨b2, 2, none⟩ (.int .u32 0)).setCell ⟨b2, 3, none⟩ (.int .u64 0)).setCell ⟨b2, 4, none⟩ (.int .u32 0)).setCell ⟨b2, 5, none⟩ (.int .u64 (ap : Int))).setCell ⟨b2, 6, none⟩ (.int .u32 (aq : Int))).setCell ⟨b2, 7, none⟩ (.int .u64 0)).setCell ⟨b2, 8, none⟩ (.int .u32 0)).setCell ⟨b2, 9, none⟩ (.string ⟨#[]⟩)).setCell ⟨b2, 10, none⟩ (.int .u8 0)).setCell ⟨b2, 11, none⟩ (.bool false)).setCell ⟨b2, 12, none⟩ (.slice none 0 0)).cell? ⟨b2, 1, none⟩ = some (.int .u32 0) := block_cell HI.out rfl
  have r2 : (((((((((((((Y1.setCell ⟨b2, 0, none⟩ (.int .i64 6)).setCell ⟨b2, 1, none⟩ (.int .u32 0)).setCell ⟨b2, 2, none⟩ (.int .u32 0)).setCell ⟨b2, 3, none⟩ (.int .u64 0)).setCell ⟨b2, 4, none⟩ (.int .u32 0)).setCell ⟨b2, 5, none⟩ (.int .u64 (ap : Int))).setCell ⟨b2, 6, none⟩ (.int .u32 (aq : Int))).setCell ⟨b2, 7, none⟩ (.int .u64 0)).setCell ⟨b2, 8, none⟩ (.int .u32 0)).setCell ⟨b2, 9, none⟩ (.string ⟨#[]⟩)).setCell ⟨b2, 10, none⟩ (.int .u8 0)).setCell ⟨b2, 11, none⟩ (.bool false)).setCell ⟨b2, 12, none⟩ (.slice none 0 0)).cell? ⟨b2, 2, none⟩ = some (.int .u32 0) := block_cell HI.out rfl
  have r3 : (((((((((((((Y1.setCell ⟨b2, 0, none⟩ (.int .i64 6)).setCell ⟨b2, 1, none⟩ (.int .u32 0)).setCell ⟨b2, 2, none⟩ (.int .u32 0)).setCell ⟨b2, 3, none⟩ (.int .u64 0)).setCell ⟨b2, 4, none⟩ (.int .u32 0)).setCell ⟨b2, 5, none⟩ (.int .u64 (ap : Int))).setCell ⟨b2, 6, none⟩ (.int .u32 (aq : Int))).setCell ⟨b2, 7, none⟩ (.int .u64 0)).setCell ⟨b2, 8, none⟩ (.int .u32 0)).setCell ⟨b2, 9, none⟩ (.string ⟨#[]⟩)).setCell ⟨b2, 10, none⟩ (.int .u8 0)).setCell ⟨b2, 11, none⟩ (.bool false)).setCell ⟨b2, 12, none⟩ (.slice none 0 0)).cell? ⟨b2, 3, none⟩ = some (.int .u64 0) := block_cell HI.out rfl
  have r4 : (((((((((((((Y1.setCell ⟨b2, 0, none⟩ (.int .i64 6)).setCell ⟨b2, 1, none⟩ (.int .u32 0)).setCell ⟨b2, 2, none⟩ (.int .u32 0)).setCell ⟨b2, 3, none⟩ (.int .u64 0)).setCell ⟨b2, 4, none⟩ (.int .u32 0)).setCell ⟨b2, 5, none⟩ (.int .u64 (ap : Int))).setCell ⟨b2, 6, none⟩ (.int .u32 (aq : Int))).setCell ⟨b2, 7, none⟩ (.int .u64 0)).setCell ⟨b2, 8, none⟩ (.int .u32 0)).setCell ⟨b2, 9, none⟩ (.string ⟨#[]⟩)).setCell ⟨b2, 10, none⟩ (.int .u8 0)).setCell ⟨b2, 11, none⟩ (.bool false)).setCell ⟨b2, 12, none⟩ (.slice none 0 0)).cell? ⟨b2, 4, none⟩ = some (.int .u32 0) := block_cell HI.out rfl
  have r5 : (((((((((((((Y1.setCell ⟨b2, 0, none⟩ (.int .i64 6)).setCell ⟨b2, 1, none⟩ (.int .u32 0)).setCell ⟨b2, 2, none⟩ (.int .u32 0)).setCell ⟨b2, 3, none⟩ (.int .u64 0)).setCell ⟨b2, 4, none⟩ (.int .u32 0)).setCell ⟨b2, 5, none⟩ (.int .u64 (ap : Int))).setCell ⟨b2, 6, none⟩ (.int .u32 (aq : Int))).setCell ⟨b2, 7, none⟩ (.int .u64 0)).setCell ⟨b2, 8, none⟩ (.int .u32 0)).setCell ⟨b2, 9, none⟩ (.string ⟨#[]⟩)).setCell ⟨b2, 10, none⟩ (.int .u8 0)).setCell ⟨b2, 11, none⟩ (.bool false)).setCell ⟨b2, 12, none⟩ (.slice none 0 0)).cell? ⟨b2, 5, none⟩ = some (.int .u64 (ap : Int)) := block_cell HI.out rfl
  have r6 : (((((((((((((Y1.setCell ⟨b2, 0, none⟩ (.int .i64 6)).setCell ⟨b2, 1, none⟩ (.int .u32 0)).setCell ⟨b2, 2, none⟩ (.int .u32 0)).setCell ⟨b2, 3, none⟩ (.int .u64 0)).setCell ⟨b2, 4, none⟩ (.int .u32 0)).setCell ⟨b2, 5, none⟩ (.int .u64 (ap : Int))).setCell ⟨b2, 6, none⟩ (.int .u32 (aq : Int))).setCell ⟨b2, 7, none⟩ (.int .u64 0)).setCell ⟨b2, 8, none⟩ (.int .u32 0)).setCell ⟨b2, 9, none⟩ (.string ⟨#[]⟩)).setCell ⟨b2, 10, none⟩ (.int .u8 0)).setCell ⟨b2, 11, none⟩ (.bool false)).setCell ⟨b2, 12, none⟩ (.slice none 0 0)).cell? ⟨b2, 6, none⟩ = some (.int .u32 (aq : Int)) := block_cell HI.out rfl
  have r7 : (((((((((((((Y1.setCell ⟨b2, 0, none⟩ (.int .i64 6)).setCell ⟨b2, 1, none⟩ (.int .u32 0)).setCell ⟨b2, 2, none⟩ (.int .u32 0)).setCell ⟨b2, 3, none⟩ (.int .u64 0)).setCell ⟨b2, 4, none⟩ (.int .u32 0)).setCell ⟨b2, 5, none⟩ (.int .u64 (ap : Int))).setCell ⟨b2, 6, none⟩ (.int .u32 (aq : Int))).setCell ⟨b2, 7, none⟩ (.int .u64 0)).setCell ⟨b2, 8, none⟩ (.int .u32 0)).setCell ⟨b2, 9, none⟩ (.string ⟨#[]⟩)).setCell ⟨b2, 10, none⟩ (.int .u8 0)).setCell ⟨b2, 11, none⟩ (.bool false)).setCell ⟨b2, 12, none⟩ (.slice none 0 0)).cell? ⟨b2, 7, none⟩ = some (.int .u64 0) := block_cell HI.out rfl
  have r8 : (((((((((((((Y1.setCell ⟨b2, 0, none⟩ (.int .i64 6)).setCell ⟨b2, 1, none⟩ (.int .u32 0)).setCell ⟨b2, 2, none⟩ (.int .u32 0)).setCell ⟨b2, 3, none⟩ (.int .u64 0)).setCell ⟨b2, 4, none⟩ (.int .u32 0)).setCell ⟨b2, 5, none⟩ (.int .u64 (ap : Int))).setCell ⟨b2, 6, none⟩ (.int .u32 (aq : Int))).setCell ⟨b2, 7, none⟩ (.int .u64 0)).setCell ⟨b2, 8, none⟩ (.int .u32 0)).setCell ⟨b2, 9, none⟩ (.string ⟨#[]⟩)).setCell ⟨b2, 10, none⟩ (.int .u8 0)).setCell ⟨b2, 11, none⟩ (.bool false)).setCell ⟨b2, 12, none⟩ (.slice none 0 0)).cell? ⟨b2, 8, none⟩ = some (.int .u32 0) := block_cell HI.out rfl
  have r9 : (((((((((((((Y1.setCell ⟨b2, 0, none⟩ (.int .i64 6)).setCell ⟨b2, 1, none⟩ (.int .u32 0)).setCell ⟨b2, 2, none⟩ (.int .u32 0)).setCell ⟨b2, 3, none⟩ (.int .u64 0)).setCell ⟨b2, 4, none⟩ (.int .u32 0)).setCell ⟨b2, 5, none⟩ (.int .u64 (ap : Int))).setCell ⟨b2, 6, none⟩ (.int .u32 (aq : Int))).setCell ⟨b2, 7, none⟩ (.int .u64 0)).setCell ⟨b2, 8, none⟩ (.int .u32 0)).setCell ⟨b2, 9, none⟩ (.string ⟨#[]⟩)).setCell ⟨b2, 10, none⟩ (.int .u8 0)).setCell ⟨b2, 11, none⟩ (.bool false)).setCell ⟨b2, 12, none⟩ (.slice none 0 0)).cell? ⟨b2, 9, none⟩ = some (.string ⟨#[]⟩) := block_cell HI.out rfl
  have r10 : (((((((((((((Y1.setCell ⟨b2, 0, none⟩ (.int .i64 6)).setCell ⟨b2, 1, none⟩ (.int .u32 0)).setCell ⟨b2, 2, none⟩ (.int .u32 0)).setCell ⟨b2, 3, none⟩ (.int .u64 0)).setCell ⟨b2, 4, none⟩ (.int .u32 0)).setCell ⟨b2, 5, none⟩ (.int .u64 (ap : Int))).setCell ⟨b2, 6, none⟩ (.int .u32 (aq : Int))).setCell ⟨b2, 7, none⟩ (.int .u64 0)).setCell ⟨b2, 8, none⟩ (.int .u32 0)).setCell ⟨b2, 9, none⟩ (.string ⟨#[]⟩)).setCell ⟨b2, 10, none⟩ (.int .u8 0)).setCell ⟨b2, 11, none⟩ (.bool false)).setCell ⟨b2, 12, none⟩ (.slice none 0 0)).cell? ⟨b2, 10, none⟩ = some (.int .u8 0) := block_cell HI.out rfl
  have r11 : (((((((((((((Y1.setCell ⟨b2, 0, none⟩ (.int .i64 6)).setCell ⟨b2, 1, none⟩ (.int .u32 0)).setCell ⟨b2, 2, none⟩ (.int .u32 0)).setCell ⟨b2, 3, none⟩ (.int .u64 0)).setCell ⟨b2, 4, none⟩ (.int .u32 0)).setCell ⟨b2, 5, none⟩ (.int .u64 (ap : Int))).setCell ⟨b2, 6, none⟩ (.int .u32 (aq : Int))).setCell ⟨b2, 7, none⟩ (.int .u64 0)).setCell ⟨b2, 8, none⟩ (.int .u32 0)).setCell ⟨b2, 9, none⟩ (.string ⟨#[]⟩)).setCell ⟨b2, 10, none⟩ (.int .u8 0)).setCell ⟨b2, 11, none⟩ (.bool false)).setCell ⟨b2, 12, none⟩ (.slice none 0 0)).cell? ⟨b2, 11, none⟩ = some (.bool false) := block_cell HI.out rfl
  have r12 : (((((((((((((Y1.setCell ⟨b2, 0, none⟩ (.int .i64 6)).setCell ⟨b2, 1, none⟩ (.int .u32 0)).setCell ⟨b2, 2, none⟩ (.int .u32 0)).setCell ⟨b2, 3, none⟩ (.int .u64 0)).setCell ⟨b2, 4, none⟩ (.int .u32 0)).setCell ⟨b2, 5, none⟩ (.int .u64 (ap : Int))).setCell ⟨b2, 6, none⟩ (.int .u32 (aq : Int))).setCell ⟨b2, 7, none⟩ (.int .u64 0)).setCell ⟨b2, 8, none⟩ (.int .u32 0)).setCell ⟨b2, 9, none⟩ (.string ⟨#[]⟩)).setCell ⟨b2, 10, none⟩ (.int .u8 0)).setCell ⟨b2, 11, none⟩ (.bool false)).setCell ⟨b2, 12, none⟩ (.slice none 0 0)).cell? ⟨b2, 12, none⟩ = some (.slice none 0 0) := block_cell HI.out rfl
  refine bodyPost_ret (v := .agg #[.int .i64 6, .int .u32 0, .int .u32 0, .int .u64 0, .int .u32 0, .int .u64 (ap : Int), .int .u32 (aq : Int), .int .u64 0, .int .u32 0, .string ⟨#[]⟩, .int .u8 0, .bool false, .slice none 0 0]) (by simp [results, Try.results45, go_sem, r0, r1, r2, r3, r4, r5, r6, r7, r8, r9, r10, r11, r12]) rfl ?_
  exact ⟨rfl, HBw.out⟩

set_option maxHeartbeats 1600000 in
set_option maxRecDepth 100000 in
theorem bare44_4 (c n sp sl ap aq mp ml : Nat) (prim : List UInt8) (pt : Nat) (dn : Bool) (ao : Option Addr) (ln cp : Nat) (w : World) : Calls Try.prog 45 #[.agg #[.int .i64 4, .int .u32 (c : Int), .int .u32 (n : Int), .int .u64 (sp : Int), .int .u32 (sl : Int), .int .u64 (ap : Int), .int .u32 (aq : Int), .int .u64 (mp : Int), .int .u32 (ml : Int), .string (bs prim), .int .u8 (pt : Int), .bool dn, .slice ao ln cp]] w fun r w' => r = .returned (.agg #[.int .i64 4, .int .u32 (c : Int), .int .u32 (n : Int), .int .u64 0, .int .u32 0, .int .u64 (ap : Int), .int .u32 (aq : Int), .int .u64 0, .int .u32 0, .string ⟨#[]⟩, .int .u8 0, .bool false, .slice none 0 0]) ∧ Below w.heap.size w w' := by
  have HZ : Hid _ := bz_new (w := w) #[.int .i64 4, .int .u32 (c : Int), .int .u32 (n : Int), .int .u64 (sp : Int), .int .u32 (sl : Int), .int .u64 (ap : Int), .int .u32 (aq : Int), .int .u64 (mp : Int), .int .u32 (ml : Int), .string (bs prim), .int .u8 (pt : Int), .bool dn, .slice ao ln cp] #[.int .i64 4, .int .u32 0, .int .u32 0, .int .u64 0, .int .u32 0, .int .u64 0, .int .u32 0, .int .u64 0, .int .u32 0, .string ⟨#[]⟩, .int .u8 0, .bool false, .slice none 0 0]
  go_enter Try.func45, Try.ntmps45
  go_upto_region 3 with fail
  obtain ⟨Y0, hY⟩ : ∃ Y0, ((w.alloc (.cells #[.int .i64 4, .int .u32 (c : Int), .int .u32 (n : Int), .int .u64 (sp : Int), .int .u32 (sl : Int), .int .u64 (ap : Int), .int .u32 (aq : Int), .int .u64 (mp : Int), .int .u32 (ml : Int), .string (bs prim), .int .u8 (pt : Int), .bool dn, .slice ao ln cp] 30)).alloc (.cells #[.int .i64 0, .int .u32 0, .int .u32 0, .int .u64 0, .int .u32 0, .int .u64 0, .int .u32 0, .int .u64 0, .int .u32 0, .string ⟨#[]⟩, .int .u8 0, .bool false, .slice none 0 0] 30)).alloc (.cells #[.int .i64 4, .int .u32 0, .int .u32 0, .int .u64 0, .int .u32 0, .int .u64 0, .int .u32 0, .int .u64 0, .int .u32 0, .string ⟨#[]⟩, .int .u8 0, .bool false, .slice none 0 0] 30) = Y0 := ⟨_, rfl⟩
  rw [hY] at HZ ⊢
  clear hY
  obtain ⟨b2, hb2⟩ : ∃ b2, w.heap.size + 1 = b2 := ⟨_, rfl⟩
  obtain ⟨b3, hb3⟩ : ∃ b3, b2 + 1 = b3 := ⟨_, rfl⟩
  obtain ⟨b1, hb1⟩ : ∃ b1, w.heap.size = b1 := ⟨_, rfl⟩
  rw [hb2, hb3] at HZ ⊢
  have HZ : Hid (Bz w b1 b2 b3 #[.int .i64 4, .int .u32 (c : Int), .int .u32 (n : Int), .int .u64 (sp : Int), .int .u32 (sl : Int), .int .u64 (ap : Int), .int .u32 (aq : Int), .int .u64 (mp : Int), .int .u32 (ml : Int), .string (bs prim), .int .u8 (pt : Int), .bool dn, .slice ao ln cp] #[.int .i64 4, .int .u32 0, .int .u32 0, .int .u64 0, .int .u32 0, .int .u64 0, .int .u32 0, .int .u64 0, .int .u32 0, .string ⟨#[]⟩, .int .u8 0, .bool false, .slice none 0 0] Y0) := by rw [← hb1]; exact HZ.out
  rw [hb1]
  clear hb1 hb2 hb3
  have p0 : Y0.cell? ⟨b1, 0, none⟩ = some (.int .i64 4) := block_cell HZ.out.x1 rfl
  have p1 : Y0.cell? ⟨b1, 1, none⟩ = some (.int .u32 (c : Int)) := block_cell HZ.out.x1 rfl
  have q1 : Y0.cell? ⟨b3, 1, none⟩ = some (.int .u32 0) := block_cell HZ.out.x3 rfl
  have f1 : Y0.frozen? ⟨b3, 1, none⟩ = false := block_frozen HZ.out.x3 1
  have p2 : Y0.cell? ⟨b1, 2, none⟩ = some (.int .u32 (n : Int)) := block_cell HZ.out.x1 rfl
  have q2 : Y0.cell? ⟨b3, 2, none⟩ = some (.int .u32 0) := block_cell HZ.out.x3 rfl
  have f2 : Y0.frozen? ⟨b3, 2, none⟩ = false := block_frozen HZ.out.x3 2
  obtain ⟨Y1, hY⟩ : ∃ Y1, ((Y0.setCell ⟨b3, 1, none⟩ (.int .u32 (c : Int))).setCell ⟨b3, 2, none⟩ (.int .u32 (n : Int))) = Y1 := ⟨_, rfl⟩
  have HZ2 : Hid (Bz w b1 b2 b3 #[.int .i64 4, .int .u32 (c : Int), .int .u32 (n : Int), .int .u64 (sp : Int), .int .u32 (sl : Int), .int .u64 (ap : Int), .int .u32 (aq : Int), .int .u64 (mp : Int), .int .u32 (ml : Int), .string (bs prim), .int .u8 (pt : Int), .bool dn, .slice ao ln cp] #[.int .i64 4, .int .u32 (c : Int), .int .u32 (n : Int), .int .u64 0, .int .u32 0, .int .u64 0, .int .u32 0, .int .u64 0, .int .u32 0, .string ⟨#[]⟩, .int .u8 0, .bool false, .slice none 0 0] Y1) := by rw [← hY]; exact ((HZ.out.st 1 (.int .u32 (c : Int))).st 2 (.int .u32 (n : Int)))
  have g0 : Y1.cell? ⟨b1, 0, none⟩ = some (.int .i64 4) := block_cell HZ2.out.x1 rfl
  go_upto_region 8 with fail
  clear p0 g0 hY HZ p1 q1 f1 p2 q2 f2
  have HZ : Hid _ := HZ2.out
  clear HZ2
  have p0 : Y1.cell? ⟨b1, 0, none⟩ = some (.int .i64 4) := block_cell HZ.out.x1 rfl
  have p5 : Y1.cell? ⟨b1, 5, none⟩ = some (.int .u64 (ap : Int)) := block_cell HZ.out.x1 rfl
  have q5 : Y1.cell? ⟨b3, 5, none⟩ = some (.int .u64 0) := block_cell HZ.out.x3 rfl
  have f5 : Y1.frozen? ⟨b3, 5, none⟩ = false := block_frozen HZ.out.x3 5
  have p6 : Y1.cell? ⟨b1, 6, none⟩ = some (.int .u32 (aq : Int)) := block_cell HZ.out.x1 rfl
  have q6 : Y1.cell? ⟨b3, 6, none⟩ = some (.int .u32 0) := block_cell HZ.out.x3 rfl
  have f6 : Y1.frozen? ⟨b3, 6, none⟩ = false := block_frozen HZ.out.x3 6
  obtain ⟨Y2, hY⟩ : ∃ Y2, ((Y1.setCell ⟨b3, 5, none⟩ (.int .u64 (ap : Int))).setCell ⟨b3, 6, none⟩ (.int .u32 (aq : Int))) = Y2 := ⟨_, rfl⟩
  have HZ2 : Hid (Bz w b1 b2 b3 #[.int .i64 4, .int .u32 (c : Int), .int .u32 (n : Int), .int .u64 (sp : Int), .int .u32 (sl : Int), .int .u64 (ap : Int), .int .u32 (aq : Int), .int .u64 (mp : Int), .int .u32 (ml : Int), .string (bs prim), .int .u8 (pt : Int), .bool dn, .slice ao ln cp] #[.int .i64 4, .int .u32 (c : Int), .int .u32 (n : Int), .int .u64 0, .int .u32 0, .int .u64 (ap : Int), .int .u32 (aq : Int), .int .u64 0, .int .u32 0, .string ⟨#[]⟩, .int .u8 0, .bool false, .slice none 0 0] Y2) := by rw [← hY]; exact ((HZ.out.st 5 (.int .u64 (ap : Int))).st 6 (.int .u32 (aq : Int)))
  have g0 : Y2.cell? ⟨b1, 0, none⟩ = some (.int .i64 4) := block_cell HZ2.out.x1 rfl
  go_upto_region 28 with fail
  clear p0 g0 hY HZ p5 q5 f5 p6 q6 f6
  have HZ : Hid _ := HZ2.out
  clear HZ2
  have x0 : Y2.cell? ⟨b3, 0, none⟩ = some (.int .i64 4) := block_cell HZ.out.x3 rfl
  have x1 : Y2.cell? ⟨b3, 1, none⟩ = some (.int .u32 (c : Int)) := block_cell HZ.out.x3 rfl
  have x2 : Y2.cell? ⟨b3, 2, none⟩ = some (.int .u32 (n : Int)) := block_cell HZ.out.x3 rfl
  have x3 : Y2.cell? ⟨b3, 3, none⟩ = some (.int .u64 0) := block_cell HZ.out.x3 rfl
  have x4 : Y2.cell? ⟨b3, 4, none⟩ = some (.int .u32 0) := block_cell HZ.out.x3 rfl
  have x5 : Y2.cell? ⟨b3, 5, none⟩ = some (.int .u64 (ap : Int)) := block_cell HZ.out.x3 rfl
  have x6 : Y2.cell? ⟨b3, 6, none⟩ = some (.int .u32 (aq : Int)) := block_cell HZ.out.x3 rfl
  have x7 : Y2.cell? ⟨b3, 7, none⟩ = some (.int .u64 0) := block_cell HZ.out.x3 rfl
  have x8 : Y2.cell? ⟨b3, 8, none⟩ = some (.int .u32 0) := block_cell HZ.out.x3 rfl
  have x9 : Y2.cell? ⟨b3, 9, none⟩ = some (.string ⟨#[]⟩) := block_cell HZ.out.x3 rfl
  have x10 : Y2.cell? ⟨b3, 10, none⟩ = some (.int .u8 0) := block_cell HZ.out.x3 rfl
  have x11 : Y2.cell? ⟨b3, 11, none⟩ = some (.bool false) := block_cell HZ.out.x3 rfl
  have x12 : Y2.cell? ⟨b3, 12, none⟩ = some (.slice none 0 0) := block_cell HZ.out.x3 rfl
  have y0 : Y2.cell? ⟨b2, 0, none⟩ = some (.int .i64 0) := block_cell HZ.out.x2 rfl
  have y1 : Y2.cell? ⟨b2, 1, none⟩ = some (.int .u32 0) := block_cell HZ.out.x2 rfl
  have y2 : Y2.cell? ⟨b2, 2, none⟩ = some (.int .u32 0) := block_cell HZ.out.x2 rfl
  have y3 : Y2.cell? ⟨b2, 3, none⟩ = some (.int .u64 0) := block_cell HZ.out.x2 rfl
  have y4 : Y2.cell? ⟨b2, 4, none⟩ = some (.int .u32 0) := block_cell HZ.out.x2 rfl
  have y5 : Y2.cell? ⟨b2, 5, none⟩ = some (.int .u64 0) := block_cell HZ.out.x2 rfl
  have y6 : Y2.cell? ⟨b2, 6, none⟩ = some (.int .u32 0) := block_cell HZ.out.x2 rfl
  have y7 : Y2.cell? ⟨b2, 7, none⟩ = some (.int .u64 0) := block_cell HZ.out.x2 rfl
  have y8 : Y2.cell? ⟨b2, 8, none⟩ = some (.int .u32 0) := block_cell HZ.out.x2 rfl
  have y9 : Y2.cell? ⟨b2, 9, none⟩ = some (.string ⟨#[]⟩) := block_cell HZ.out.x2 rfl
  have y10 : Y2.cell? ⟨b2, 10, none⟩ = some (.int .u8 0) := block_cell HZ.out.x2 rfl
  have y11 : Y2.cell? ⟨b2, 11, none⟩ = some (.bool false) := block_cell HZ.out.x2 rfl
  have y12 : Y2.cell? ⟨b2, 12, none⟩ = some (.slice none 0 0) := block_cell HZ.out.x2 rfl
  have z0 : Y2.frozen? ⟨b2, 0, none⟩ = false := block_frozen HZ.out.x2 0
  have z1 : Y2.frozen? ⟨b2, 1, none⟩ = false := block_frozen HZ.out.x2 1
  have z2 : Y2.frozen? ⟨b2, 2, none⟩ = false := block_frozen HZ.out.x2 2
  have z3 : Y2.frozen? ⟨b2, 3, none⟩ = false := block_frozen HZ.out.x2 3
  have z4 : Y2.frozen? ⟨b2, 4, none⟩ = false := block_frozen HZ.out.x2 4
  have z5 : Y2.frozen? ⟨b2, 5, none⟩ = false := block_frozen HZ.out.x2 5
  have z6 : Y2.frozen? ⟨b2, 6, none⟩ = false := block_frozen HZ.out.x2 6
  have z7 : Y2.frozen? ⟨b2, 7, none⟩ = false := block_frozen HZ.out.x2 7
  have z8 : Y2.frozen? ⟨b2, 8, none⟩ = false := block_frozen HZ.out.x2 8
  have z9 : Y2.frozen? ⟨b2, 9, none⟩ = false := block_frozen HZ.out.x2 9
  have z10 : Y2.frozen? ⟨b2, 10, none⟩ = false := block_frozen HZ.out.x2 10
  have z11 : Y2.frozen? ⟨b2, 11, none⟩ = false := block_frozen HZ.out.x2 11
  have z12 : Y2.frozen? ⟨b2, 12, none⟩ = false := block_frozen HZ.out.x2 12
  have HI : Hid _ := bx13 (.int .i64 4) (.int .u32 (c : Int)) (.int .u32 (n : Int)) (.int .u64 0) (.int .u32 0) (.int .u64 (ap : Int)) (.int .u32 (aq : Int)) (.int .u64 0) (.int .u32 0) (.string ⟨#[]⟩) (.int .u8 0) (.bool false) (.slice none 0 0) HZ.out.x2
  have HBw : Hid _ := bx13_below (.int .i64 4) (.int .u32 (c : Int)) (.int .u32 (n : Int)) (.int .u64 0) (.int .u32 0) (.int .u64 (ap : Int)) (.int .u32 (aq : Int)) (.int .u64 0) (.int .u32 0) (.string ⟨#[]⟩) (.int .u8 0) (.bool false) (.slice none 0 0) HZ.out.bel HZ.out.l2
  clear HZ
  go_wp2_with fail
  have r0 : (((((((((((((Y2.setCell ⟨b2, 0, none⟩ (.int .i64 4)).setCell ⟨b2, 1, none⟩ (.int .u32 (c : Int))).setCell ⟨b2, 2, none⟩ (.int .u32 (n : Int))).setCell ⟨b2, 3, none⟩ (.int .u64 0)).setCell ⟨b2, 4, none⟩ (.int .u32 0)).setCell ⟨b2, 5, none⟩ (.int .u64 (ap : Int))).setCell ⟨b2, 6, none⟩ (.int .u32 (aq : Int))).setCell ⟨b2, 7, none⟩ (.int .u64 0)).setCell ⟨b2, 8, none⟩ (.int .u32 0)).setCell ⟨b2, 9, none⟩ (.string ⟨#[]⟩)).setCell ⟨b2, 10, none⟩ (.int .u8 0)).setCell ⟨b2, 11, none⟩ (.bool false)).setCell ⟨b2, 12, none⟩ (.slice none 0 0)).cell? ⟨b2, 0, none⟩ = some (.int .i64 4) := block_cell HI.out rfl
  have r1 : (((((((((((((Y2.setCell ⟨b2, 0, none⟩ (.int .i64 4)).setCell ⟨b2, 1, none⟩ (.int .u32 (c : Int))).setCell ⟨b2, 2, none⟩ (.int .u32 (n : Int))).setCell ⟨b2, 3, none⟩ (.int .u64 0)).setCell ⟨b2, 4, none⟩ (.int .u32 0)).setCell ⟨b2, 5, none⟩ (.int .u64 (ap : Int))).setCell ⟨b2, 6, none⟩ (.int .u32 (aq : Int))).setCell ⟨b2, 7, none⟩ (.int .u64 0)).setCell ⟨b2, 8, none⟩ (.int .u32 0)).setCell ⟨b2, 9, none⟩ (.string ⟨#[]⟩)).setCell ⟨b2, 10, none⟩ (.int .u8 0)).setCell ⟨b2, 11, none⟩ (.bool false)).setCell ⟨b2, 12, none⟩ (.slice none 0 0)).cell? ⟨b2, 1, none⟩ = some (.int .u32 (c : Int)) := block_cell HI.out rfl
  have r2 : (((((((((((((Y2.setCell ⟨b2, 0, none⟩ (.int .i64 4)).setCell ⟨b2, 1, none⟩ (.int .u32 (c : Int))).setCell ⟨b2, 2, none⟩ (.int .u32 (n : Int))).setCell ⟨b2, 3, none⟩ (.int .u64 0)).setCell ⟨b2, 4, none⟩ (.int .u32 0)).setCell ⟨b2, 5, none⟩ (.int .u64 (ap : Int))).setCell ⟨b2, 6, none⟩ (.int .u32 (aq : Int))).setCell ⟨b2, 7, none⟩ (.int .u64 0)).setCell ⟨b2, 8, none⟩ (.int .u32 0)).setCell ⟨b2, 9, none⟩ (.string ⟨#[]⟩)).setCell ⟨b2, 10, none⟩ (.int .u8 0)).setCell ⟨b2, 11, none⟩ (.bool false)).setCell ⟨b2, 12, none⟩ (.slice none 0 0)).cell? ⟨b2, 2, none⟩ = some (.int .u32 (n : Int)) := block_cell HI.out rfl
  have r3 : (((((((((((((Y2.setCell ⟨b2, 0, none⟩ (.int .i64 4)).setCell ⟨b2, 1, none⟩ (.int .u32 (c : Int))).setCell ⟨b2, 2, none⟩ (.int .u32 (n : Int))).setCell ⟨b2, 3, none⟩ (.int .u64 0)).setCell ⟨b2, 4, none⟩ (.int .u32 0)).setCell ⟨b2, 5, none⟩ (.int .u64 (ap : Int))).setCell ⟨b2, 6, none⟩ (.int .u32 (aq : Int))).setCell ⟨b2, 7, none⟩ (.int .u64 0)).setCell ⟨b2, 8, none⟩ (.int .u32 0)).setCell ⟨b2, 9, none⟩ (.string ⟨#[]⟩)).setCell ⟨b2, 10, none⟩ (.int .u8 0)).setCell ⟨b2, 11, none⟩ (.bool false)).setCell ⟨b2, 12, none⟩ (.slice none 0 0)).cell? ⟨b2, 3, none⟩ = some (.int .u64 0) := block_cell HI.out rfl
  have r4 : (((((((((((((Y2.setCell ⟨b2, 0, none⟩ (.int .i64 4)).setCell ⟨b2, 1, none⟩ (.int .u32 (c : Int))).setCell ⟨b2, 2, none⟩ (.int .u32 (n : Int))).setCell ⟨b2, 3, none⟩ (.int .u64 0)).setCell ⟨b2, 4, none⟩ (.int .u32 0)).setCell ⟨b2, 5, none⟩ (.int .u64 (ap : Int))).setCell ⟨b2, 6, none⟩ (.int .u32 (aq : Int))).setCell ⟨b2, 7, none⟩ (.int .u64 0)).setCell ⟨b2, 8, none⟩ (.int .u32 0)).setCell ⟨b2, 9, none⟩ (.string ⟨#[]⟩)).setCell ⟨b2, 10, none⟩ (.int .u8 0)).setCell ⟨b2, 11, none⟩ (.bool false)).setCell ⟨b2, 12, none⟩ (.slice none 0 0)).cell? ⟨b2, 4, none⟩ = some (.int .u32 0) := block_cell HI.out rfl
  have r5 : (((((((((((((Y2.setCell ⟨b2, 0, none⟩ (.int .i64 4)).setCell ⟨b2, 1, none⟩ (.int .u32 (c : Int))).setCell ⟨b2, 2, none⟩ (.int .u32 (n : Int))).setCell ⟨b2, 3, none⟩ (.int .u64 0)).setCell ⟨b2, 4, none⟩ (.int .u32 0)).setCell ⟨b2, 5, none⟩ (.int .u64 (ap : Int))).setCell ⟨b2, 6, none⟩ (.int .u32 (aq : Int))).setCell ⟨b2, 7, none⟩ (.int .u64 0)).setCell ⟨b2, 8, none⟩ (.int .u32 0)).setCell ⟨b2, 9, none⟩ (.string ⟨#[]⟩)).setCell ⟨b2, 10, none⟩ (.int .u8 0)).setCell ⟨b2, 11, none⟩ (.bool false)).setCell ⟨b2, 12, none⟩ (.slice none 0 0)).cell? ⟨b2, 5, none⟩ = some (.int .u64 (ap : Int)) := block_cell HI.out rfl
  have r6 : (((((((((((((Y2.setCell ⟨b2, 0, none⟩ (.int .i64 4)).setCell ⟨b2, 1, none⟩ (.int .u32 (c : Int))).setCell ⟨b2, 2, none⟩ (.int .u32 (n : Int))).setCell ⟨b2, 3, none⟩ (.int .u64 0)).setCell ⟨b2, 4, none⟩ (.int .u32 0)).setCell ⟨b2, 5, none⟩ (.int .u64 (ap : Int))).setCell ⟨b2, 6, none⟩ (.int .u32 (aq : Int))).setCell ⟨b2, 7, none⟩ (.int .u64 0)).setCell ⟨b2, 8, none⟩ (.int .u32 0)).setCell ⟨b2, 9, none⟩ (.string ⟨#[]⟩)).setCell ⟨b2, 10, none⟩ (.int .u8 0)).setCell ⟨b2, 11, none⟩ (.bool false)).setCell ⟨b2, 12, none⟩ (.slice none 0 0)).cell? ⟨b2, 6, none⟩ = some (.int .u32 (aq : Int)) := block_cell HI.out rfl
  have r7 : (((((((((((((Y2.setCell ⟨b2, 0, none⟩ (.int .i64 4)).setCell ⟨b2, 1, none⟩ (.int .u32 (c : Int))).setCell ⟨b2, 2, none⟩ (.int .u32 (n : Int))).setCell ⟨b2, 3, none⟩ (.int .u64 0)).setCell ⟨b2, 4, none⟩ (.int .u32 0)).setCell ⟨b2, 5, none⟩ (.int .u64 (ap : Int))).setCell ⟨b2, 6, none⟩ (.int .u32 (aq : Int))).setCell ⟨b2, 7, none⟩ (.int .u64 0)).setCell ⟨b2, 8, none⟩ (.int .u32 0)).setCell ⟨b2, 9, none⟩ (.string ⟨#[]⟩)).setCell ⟨b2, 10, none⟩ (.int .u8 0)).setCell ⟨b2, 11, none⟩ (.bool false)).setCell ⟨b2, 12, none⟩ (.slice none 0 0)).cell? ⟨b2, 7, none⟩ = some (.int .u64 0) := block_cell HI.out rfl
  have r8 : (((((((((((((Y2.setCell ⟨b2, 0, none⟩ (.int .i64 4)).setCell ⟨b2, 1, none⟩ (.int .u32 (c : Int))).setCell ⟨b2, 2, none⟩ (.int .u32 (n : Int))).setCell ⟨b2, 3, none⟩ (.int .u64 0)).setCell ⟨b2, 4, none⟩ (.int .u32 0)).setCell ⟨b2, 5, none⟩ (.int .u64 (ap : Int))).setCell ⟨b2, 6, none⟩ (.int .u32 (aq : Int))).setCell ⟨b2, 7, none⟩ (.int .u64 0)).setCell ⟨b2, 8, none⟩ (.int .u32 0)).setCell ⟨b2, 9, none⟩ (.string ⟨#[]⟩)).setCell ⟨b2, 10, none⟩ (.int .u8 0)).setCell ⟨b2, 11, none⟩ (.bool false)).setCell ⟨b2, 12, none⟩ (.slice none 0 0)).cell? ⟨b2, 8, none⟩ = some (.int .u32 0) := block_cell HI.out rfl
  have r9 : (((((((((((((Y2.setCell ⟨b2, 0, none⟩ (.int .i64 4)).setCell ⟨b2, 1, none⟩ (.int .u32 (c : Int))).setCell ⟨b2, 2, none⟩ (.int .u32 (n : Int))).setCell ⟨b2, 3, none⟩ (.int .u64 0)).setCell ⟨b2, 4, none⟩ (.int .u32 0)).setCell ⟨b2, 5, none⟩ (.int .u64 (ap : Int))).setCell ⟨b2, 6, none⟩ (.int .u32 (aq : Int))).setCell ⟨b2, 7, none⟩ (.int .u64 0)).setCell ⟨b2, 8, none⟩ (.int .u32 0)).setCell ⟨b2, 9, none⟩ (.string ⟨#[]⟩)).setCell ⟨b2, 10, none⟩ (.int .u8 0)).setCell ⟨b2, 11, none⟩ (.bool false)).setCell ⟨b2, 12, none⟩ (.slice none 0 0)).cell? ⟨b2, 9, none⟩ = some (.string ⟨#[]⟩) := block_cell HI.out rfl
  have r10 : (((((((((((((Y2.setCell ⟨b2, 0, none⟩ (.int .i64 4)).setCell ⟨b2, 1, none⟩ (.int .u32 (c : Int))).setCell ⟨b2, 2, none⟩ (.int .u32 (n : Int))).setCell ⟨b2, 3, none⟩ (.int .u64 0)).setCell ⟨b2, 4, none⟩ (.int .u32 0)).setCell ⟨b2, 5, none⟩ (.int .u64 (ap : Int))).setCell ⟨b2, 6, none⟩ (.int .u32 (aq : Int))).setCell ⟨b2, 7, none⟩ (.int .u64 0)).setCell ⟨b2, 8, none⟩ (.int .u32 0)).setCell ⟨b2, 9, none⟩ (.string ⟨#[]⟩)).setCell ⟨b2, 10, none⟩ (.int .u8 0)).setCell ⟨b2, 11, none⟩ (.bool false)).setCell ⟨b2, 12, none⟩ (.slice none 0 0)).cell? ⟨b2, 10, none⟩ = some (.int .u8 0) := block_cell HI.out rfl
  have r11 : (((((((((((((Y2.setCell ⟨b2, 0, none⟩ (.int .i64 4)).setCell ⟨b2, 1, none⟩ (.int .u32 (c : Int))).setCell ⟨b2, 2, none⟩ (.int .u32 (n : Int))).setCell ⟨b2, 3, none⟩ (.int .u64 0)).setCell ⟨b2, 4, none⟩ (.int .u32 0)).setCell ⟨b2, 5, none⟩ (.int .u64 (ap : Int))).setCell ⟨b2, 6, none⟩ (.int .u32 (aq : Int))).setCell ⟨b2, 7, none⟩ (.int .u64 0)).setCell ⟨b2, 8, none⟩ (.int .u32 0)).setCell ⟨b2, 9, none⟩ (.string ⟨#[]⟩)).setCell ⟨b2, 10, none⟩ (.int .u8 0)).setCell ⟨b2, 11, none⟩ (.bool false)).setCell ⟨b2, 12, none⟩ (.slice none 0 0)).cell? ⟨b2, 11, none⟩ = some (.bool false) := block_cell HI.out rfl
  have r12 : (((((((((((((Y2.setCell ⟨b2, 0, none⟩ (.int .i64 4)).setCell ⟨b2, 1, none⟩ (.int .u32 (c : Int))).setCell ⟨b2, 2, none⟩ (.int .u32 (n : Int))).setCell ⟨b2, 3, none⟩ (.int .u64 0)).setCell ⟨b2, 4, none⟩ (.int .u32 0)).setCell ⟨b2, 5, none⟩ (.int .u64 (ap : Int))).setCell ⟨b2, 6, none⟩ (.int .u32 (aq : Int))).setCell ⟨b2, 7, none⟩ (.int .u64 0)).setCell ⟨b2, 8, none⟩ (.int .u32 0)).setCell ⟨b2, 9, none⟩ (.string ⟨#[]⟩)).setCell ⟨b2, 10, none⟩ (.int .u8 0)).setCell ⟨b2, 11, none⟩ (.bool false)).setCell ⟨b2, 12, none⟩ (.slice none 0 0)).cell? ⟨b2, 12, none⟩ = some (.slice none 0 0) := block_cell HI.out rfl
  refine bodyPost_ret (v := .agg #[.int .i64 4, .int .u32 (c : Int), .int .u32 (n : Int), .int .u64 0, .int .u32 0, .int .u64 (ap : Int), .int .u32 (aq : Int), .int .u64 0, .int .u32 0, .string ⟨#[]⟩, .int .u8 0, .bool false, .slice none 0 0]) (by simp [results, Try.results45, go_sem, r0, r1, r2, r3, r4, r5, r6, r7, r8, r9, r10, r11, r12]) rfl ?_
  exact ⟨rfl, HBw.out⟩
end Go.Proofs.Ytmgjlpgjjeknpaa

namespace Go.Proofs.Ytmgjlpgjjeknpaa
open Go.RowKit

set_option maxHeartbeats 1600000 in
set_option maxRecDepth 100000 in
theorem bare44_2 (c n sp sl ap aq mp ml : Nat) (prim : List UInt8) (pt : Nat) (dn : Bool) (ao : Option Addr) (ln cp : Nat) (w : World) : Calls Try.prog 45 #[.agg #[.int .i64 2, .int .u32 (c : Int), .int .u32 (n : Int), .int .u64 (sp : Int), .int .u32 (sl : Int), .int .u64 (ap : Int), .int .u32 (aq : Int), .int .u64 (mp : Int), .int .u32 (ml : Int), .string (bs prim), .int .u8 (pt : Int), .bool dn, .slice ao ln cp]] w fun r w' => r = .returned (.agg #[.int .i64 2, .int .u32 (c : Int), .int .u32 (n : Int), .int .u64 (sp : Int), .int .u32 (sl : Int), .int .u64 0, .int .u32 0, .int .u64 (mp : Int), .int .u32 (ml : Int), .string (bs prim), .int .u8 0, .bool false, .slice ao ln cp]) ∧ Below w.heap.size w w' := by
  have HZ : Hid _ := bz_new (w := w) #[.int .i64 2, .int .u32 (c : Int), .int .u32 (n : Int), .int .u64 (sp : Int), .int .u32 (sl : Int), .int .u64 (ap : Int), .int .u32 (aq : Int), .int .u64 (mp : Int), .int .u32 (ml : Int), .string (bs prim), .int .u8 (pt : Int), .bool dn, .slice ao ln cp] #[.int .i64 2, .int .u32 0, .int .u32 0, .int .u64 0, .int .u32 0, .int .u64 0, .int .u32 0, .int .u64 0, .int .u32 0, .string ⟨#[]⟩, .int .u8 0, .bool false, .slice none 0 0]
  go_enter Try.func45, Try.ntmps45
  go_upto_region 3 with fail
  obtain ⟨Y0, hY⟩ : ∃ Y0, ((w.alloc (.cells #[.int .i64 2, .int .u32 (c : Int), .int .u32 (n : Int), .int .u64 (sp : Int), .int .u32 (sl : Int), .int .u64 (ap : Int), .int .u32 (aq : Int), .int .u64 (mp : Int), .int .u32 (ml : Int), .string (bs prim), .int .u8 (pt : Int), .bool dn, .slice ao ln cp] 30)).alloc (.cells #[.int .i64 0, .int .u32 0, .int .u32 0, .int .u64 0, .int .u32 0, .int .u64 0, .int .u32 0, .int .u64 0, .int .u32 0, .string ⟨#[]⟩, .int .u8 0, .bool false, .slice none 0 0] 30)).alloc (.cells #[.int .i64 2, .int .u32 0, .int .u32 0, .int .u64 0, .int .u32 0, .int .u64 0, .int .u32 0, .int .u64 0, .int .u32 0, .string ⟨#[]⟩, .int .u8 0, .bool false, .slice none 0 0] 30) = Y0 := ⟨_, rfl⟩
  rw [hY] at HZ ⊢
  clear hY
  obtain ⟨b2, hb2⟩ : ∃ b2, w.heap.size + 1 = b2 := ⟨_, rfl⟩
  obtain ⟨b3, hb3⟩ : ∃ b3, b2 + 1 = b3 := ⟨_, rfl⟩
  obtain ⟨b1, hb1⟩ : ∃ b1, w.heap.size = b1 := ⟨_, rfl⟩
  rw [hb2, hb3] at HZ ⊢
  have HZ : Hid (Bz w b1 b2 b3 #[.int .i64 2, .int .u32 (c : Int), .int .u32 (n : Int), .int .u64 (sp : Int), .int .u32 (sl : Int), .int .u64 (ap : Int), .int .u32 (aq : Int), .int .u64 (mp : Int), .int .u32 (ml : Int), .string (bs prim), .int .u8 (pt : Int), .bool dn, .slice ao ln cp] #[.int .i64 2, .int .u32 0, .int .u32 0, .int .u64 0, .int .u32 0, .int .u64 0, .int .u32 0, .int .u64 0, .int .u32 0, .string ⟨#[]⟩, .int .u8 0, .bool false, .slice none 0 0] Y0) := by rw [← hb1]; exact HZ.out
  rw [hb1]
  clear hb1 hb2 hb3
  have p0 : Y0.cell? ⟨b1, 0, none⟩ = some (.int .i64 2) := block_cell HZ.out.x1 rfl
  have p1 : Y0.cell? ⟨b1, 1, none⟩ = some (.int .u32 (c : Int)) := block_cell HZ.out.x1 rfl
  have q1 : Y0.cell? ⟨b3, 1, none⟩ = some (.int .u32 0) := block_cell HZ.out.x3 rfl
  have f1 : Y0.frozen? ⟨b3, 1, none⟩ = false := block_frozen HZ.out.x3 1
  have p2 : Y0.cell? ⟨b1, 2, none⟩ = some (.int .u32 (n : Int)) := block_cell HZ.out.x1 rfl
  have q2 : Y0.cell? ⟨b3, 2, none⟩ = some (.int .u32 0) := block_cell HZ.out.x3 rfl
  have f2 : Y0.frozen? ⟨b3, 2, none⟩ = false := block_frozen HZ.out.x3 2
  obtain ⟨Y1, hY⟩ : ∃ Y1, ((Y0.setCell ⟨b3, 1, none⟩ (.int .u32 (c : Int))).setCell ⟨b3, 2, none⟩ (.int .u32 (n : Int))) = Y1 := ⟨_, rfl⟩
  have HZ2 : Hid (Bz w b1 b2 b3 #[.int .i64 2, .int .u32 (c : Int), .int .u32 (n : Int), .int .u64 (sp : Int), .int .u32 (sl : Int), .int .u64 (ap : Int), .int .u32 (aq : Int), .int .u64 (mp : Int), .int .u32 (ml : Int), .string (bs prim), .int .u8 (pt : Int), .bool dn, .slice ao ln cp] #[.int .i64 2, .int .u32 (c : Int), .int .u32 (n : Int), .int .u64 0, .int .u32 0, .int .u64 0, .int .u32 0, .int .u64 0, .int .u32 0, .string ⟨#[]⟩, .int .u8 0, .bool false, .slice none 0 0] Y1) := by rw [← hY]; exact ((HZ.out.st 1 (.int .u32 (c : Int))).st 2 (.int .u32 (n : Int)))
  have g0 : Y1.cell? ⟨b1, 0, none⟩ = some (.int .i64 2) := block_cell HZ2.out.x1 rfl
  go_upto_region 10 with fail
  clear p0 g0 hY HZ p1 q1 f1 p2 q2 f2
  have HZ : Hid _ := HZ2.out
  clear HZ2
  have p0 : Y1.cell? ⟨b1, 0, none⟩ = some (.int .i64 2) := block_cell HZ.out.x1 rfl
  have p3 : Y1.cell? ⟨b1, 3, none⟩ = some (.int .u64 (sp : Int)) := block_cell HZ.out.x1 rfl
  have q3 : Y1.cell? ⟨b3, 3, none⟩ = some (.int .u64 0) := block_cell HZ.out.x3 rfl
  have f3 : Y1.frozen? ⟨b3, 3, none⟩ = false := block_frozen HZ.out.x3 3
  have p4 : Y1.cell? ⟨b1, 4, none⟩ = some (.int .u32 (sl : Int)) := block_cell HZ.out.x1 rfl
  have q4 : Y1.cell? ⟨b3, 4, none⟩ = some (.int .u32 0) := block_cell HZ.out.x3 rfl
  have f4 : Y1.frozen? ⟨b3, 4, none⟩ = false := block_frozen HZ.out.x3 4
  obtain ⟨Y2, hY⟩ : ∃ Y2, ((Y1.setCell ⟨b3, 3, none⟩ (.int .u64 (sp : Int))).setCell ⟨b3, 4, none⟩ (.int .u32 (sl : Int))) = Y2 := ⟨_, rfl⟩
  have HZ2 : Hid (Bz w b1 b2 b3 #[.int .i64 2, .int .u32 (c : Int), .int .u32 (n : Int), .int .u64 (sp : Int), .int .u32 (sl : Int), .int .u64 (ap : Int), .int .u32 (aq : Int), .int .u64 (mp : Int), .int .u32 (ml : Int), .string (bs prim), .int .u8 (pt : Int), .bool dn, .slice ao ln cp] #[.int .i64 2, .int .u32 (c : Int), .int .u32 (n : Int), .int .u64 (sp : Int), .int .u32 (sl : Int), .int .u64 0, .int .u32 0, .int .u64 0, .int .u32 0, .string ⟨#[]⟩, .int .u8 0, .bool false, .slice none 0 0] Y2) := by rw [← hY]; exact ((HZ.out.st 3 (.int .u64 (sp : Int))).st 4 (.int .u32 (sl : Int)))
  have g0 : Y2.cell? ⟨b1, 0, none⟩ = some (.int .i64 2) := block_cell HZ2.out.x1 rfl
  go_upto_region 11 with fail
  clear p0 g0 hY HZ p3 q3 f3 p4 q4 f4
  have HZ : Hid _ := HZ2.out
  clear HZ2
  have p0 : Y2.cell? ⟨b1, 0, none⟩ = some (.int .i64 2) := block_cell HZ.out.x1 rfl
  have p7 : Y2.cell? ⟨b1, 7, none⟩ = some (.int .u64 (mp : Int)) := block_cell HZ.out.x1 rfl
  have q7 : Y2.cell? ⟨b3, 7, none⟩ = some (.int .u64 0) := block_cell HZ.out.x3 rfl
  have f7 : Y2.frozen? ⟨b3, 7, none⟩ = false := block_frozen HZ.out.x3 7
  have p8 : Y2.cell? ⟨b1, 8, none⟩ = some (.int .u32 (ml : Int)) := block_cell HZ.out.x1 rfl
  have q8 : Y2.cell? ⟨b3, 8, none⟩ = some (.int .u32 0) := block_cell HZ.out.x3 rfl
  have f8 : Y2.frozen? ⟨b3, 8, none⟩ = false := block_frozen HZ.out.x3 8
  obtain ⟨Y3, hY⟩ : ∃ Y3, ((Y2.setCell ⟨b3, 7, none⟩ (.int .u64 (mp : Int))).setCell ⟨b3, 8, none⟩ (.int .u32 (ml : Int))) = Y3 := ⟨_, rfl⟩
  have HZ2 : Hid (Bz w b1 b2 b3 #[.int .i64 2, .int .u32 (c : Int), .int .u32 (n : Int), .int .u64 (sp : Int), .int .u32 (sl : Int), .int .u64 (ap : Int), .int .u32 (aq : Int), .int .u64 (mp : Int), .int .u32 (ml : Int), .string (bs prim), .int .u8 (pt : Int), .bool dn, .slice ao ln cp] #[.int .i64 2, .int .u32 (c : Int), .int .u32 (n : Int), .int .u64 (sp : Int), .int .u32 (sl : Int), .int .u64 0, .int .u32 0, .int .u64 (mp : Int), .int .u32 (ml : Int), .string ⟨#[]⟩, .int .u8 0, .bool false, .slice none 0 0] Y3) := by rw [← hY]; exact ((HZ.out.st 7 (.int .u64 (mp : Int))).st 8 (.int .u32 (ml : Int)))
  have g0 : Y3.cell? ⟨b1, 0, none⟩ = some (.int .i64 2) := block_cell HZ2.out.x1 rfl
  go_upto_region 12 with fail
  clear p0 g0 hY HZ p7 q7 f7 p8 q8 f8
  have HZ : Hid _ := HZ2.out
  clear HZ2
  have p0 : Y3.cell? ⟨b1, 0, none⟩ = some (.int .i64 2) := block_cell HZ.out.x1 rfl
  have p9 : Y3.cell? ⟨b1, 9, none⟩ = some (.string (bs prim)) := block_cell HZ.out.x1 rfl
  have q9 : Y3.cell? ⟨b3, 9, none⟩ = some (.string ⟨#[]⟩) := block_cell HZ.out.x3 rfl
  have f9 : Y3.frozen? ⟨b3, 9, none⟩ = false := block_frozen HZ.out.x3 9
  obtain ⟨Y4, hY⟩ : ∃ Y4, (Y3.setCell ⟨b3, 9, none⟩ (.string (bs prim))) = Y4 := ⟨_, rfl⟩
  have HZ2 : Hid (Bz w b1 b2 b3 #[.int .i64 2, .int .u32 (c : Int), .int .u32 (n : Int), .int .u64 (sp : Int), .int .u32 (sl : Int), .int .u64 (ap : Int), .int .u32 (aq : Int), .int .u64 (mp : Int), .int .u32 (ml : Int), .string (bs prim), .int .u8 (pt : Int), .bool dn, .slice ao ln cp] #[.int .i64 2, .int .u32 (c : Int), .int .u32 (n : Int), .int .u64 (sp : Int), .int .u32 (sl : Int), .int .u64 0, .int .u32 0, .int .u64 (mp : Int), .int .u32 (ml : Int), .string (bs prim), .int .u8 0, .bool false, .slice none 0 0] Y4) := by rw [← hY]; exact (HZ.out.st 9 (.string (bs prim)))
  have g0 : Y4.cell? ⟨b1, 0, none⟩ = some (.int .i64 2) := block_cell HZ2.out.x1 rfl
  go_upto_region 13 with fail
  clear p0 g0 hY HZ p9 q9 f9
  have HZ : Hid _ := HZ2.out
  clear HZ2
  have p0 : Y4.cell? ⟨b1, 0, none⟩ = some (.int .i64 2) := block_cell HZ.out.x1 rfl
  have p12 : Y4.cell? ⟨b1, 12, none⟩ = some (.slice ao ln cp) := block_cell HZ.out.x1 rfl
  have q12 : Y4.cell? ⟨b3, 12, none⟩ = some (.slice none 0 0) := block_cell HZ.out.x3 rfl
  have f12 : Y4.frozen? ⟨b3, 12, none⟩ = false := block_frozen HZ.out.x3 12
  obtain ⟨Y5, hY⟩ : ∃ Y5, (Y4.setCell ⟨b3, 12, none⟩ (.slice ao ln cp)) = Y5 := ⟨_, rfl⟩
  have HZ2 : Hid (Bz w b1 b2 b3 #[.int .i64 2, .int .u32 (c : Int), .int .u32 (n : Int), .int .u64 (sp : Int), .int .u32 (sl : Int), .int .u64 (ap : Int), .int .u32 (aq : Int), .int .u64 (mp : Int), .int .u32 (ml : Int), .string (bs prim), .int .u8 (pt : Int), .bool dn, .slice ao ln cp] #[.int .i64 2, .int .u32 (c : Int), .int .u32 (n : Int), .int .u64 (sp : Int), .int .u32 (sl : Int), .int .u64 0, .int .u32 0, .int .u64 (mp : Int), .int .u32 (ml : Int), .string (bs prim), .int .u8 0, .bool false, .slice ao ln cp] Y5) := by rw [← hY]; exact (HZ.out.st 12 (.slice ao ln cp))
  have g0 : Y5.cell? ⟨b1, 0, none⟩ = some (.int .i64 2) := block_cell HZ2.out.x1 rfl
  go_upto_region 28 with fail
  clear p0 g0 hY HZ p12 q12 f12
  have HZ : Hid _ := HZ2.out
  clear HZ2
  have x0 : Y5.cell? ⟨b3, 0, none⟩ = some (.int .i64 2) := block_cell HZ.out.x3 rfl
  have x1 : Y5.cell? ⟨b3, 1, none⟩ = some (.int .u32 (c : Int)) := block_cell HZ.out.x3 rfl
  have x2 : Y5.cell? ⟨b3, 2, none⟩ = some (.int .u32 (n : Int)) := block_cell HZ.out.x3 rfl
  have x3 : Y5.cell? ⟨b3, 3, none⟩ = some (.int .u64 (sp : Int)) := block_cell HZ.out.x3 rfl
  have x4 : Y5.cell? ⟨b3, 4, none⟩ = some (.int .u32 (sl : Int)) := block_cell HZ.out.x3 rfl
  have x5 : Y5.cell? ⟨b3, 5, none⟩ = some (.int .u64 0) := block_cell HZ.out.x3 rfl
  have x6 : Y5.cell? ⟨b3, 6, none⟩ = some (.int .u32 0) := block_cell HZ.out.x3 rfl
  have x7 : Y5.cell? ⟨b3, 7, none⟩ = some (.int .u64 (mp : Int)) := block_cell HZ.out.x3 rfl
  have x8 : Y5.cell? ⟨b3, 8, none⟩ = some (.int .u32 (ml : Int)) := block_cell HZ.out.x3 rfl
  have x9 : Y5.cell? ⟨b3, 9, none⟩ = some (.string (bs prim)) := block_cell HZ.out.x3 rfl
  have x10 : Y5.cell? ⟨b3, 10, none⟩ = some (.int .u8 0) := block_cell HZ.out.x3 rfl
  have x11 : Y5.cell? ⟨b3, 11, none⟩ = some (.bool false) := block_cell HZ.out.x3 rfl
  have x12 : Y5.cell? ⟨b3, 12, none⟩ = some (.slice ao ln cp) := block_cell HZ.out.x3 rfl
  have y0 : Y5.cell? ⟨b2, 0, none⟩ = some (.int .i64 0) := block_cell HZ.out.x2 rfl
  have y1 : Y5.cell? ⟨b2, 1, none⟩ = some (.int .u32 0) := block_cell HZ.out.x2 rfl
  have y2 : Y5.cell? ⟨b2, 2, none⟩ = some (.int .u32 0) := block_cell HZ.out.x2 rfl
  have y3 : Y5.cell? ⟨b2, 3, none⟩ = some (.int .u64 0) := block_cell HZ.out.x2 rfl
  have y4 : Y5.cell? ⟨b2, 4, none⟩ = some (.int .u32 0) := block_cell HZ.out.x2 rfl
  have y5 : Y5.cell? ⟨b2, 5, none⟩ = some (.int .u64 0) := block_cell HZ.out.x2 rfl
  have y6 : Y5.cell? ⟨b2, 6, none⟩ = some (.int .u32 0) := block_cell HZ.out.x2 rfl
  have y7 : Y5.cell? ⟨b2, 7, none⟩ = some (.int .u64 0) := block_cell HZ.out.x2 rfl
  have y8 : Y5.cell? ⟨b2, 8, none⟩ = some (.int .u32 0) := block_cell HZ.out.x2 rfl
  have y9 : Y5.cell? ⟨b2, 9, none⟩ = some (.string ⟨#[]⟩) := block_cell HZ.out.x2 rfl
  have y10 : Y5.cell? ⟨b2, 10, none⟩ = some (.int .u8 0) := block_cell HZ.out.x2 rfl
  have y11 : Y5.cell? ⟨b2, 11, none⟩ = some (.bool false) := block_cell HZ.out.x2 rfl
  have y12 : Y5.cell? ⟨b2, 12, none⟩ = some (.slice none 0 0) := block_cell HZ.out.x2 rfl
  have z0 : Y5.frozen? ⟨b2, 0, none⟩ = false := block_frozen HZ.out.x2 0
  have z1 : Y5.frozen? ⟨b2, 1, none⟩ = false := block_frozen HZ.out.x2 1
  have z2 : Y5.frozen? ⟨b2, 2, none⟩ = false := block_frozen HZ.out.x2 2
  have z3 : Y5.frozen? ⟨b2, 3, none⟩ = false := block_frozen HZ.out.x2 3
  have z4 : Y5.frozen? ⟨b2, 4, none⟩ = false := block_frozen HZ.out.x2 4
  have z5 : Y5.frozen? ⟨b2, 5, none⟩ = false := block_frozen HZ.out.x2 5
  have z6 : Y5.frozen? ⟨b2, 6, none⟩ = false := block_frozen HZ.out.x2 6
  have z7 : Y5.frozen? ⟨b2, 7, none⟩ = false := block_frozen HZ.out.x2 7
  have z8 : Y5.frozen? ⟨b2, 8, none⟩ = false := block_frozen HZ.out.x2 8
  have z9 : Y5.frozen? ⟨b2, 9, none⟩ = false := block_frozen HZ.out.x2 9
  have z10 : Y5.frozen? ⟨b2, 10, none⟩ = false := block_frozen HZ.out.x2 10
  have z11 : Y5.frozen? ⟨b2, 11, none⟩ = false := block_frozen HZ.out.x2 11
  have z12 : Y5.frozen? ⟨b2, 12, none⟩ = false := block_frozen HZ.out.x2 12
  have HI : Hid _ := bx13 (.int .i64 2) (.int .u32 (c : Int)) (.int .u32 (n : Int)) (.int .u64 (sp : Int)) (.int .u32 (sl : Int)) (.int .u64 0) (.int .u32 0) (.int .u64 (mp : Int)) (.int .u32 (ml : Int)) (.string (bs prim)) (.int .u8 0) (.bool false) (.slice ao ln cp) HZ.out.x2
  have HBw : Hid _ := bx13_below (.int .i64 2) (.int .u32 (c : Int)) (.int .u32 (n : Int)) (.int .u64 (sp : Int)) (.int .u32 (sl : Int)) (.int .u64 0) (.int .u32 0) (.int .u64 (mp : Int)) (.int .u32 (ml : Int)) (.string (bs prim)) (.int .u8 0) (.bool false) (.slice ao ln cp) HZ.out.bel HZ.out.l2
  clear HZ
  go_wp2_with fail
  have r0 : (((((((((((((Y5.setCell ⟨b2, 0, none⟩ (.int .i64 2)).setCell ⟨b2, 1, none⟩ (.int .u32 (c : Int))).setCell ⟨b2, 2, none⟩ (.int .u32 (n : Int))).setCell ⟨b2, 3, none⟩ (.int .u64 (sp : Int))).setCell ⟨b2, 4, none⟩ (.int .u32 (sl : Int))).setCell ⟨b2, 5, none⟩ (.int .u64 0)).setCell ⟨b2, 6, none⟩ (.int .u32 0)).setCell ⟨b2, 7, none⟩ (.int .u64 (mp : Int))).setCell ⟨b2, 8, none⟩ (.int .u32 (ml : Int))).setCell ⟨b2, 9, none⟩ (.string (bs prim))).setCell ⟨b2, 10, none⟩ (.int .u8 0)).setCell ⟨b2, 11, none⟩ (.bool false)).setCell ⟨b2, 12, none⟩ (.slice ao ln cp)).cell? ⟨b2, 0, none⟩ = some (.int .i64 2) := block_cell HI.out rfl
  have r1 : (((((((((((((Y5.setCell ⟨b2, 0, none⟩ (.int .i64 2)).setCell ⟨b2, 1, none⟩ (.int .u32 (c : Int))).setCell ⟨b2, 2, none⟩ (.int .u32 (n : Int))).setCell ⟨b2, 3, none⟩ (.int .u64 (sp : Int))).setCell ⟨b2, 4, none⟩ (.int .u32 (sl : Int))).setCell ⟨b2, 5, none⟩ (.int .u64 0)).setCell ⟨b2, 6, none⟩ (.int .u32 0)).setCell ⟨b2, 7, none⟩ (.int .u64 (mp : Int))).setCell ⟨b2, 8, none⟩ (.int .u32 (ml : Int))).setCell ⟨b2, 9, none⟩ (.string (bs prim))).setCell ⟨b2, 10, none⟩ (.int .u8 0)).setCell ⟨b2, 11, none⟩ (.bool false)).setCell ⟨b2, 12, none⟩ (.slice ao ln cp)).cell? ⟨b2, 1, none⟩ = some (.int .u32 (c : Int)) := block_cell HI.out rfl
  have r2 : (((((((((((((Y5.setCell ⟨b2, 0, none⟩ (.int .i64 2)).setCell ⟨b2, 1, none⟩ (.int .u32 (c : Int))).setCell ⟨b2, 2, none⟩ (.int .u32 (n : Int))).setCell ⟨b2, 3, none⟩ (.int .u64 (sp : Int))).setCell ⟨b2, 4, none⟩ (.int .u32 (sl : Int))).setCell ⟨b2, 5, none⟩ (.int .u64 0)).setCell ⟨b2, 6, none⟩ (.int .u32 0)).setCell ⟨b2, 7, none⟩ (.int .u64 (mp : Int))).setCell ⟨b2, 8, none⟩ (.int .u32 (ml : Int))).setCell ⟨b2, 9, none⟩ (.string (bs prim))).setCell ⟨b2, 10, none⟩ (.int .u8 0)).setCell ⟨b2, 11, none⟩ (.bool false)).setCell ⟨b2, 12, none⟩ (.slice ao ln cp)).cell? ⟨b2, 2, none⟩ = some (.int .u32 (n : Int)) := block_cell HI.out rfl
  have r3 : (((((((((((((Y5.setCell ⟨b2, 0, none⟩ (.int .i64 2)).setCell ⟨b2, 1, none⟩ (.int .u32 (c : Int))).setCell ⟨b2, 2, none⟩ (.int .u32 (n : Int))).setCell ⟨b2, 3, none⟩ (.int .u64 (sp : Int))).setCell ⟨b2, 4, none⟩ (.int .u32 (sl : Int))).setCell ⟨b2, 5, none⟩ (.int .u64 0)).setCell ⟨b2, 6, none⟩ (.int .u32 0)).setCell ⟨b2, 7, none⟩ (.int .u64 (mp : Int))).setCell ⟨b2, 8, none⟩ (.int .u32 (ml : Int))).setCell ⟨b2, 9, none⟩ (.string (bs prim))).setCell ⟨b2, 10, none⟩ (.int .u8 0)).setCell ⟨b2, 11, none⟩ (.bool false)).setCell ⟨b2, 12, none⟩ (.slice ao ln cp)).cell? ⟨b2, 3, none⟩ = some (.int .u64 (sp : Int)) := block_cell HI.out rfl
  have r4 : (((((((((((((Y5.setCell ⟨b2, 0, none⟩ (.int .i64 2)).setCell ⟨b2, 1, none⟩ (.int .u32 (c : Int))).setCell ⟨b2, 2, none⟩ (.int .u32 (n : Int))).setCell ⟨b2, 3, none⟩ (.int .u64 (sp : Int))).setCell ⟨b2, 4, none⟩ (.int .u32 (sl : Int))).setCell ⟨b2, 5, none⟩ (.int .u64 0)).setCell ⟨b2, 6, none⟩ (.int .u32 0)).setCell ⟨b2, 7, none⟩ (.int .u64 (mp : Int))).setCell ⟨b2, 8, none⟩ (.int .u32 (ml : Int))).setCell ⟨b2, 9, none⟩ (.string (bs prim))).setCell ⟨b2, 10, none⟩ (.int .u8 0)).setCell ⟨b2, 11, none⟩ (.bool false)).setCell ⟨b2, 12, none⟩ (.slice ao ln cp)).cell? ⟨b2, 4, none⟩ = some (.int .u32 (sl : Int)) := block_cell HI.out rfl
  have r5 : (((((((((((((Y5.setCell ⟨b2, 0, none⟩ (.int .i64 2)).setCell ⟨b2, 1, none⟩ (.int .u32 (c : Int))).setCell ⟨b2, 2, none⟩ (.int .u32 (n : Int))).setCell ⟨b2, 3, none⟩ (.int .u64 (sp : Int))).setCell ⟨b2, 4, none⟩ (.int .u32 (sl : Int))).setCell ⟨b2, 5, none⟩ (.int .u64 0)).setCell ⟨b2, 6, none⟩ (.int .u32 0)).setCell ⟨b2, 7, none⟩ (.int .u64 (mp : Int))).setCell ⟨b2, 8, none⟩ (.int .u32 (ml : Int))).setCell ⟨b2, 9, none⟩ (.string (bs prim))).setCell ⟨b2, 10, none⟩ (.int .u8 0)).setCell ⟨b2, 11, none⟩ (.bool false)).setCell ⟨b2, 12, none⟩ (.slice ao ln cp)).cell? ⟨b2, 5, none⟩ = some (.int .u64 0) := block_cell HI.out rfl
  have r6 : (((((((((((((Y5.setCell ⟨b2, 0, none⟩ (.int .i64 2)).setCell ⟨b2, 1, none⟩ (.int .u32 (c : Int))).setCell ⟨b2, 2, none⟩ (.int .u32 (n : Int))).setCell ⟨b2, 3, none⟩ (.int .u64 (sp : Int))).setCell ⟨b2, 4, none⟩ (.int .u32 (sl : Int))).setCell ⟨b2, 5, none⟩ (.int .u64 0)).setCell ⟨b2, 6, none⟩ (.int .u32 0)).setCell ⟨b2, 7, none⟩ (.int .u64 (mp : Int))).setCell ⟨b2, 8, none⟩ (.int .u32 (ml : Int))).setCell ⟨b2, 9, none⟩ (.string (bs prim))).setCell ⟨b2, 10, none⟩ (.int .u8 0)).setCell ⟨b2, 11, none⟩ (.bool false)).setCell ⟨b2, 12, none⟩ (.slice ao ln cp)).cell? ⟨b2, 6, none⟩ = some (.int .u32 0) := block_cell HI.out rfl
  have r7 : (((((((((((((Y5.setCell ⟨b2, 0, none⟩ (.int .i64 2)).setCell ⟨b2, 1, none⟩ (.int .u32 (c : Int))).setCell ⟨b2, 2, none⟩ (.int .u32 (n : Int))).setCell ⟨b2, 3, none⟩ (.int .u64 (sp : Int))).setCell ⟨b2, 4, none⟩ (.int .u32 (sl : Int))).setCell ⟨b2, 5, none⟩ (.int .u64 0)).setCell ⟨b2, 6, none⟩ (.int .u32 0)).setCell ⟨b2, 7, none⟩ (.int .u64 (mp : Int))).setCell ⟨b2, 8, none⟩ (.int .u32 (ml : Int))).setCell ⟨b2, 9, none⟩ (.string (bs prim))).setCell ⟨b2, 10, none⟩ (.int .u8 0)).setCell ⟨b2, 11, none⟩ (.bool false)).setCell ⟨b2, 12, none⟩ (.slice ao ln cp)).cell? ⟨b2, 7, none⟩ = some (.int .u64 (mp : Int)) := block_cell HI.out rfl
  have r8 : (((((((((((((Y5.setCell ⟨b2, 0, none⟩ (.int .i64 2)).setCell ⟨b2, 1, none⟩ (.int .u32 (c : Int))).setCell ⟨b2, 2, none⟩ (.int .u32 (n : Int))).setCell ⟨b2, 3, none⟩ (.int .u64 (sp : Int))).setCell ⟨b2, 4, none⟩ (.int .u32 (sl : Int))).setCell ⟨b2, 5, none⟩ (.int .u64 0)).setCell ⟨b2, 6, none⟩ (.int .u32 0)).setCell ⟨b2, 7, none⟩ (.int .u64 (mp : Int))).setCell ⟨b2, 8, none⟩ (.int .u32 (ml : Int))).setCell ⟨b2, 9, none⟩ (.string (bs prim))).setCell ⟨b2, 10, none⟩ (.int .u8 0)).setCell ⟨b2, 11, none⟩ (.bool false)).setCell ⟨b2, 12, none⟩ (.slice ao ln cp)).cell? ⟨b2, 8, none⟩ = some (.int .u32 (ml : Int)) := block_cell HI.out rfl
  have r9 : (((((((((((((Y5.setCell ⟨b2, 0, none⟩ (.int .i64 2)).setCell ⟨b2, 1, none⟩ (.int .u32 (c : Int))).setCell ⟨b2, 2, none⟩ (.int .u32 (n : Int))).setCell ⟨b2, 3, none⟩ (.int .u64 (sp : Int))).setCell ⟨b2, 4, none⟩ (.int .u32 (sl : Int))).setCell ⟨b2, 5, none⟩ (.int .u64 0)).setCell ⟨b2, 6, none⟩ (.int .u32 0)).setCell ⟨b2, 7, none⟩ (.int .u64 (mp : Int))).setCell ⟨b2, 8, none⟩ (.int .u32 (ml : Int))).setCell ⟨b2, 9, none⟩ (.string (bs prim))).setCell ⟨b2, 10, none⟩ (.int .u8 0)).setCell ⟨b2, 11, none⟩ (.bool false)).setCell ⟨b2, 12, none⟩ (.slice ao ln cp)).cell? ⟨b2, 9, none⟩ = some (.string (bs prim)) := block_cell HI.out rfl
  have r10 : (((((((((((((Y5.setCell ⟨b2, 0, none⟩ (.int .i64 2)).setCell ⟨b2, 1, none⟩ (.int .u32 (c : Int))).setCell ⟨b2, 2, none⟩ (.int .u32 (n : Int))).setCell ⟨b2, 3, none⟩ (.int .u64 (sp : Int))).setCell ⟨b2, 4, none⟩ (.int .u32 (sl : Int))).setCell ⟨b2, 5, none⟩ (.int .u64 0)).setCell ⟨b2, 6, none⟩ (.int .u32 0)).setCell ⟨b2, 7, none⟩ (.int .u64 (mp : Int))).setCell ⟨b2, 8, none⟩ (.int .u32 (ml : Int))).setCell ⟨b2, 9, none⟩ (.string (bs prim))).setCell ⟨b2, 10, none⟩ (.int .u8 0)).setCell ⟨b2, 11, none⟩ (.bool false)).setCell ⟨b2, 12, none⟩ (.slice ao ln cp)).cell? ⟨b2, 10, none⟩ = some (.int .u8 0) := block_cell HI.out rfl
  have r11 : (((((((((((((Y5.setCell ⟨b2, 0, none⟩ (.int .i64 2)).setCell ⟨b2, 1, none⟩ (.int .u32 (c : Int))).setCell ⟨b2, 2, none⟩ (.int .u32 (n : Int))).setCell ⟨b2, 3, none⟩ (.int .u64 (sp : Int))).setCell ⟨b2, 4, none⟩ (.int .u32 (sl : Int))).setCell ⟨b2, 5, none⟩ (.int .u64 0)).setCell ⟨b2, 6, none⟩ (.int .u32 0)).setCell ⟨b2, 7, none⟩ (.int .u64 (mp : Int))).setCell ⟨b2, 8, none⟩ (.int .u32 (ml : Int))).setCell ⟨b2, 9, none⟩ (.string (bs prim))).setCell ⟨b2, 10, none⟩ (.int .u8 0)).setCell ⟨b2, 11, none⟩ (.bool false)).setCell ⟨b2, 12, none⟩ (.slice ao ln cp)).cell? ⟨b2, 11, none⟩ = some (.bool false) := block_cell HI.out rfl
  have r12 : (((((((((((((Y5.setCell ⟨b2, 0, none⟩ (.int .i64 2)).setCell ⟨b2, 1, none⟩ (.int .u32 (c : Int))).setCell ⟨b2, 2, none⟩ (.int .u32 (n : Int))).setCell ⟨b2, 3, none⟩ (.int .u64 (sp : Int))).setCell ⟨b2, 4, none⟩ (.int .u32 (sl : Int))).setCell ⟨b2, 5, none⟩ (.int .u64 0)).setCell ⟨b2, 6, none⟩ (.int .u32 0)).setCell ⟨b2, 7, none⟩ (.int .u64 (mp : Int))).setCell ⟨b2, 8, none⟩ (.int .u32 (ml : Int))).setCell ⟨b2, 9, none⟩ (.string (bs prim))).setCell ⟨b2, 10, none⟩ (.int .u8 0)).setCell ⟨b2, 11, none⟩ (.bool false)).setCell ⟨b2, 12, none⟩ (.slice ao ln cp)).cell? ⟨b2, 12, none⟩ = some (.slice ao ln cp) := block_cell HI.out rfl
  refine bodyPost_ret (v := .agg #[.int .i64 2, .int .u32 (c : Int), .int .u32 (n : Int), .int .u64 (sp : Int), .int .u32 (sl : Int), .int .u64 0, .int .u32 0, .int .u64 (mp : Int), .int .u32 (ml : Int), .string (bs prim), .int .u8 0, .bool false, .slice ao ln cp]) (by simp [results, Try.results45, go_sem, r0, r1, r2, r3, r4, r5, r6, r7, r8, r9, r10, r11, r12]) rfl ?_
  exact ⟨rfl, HBw.out⟩

set_option maxHeartbeats 1600000 in
set_option maxRecDepth 100000 in
theorem bare44_3 (c n sp sl ap aq mp ml : Nat) (prim : List UInt8) (pt : Nat) (dn : Bool) (ao : Option Addr) (ln cp : Nat) (w : World) : Calls Try.prog 45 #[.agg #[.int .i64 3, .int .u32 (c : Int), .int .u32 (n : Int), .int .u64 (sp : Int), .int .u32 (sl : Int), .int .u64 (ap : Int), .int .u32 (aq : Int), .int .u64 (mp : Int), .int .u32 (ml : Int), .string (bs prim), .int .u8 (pt : Int), .bool dn, .slice ao ln cp]] w fun r w' => r = .returned (.agg #[.int .i64 3, .int .u32 (c : Int), .int .u32 (n : Int), .int .u64 (sp : Int), .int .u32 (sl : Int), .int .u64 (ap : Int), .int .u32 (aq : Int), .int .u64 0, .int .u32 0, .string ⟨#[]⟩, .int .u8 (pt : Int), .bool false, .slice none 0 0]) ∧ Below w.heap.size w w' := by
  have HZ : Hid _ := bz_new (w := w) #[.int .i64 3, .int .u32 (c : Int), .int .u32 (n : Int), .int .u64 (sp : Int), .int .u32 (sl : Int), .int .u64 (ap : Int), .int .u32 (aq : Int), .int .u64 (mp : Int), .int .u32 (ml : Int), .string (bs prim), .int .u8 (pt : Int), .bool dn, .slice ao ln cp] #[.int .i64 3, .int .u32 0, .int .u32 0, .int .u64 0, .int .u32 0, .int .u64 0, .int .u32 0, .int .u64 0, .int .u32 0, .string ⟨#[]⟩, .int .u8 0, .bool false, .slice none 0 0]
  go_enter Try.func45, Try.ntmps45
  go_upto_region 3 with fail
  obtain ⟨Y0, hY⟩ : ∃ Y0, ((w.alloc (.cells #[.int .i64 3, .int .u32 (c : Int), .int .u32 (n : Int), .int .u64 (sp : Int), .int .u32 (sl : Int), .int .u64 (ap : Int), .int .u32 (aq : Int), .int .u64 (mp : Int), .int .u32 (ml : Int), .string (bs prim), .int .u8 (pt : Int), .bool dn, .slice ao ln cp] 30)).alloc (.cells #[.int .i64 0, .int .u32 0, .int .u32 0, .int .u64 0, .int .u32 0, .int .u64 0, .int .u32 0, .int .u64 0, .int .u32 0, .string ⟨#[]⟩, .int .u8 0, .bool false, .slice none 0 0] 30)).alloc (.cells #[.int .i64 3, .int .u32 0, .int .u32 0, .int .u64 0, .int .u32 0, .int .u64 0, .int .u32 0, .int .u64 0, .int .u32 0, .string ⟨#[]⟩, .int .u8 0, .bool false, .slice none 0 0] 30) = Y0 := ⟨_, rfl⟩
  rw [hY] at HZ ⊢
  clear hY
  obtain ⟨b2, hb2⟩ : ∃ b2, w.heap.size + 1 = b2 := ⟨_, rfl⟩
  obtain ⟨b3, hb3⟩ : ∃ b3, b2 + 1 = b3 := ⟨_, rfl⟩
  obtain ⟨b1, hb1⟩ : ∃ b1, w.heap.size = b1 := ⟨_, rfl⟩
  rw [hb2, hb3] at HZ ⊢
  have HZ : Hid (Bz w b1 b2 b3 #[.int .i64 3, .int .u32 (c : Int), .int .u32 (n : Int), .int .u64 (sp : Int), .int .u32 (sl : Int), .int .u64 (ap : Int), .int .u32 (aq : Int), .int .u64 (mp : Int), .int .u32 (ml : Int), .string (bs prim), .int .u8 (pt : Int), .bool dn, .slice ao ln cp] #[.int .i64 3, .int .u32 0, .int .u32 0, .int .u64 0, .int .u32 0, .int .u64 0, .int .u32 0, .int .u64 0, .int .u32 0, .string ⟨#[]⟩, .int .u8 0, .bool false, .slice none 0 0] Y0) := by rw [← hb1]; exact HZ.out
  rw [hb1]
  clear hb1 hb2 hb3
  have p0 : Y0.cell? ⟨b1, 0, none⟩ = some (.int .i64 3) := block_cell HZ.out.x1 rfl
  have p1 : Y0.cell? ⟨b1, 1, none⟩ = some (.int .u32 (c : Int)) := block_cell HZ.out.x1 rfl
  have q1 : Y0.cell? ⟨b3, 1, none⟩ = some (.int .u32 0) := block_cell HZ.out.x3 rfl
  have f1 : Y0.frozen? ⟨b3, 1, none⟩ = false := block_frozen HZ.out.x3 1
  have p2 : Y0.cell? ⟨b1, 2, none⟩ = some (.int .u32 (n : Int)) := block_cell HZ.out.x1 rfl
  have q2 : Y0.cell? ⟨b3, 2, none⟩ = some (.int .u32 0) := block_cell HZ.out.x3 rfl
  have f2 : Y0.frozen? ⟨b3, 2, none⟩ = false := block_frozen HZ.out.x3 2
  obtain ⟨Y1, hY⟩ : ∃ Y1, ((Y0.setCell ⟨b3, 1, none⟩ (.int .u32 (c : Int))).setCell ⟨b3, 2, none⟩ (.int .u32 (n : Int))) = Y1 := ⟨_, rfl⟩
  have HZ2 : Hid (Bz w b1 b2 b3 #[.int .i64 3, .int .u32 (c : Int), .int .u32 (n : Int), .int .u64 (sp : Int), .int .u32 (sl : Int), .int .u64 (ap : Int), .int .u32 (aq : Int), .int .u64 (mp : Int), .int .u32 (ml : Int), .string (bs prim), .int .u8 (pt : Int), .bool dn, .slice ao ln cp] #[.int .i64 3, .int .u32 (c : Int), .int .u32 (n : Int), .int .u64 0, .int .u32 0, .int .u64 0, .int .u32 0, .int .u64 0, .int .u32 0, .string ⟨#[]⟩, .int .u8 0, .bool false, .slice none 0 0] Y1) := by rw [← hY]; exact ((HZ.out.st 1 (.int .u32 (c : Int))).st 2 (.int .u32 (n : Int)))
  have g0 : Y1.cell? ⟨b1, 0, none⟩ = some (.int .i64 3) := block_cell HZ2.out.x1 rfl
  go_upto_region 15 with fail
  clear p0 g0 hY HZ p1 q1 f1 p2 q2 f2
  have HZ : Hid _ := HZ2.out
  clear HZ2
  have p0 : Y1.cell? ⟨b1, 0, none⟩ = some (.int .i64 3) := block_cell HZ.out.x1 rfl
  have p3 : Y1.cell? ⟨b1, 3, none⟩ = some (.int .u64 (sp : Int)) := block_cell HZ.out.x1 rfl
  have q3 : Y1.cell? ⟨b3, 3, none⟩ = some (.int .u64 0) := block_cell HZ.out.x3 rfl
  have f3 : Y1.frozen? ⟨b3, 3, none⟩ = false := block_frozen HZ.out.x3 3
  have p4 : Y1.cell? ⟨b1, 4, none⟩ = some (.int .u32 (sl : Int)) := block_cell HZ.out.x1 rfl
  have q4 : Y1.cell? ⟨b3, 4, none⟩ = some (.int .u32 0) := block_cell HZ.out.x3 rfl
  have f4 : Y1.frozen? ⟨b3, 4, none⟩ = false := block_frozen HZ.out.x3 4
  obtain ⟨Y2, hY⟩ : ∃ Y2, ((Y1.setCell ⟨b3, 3, none⟩ (.int .u64 (sp : Int))).setCell ⟨b3, 4, none⟩ (.int .u32 (sl : Int))) = Y2 := ⟨_, rfl⟩
  have HZ2 : Hid (Bz w b1 b2 b3 #[.int .i64 3, .int .u32 (c : Int), .int .u32 (n : Int), .int .u64 (sp : Int), .int .u32 (sl : Int), .int .u64 (ap : Int), .int .u32 (aq : Int), .int .u64 (mp : Int), .int .u32 (ml : Int), .string (bs prim), .int .u8 (pt : Int), .bool dn, .slice ao ln cp] #[.int .i64 3, .int .u32 (c : Int), .int .u32 (n : Int), .int .u64 (sp : Int), .int .u32 (sl : Int), .int .u64 0, .int .u32 0, .int .u64 0, .int .u32 0, .string ⟨#[]⟩, .int .u8 0, .bool false, .slice none 0 0] Y2) := by rw [← hY]; exact ((HZ.out.st 3 (.int .u64 (sp : Int))).st 4 (.int .u32 (sl : Int)))
  have g0 : Y2.cell? ⟨b1, 0, none⟩ = some (.int .i64 3) := block_cell HZ2.out.x1 rfl
  go_upto_region 16 with fail
  clear p0 g0 hY HZ p3 q3 f3 p4 q4 f4
  have HZ : Hid _ := HZ2.out
  clear HZ2
  have p0 : Y2.cell? ⟨b1, 0, none⟩ = some (.int .i64 3) := block_cell HZ.out.x1 rfl
  have p5 : Y2.cell? ⟨b1, 5, none⟩ = some (.int .u64 (ap : Int)) := block_cell HZ.out.x1 rfl
  have q5 : Y2.cell? ⟨b3, 5, none⟩ = some (.int .u64 0) := block_cell HZ.out.x3 rfl
  have f5 : Y2.frozen? ⟨b3, 5, none⟩ = false := block_frozen HZ.out.x3 5
  have p6 : Y2.cell? ⟨b1, 6, none⟩ = some (.int .u32 (aq : Int)) := block_cell HZ.out.x1 rfl
  have q6 : Y2.cell? ⟨b3, 6, none⟩ = some (.int .u32 0) := block_cell HZ.out.x3 rfl
  have f6 : Y2.frozen? ⟨b3, 6, none⟩ = false := block_frozen HZ.out.x3 6
  obtain ⟨Y3, hY⟩ : ∃ Y3, ((Y2.setCell ⟨b3, 5, none⟩ (.int .u64 (ap : Int))).setCell ⟨b3, 6, none⟩ (.int .u32 (aq : Int))) = Y3 := ⟨_, rfl⟩
  have HZ2 : Hid (Bz w b1 b2 b3 #[.int .i64 3, .int .u32 (c : Int), .int .u32 (n : Int), .int .u64 (sp : Int), .int .u32 (sl : Int), .int .u64 (ap : Int), .int .u32 (aq : Int), .int .u64 (mp : Int), .int .u32 (ml : Int), .string (bs prim), .int .u8 (pt : Int), .bool dn, .slice ao ln cp] #[.int .i64 3, .int .u32 (c : Int), .int .u32 (n : Int), .int .u64 (sp : Int), .int .u32 (sl : Int), .int .u64 (ap : Int), .int .u32 (aq : Int), .int .u64 0, .int .u32 0, .string ⟨#[]⟩, .int .u8 0, .bool false, .slice none 0 0] Y3) := by rw [← hY]; exact ((HZ.out.st 5 (.int .u64 (ap : Int))).st 6 (.int .u32 (aq : Int)))
  have g0 : Y3.cell? ⟨b1, 0, none⟩ = some (.int .i64 3) := block_cell HZ2.out.x1 rfl
  go_upto_region 17 with fail
  clear p0 g0 hY HZ p5 q5 f5 p6 q6 f6
  have HZ : Hid _ := HZ2.out
  clear HZ2
  have p0 : Y3.cell? ⟨b1, 0, none⟩ = some (.int .i64 3) := block_cell HZ.out.x1 rfl
  have p10 : Y3.cell? ⟨b1, 10, none⟩ = some (.int .u8 (pt : Int)) := block_cell HZ.out.x1 rfl
  have q10 : Y3.cell? ⟨b3, 10, none⟩ = some (.int .u8 0) := block_cell HZ.out.x3 rfl
  have f10 : Y3.frozen? ⟨b3, 10, none⟩ = false := block_frozen HZ.out.x3 10
  obtain ⟨Y4, hY⟩ : ∃ Y4, (Y3.setCell ⟨b3, 10, none⟩ (.int .u8 (pt : Int))) = Y4 := ⟨_, rfl⟩
  have HZ2 : Hid (Bz w b1 b2 b3 #[.int .i64 3, .int .u32 (c : Int), .int .u32 (n : Int), .int .u64 (sp : Int), .int .u32 (sl : Int), .int .u64 (ap : Int), .int .u32 (aq : Int), .int .u64 (mp : Int), .int .u32 (ml : Int), .string (bs prim), .int .u8 (pt : Int), .bool dn, .slice ao ln cp] #[.int .i64 3, .int .u32 (c : Int), .int .u32 (n : Int), .int .u64 (sp : Int), .int .u32 (sl : Int), .int .u64 (ap : Int), .int .u32 (aq : Int), .int .u64 0, .int .u32 0, .string ⟨#[]⟩, .int .u8 (pt : Int), .bool false, .slice none 0 0] Y4) := by rw [← hY]; exact (HZ.out.st 10 (.int .u8 (pt : Int)))
  have g0 : Y4.cell? ⟨b1, 0, none⟩ = some (.int .i64 3) := block_cell HZ2.out.x1 rfl
  go_upto_region 28 with fail
  clear p0 g0 hY HZ p10 q10 f10
  have HZ : Hid _ := HZ2.out
  clear HZ2
  have x0 : Y4.cell? ⟨b3, 0, none⟩ = some (.int .i64 3) := block_cell HZ.out.x3 rfl
  have x1 : Y4.cell? ⟨b3, 1, none⟩ = some (.int .u32 (c : Int)) := block_cell HZ.out.x3 rfl
  have x2 : Y4.cell? ⟨b3, 2, none⟩ = some (.int .u32 (n : Int)) := block_cell HZ.out.x3 rfl
  have x3 : Y4.cell? ⟨b3, 3, none⟩ = some (.int .u64 (sp : Int)) := block_cell HZ.out.x3 rfl
  have x4 : Y4.cell? ⟨b3, 4, none⟩ = some (.int .u32 (sl : Int)) := block_cell HZ.out.x3 rfl
  have x5 : Y4.cell? ⟨b3, 5, none⟩ = some (.int .u64 (ap : Int)) := block_cell HZ.out.x3 rfl
  have x6 : Y4.cell? ⟨b3, 6, none⟩ = some (.int .u32 (aq : Int)) := block_cell HZ.out.x3 rfl
  have x7 : Y4.cell? ⟨b3, 7, none⟩ = some (.int .u64 0) := block_cell HZ.out.x3 rfl
  have x8 : Y4.cell? ⟨b3, 8, none⟩ = some (.int .u32 0) := block_cell HZ.out.x3 rfl
  have x9 : Y4.cell? ⟨b3, 9, none⟩ = some (.string ⟨#[]⟩) := block_cell HZ.out.x3 rfl
  have x10 : Y4.cell? ⟨b3, 10, none⟩ = some (.int .u8 (pt : Int)) := block_cell HZ.out.x3 rfl
  have x11 : Y4.cell? ⟨b3, 11, none⟩ = some (.bool false) := block_cell HZ.out.x3 rfl
  have x12 : Y4.cell? ⟨b3, 12, none⟩ = some (.slice none 0 0) := block_cell HZ.out.x3 rfl
  have y0 : Y4.cell? ⟨b2, 0, none⟩ = some (.int .i64 0) := block_cell HZ.out.x2 rfl
  have y1 : Y4.cell? ⟨b2, 1, none⟩ = some (.int .u32 0) := block_cell HZ.out.x2 rfl
  have y2 : Y4.cell? ⟨b2, 2, none⟩ = some (.int .u32 0) := block_cell HZ.out.x2 rfl
  have y3 : Y4.cell? ⟨b2, 3, none⟩ = some (.int .u64 0) := block_cell HZ.out.x2 rfl
  have y4 : Y4.cell? ⟨b2, 4, none⟩ = some (.int .u32 0) := block_cell HZ.out.x2 rfl
  have y5 : Y4.cell? ⟨b2, 5, none⟩ = some (.int .u64 0) := block_cell HZ.out.x2 rfl
  have y6 : Y4.cell? ⟨b2, 6, none⟩ = some (.int .u32 0) := block_cell HZ.out.x2 rfl
  have y7 : Y4.cell? ⟨b2, 7, none⟩ = some (.int .u64 0) := block_cell HZ.out.x2 rfl
  have y8 : Y4.cell? ⟨b2, 8, none⟩ = some (.int .u32 0) := block_cell HZ.out.x2 rfl
  have y9 : Y4.cell? ⟨b2, 9, none⟩ = some (.string ⟨#[]⟩) := block_cell HZ.out.x2 rfl
  have y10 : Y4.cell? ⟨b2, 10, none⟩ = some (.int .u8 0) := block_cell HZ.out.x2 rfl
  have y11 : Y4.cell? ⟨b2, 11, none⟩ = some (.bool false) := block_cell HZ.out.x2 rfl
  have y12 : Y4.cell? ⟨b2, 12, none⟩ = some (.slice none 0 0) := block_cell HZ.out.x2 rfl
  have z0 : Y4.frozen? ⟨b2, 0, none⟩ = false := block_frozen HZ.out.x2 0
  have z1 : Y4.frozen? ⟨b2, 1, none⟩ = false := block_frozen HZ.out.x2 1
  have z2 : Y4.frozen? ⟨b2, 2, none⟩ = false := block_frozen HZ.out.x2 2
  have z3 : Y4.frozen? ⟨b2, 3, none⟩ = false := block_frozen HZ.out.x2 3
  have z4 : Y4.frozen? ⟨b2, 4, none⟩ = false := block_frozen HZ.out.x2 4
  have z5 : Y4.frozen? ⟨b2, 5, none⟩ = false := block_frozen HZ.out.x2 5
  have z6 : Y4.frozen? ⟨b2, 6, none⟩ = false := block_frozen HZ.out.x2 6
  have z7 : Y4.frozen? ⟨b2, 7, none⟩ = false := block_frozen HZ.out.x2 7
  have z8 : Y4.frozen? ⟨b2, 8, none⟩ = false := block_frozen HZ.out.x2 8
  have z9 : Y4.frozen? ⟨b2, 9, none⟩ = false := block_frozen HZ.out.x2 9
  have z10 : Y4.frozen? ⟨b2, 10, none⟩ = false := block_frozen HZ.out.x2 10
  have z11 : Y4.frozen? ⟨b2, 11, none⟩ = false := block_frozen HZ.out.x2 11
  have z12 : Y4.frozen? ⟨b2, 12, none⟩ = false := block_frozen HZ.out.x2 12
  have HI : Hid _ := bx13 (.int .i64 3) (.int .u32 (c : Int)) (.int .u32 (n : Int)) (.int .u64 (sp : Int)) (.int .u32 (sl : Int)) (.int .u64 (ap : Int)) (.int .u32 (aq : Int)) (.int .u64 0) (.int .u32 0) (.string ⟨#[]⟩) (.int .u8 (pt : Int)) (.bool false) (.slice none 0 0) HZ.out.x2
  have HBw : Hid _ := bx13_below (.int .i64 3) (.int .u32 (c : Int)) (.int .u32 (n : Int)) (.int .u64 (sp : Int)) (.int .u32 (sl : Int)) (.int .u64 (ap : Int)) (.int .u32 (aq : Int)) (.int .u64 0) (.int .u32 0) (.string ⟨#[]⟩) (.int .u8 (pt : Int)) (.bool false) (.slice none 0 0) HZ.out.bel HZ.out.l2
  clear HZ
  go_wp2_with fail
  have r0 : (((((((((((((Y4.setCell ⟨b2, 0, none⟩ (.int .i64 3)).setCell ⟨b2, 1, none⟩ (.int .u32 (c : Int))).setCell ⟨b2, 2, none⟩ (.int .u32 (n : Int))).setCell ⟨b2, 3, none⟩ (.int .u64 (sp : Int))).setCell ⟨b2, 4, none⟩ (.int .u32 (sl : Int))).setCell ⟨b2, 5, none⟩ (.int .u64 (ap : Int))).setCell ⟨b2, 6, none⟩ (.int .u32 (aq : Int))).setCell ⟨b2, 7, none⟩ (.int .u64 0)).setCell ⟨b2, 8, none⟩ (.int .u32 0)).setCell ⟨b2, 9, none⟩ (.string ⟨#[]⟩)).setCell ⟨b2, 10, none⟩ (.int .u8 (pt : Int))).setCell ⟨b2, 11, none⟩ (.bool false)).setCell ⟨b2, 12, none⟩ (.slice none 0 0)).cell? ⟨b2, 0, none⟩ = some (.int .i64 3) := block_cell HI.out rfl
  have r1 : (((((((((((((Y4.setCell ⟨b2, 0, none⟩ (.int .i64 3)).setCell ⟨b2, 1, none⟩ (.int .u32 (c : Int))).setCell ⟨b2, 2, none⟩ (.int .u32 (n : Int))).setCell ⟨b2, 3, none⟩ (.int .u64 (sp : Int))).setCell ⟨b2, 4, none⟩ (.int .u32 (sl : Int))).setCell ⟨b2, 5, none⟩ (.int .u64 (ap : Int))).setCell ⟨b2, 6, none⟩ (.int .u32 (aq : Int))).setCell ⟨b2, 7, none⟩ (.int .u64 0)).setCell ⟨b2, 8, none⟩ (.int .u32 0)).setCell ⟨b2, 9, none⟩ (.string ⟨#[]⟩)).setCell ⟨b2, 10, none⟩ (.int .u8 (pt : Int))).setCell ⟨b2, 11, none⟩ (.bool false)).setCell ⟨b2, 12, none⟩ (.slice none 0 0)).cell? ⟨b2, 1, none⟩ = some (.int .u32 (c : Int)) := block_cell HI.out rfl
  have r2 : (((((((((((((Y4.setCell ⟨b2, 0, none⟩ (.int .i64 3)).setCell ⟨b2, 1, none⟩ (.int .u32 (c : Int))).setCell ⟨b2, 2, none⟩ (.int .u32 (n : Int))).setCell ⟨b2, 3, none⟩ (.int .u64 (sp : Int))).setCell ⟨b2, 4, none⟩ (.int .u32 (sl : Int))).setCell ⟨b2, 5, none⟩ (.int .u64 (ap : Int))).setCell ⟨b2, 6, none⟩ (.int .u32 (aq : Int))).setCell ⟨b2, 7, none⟩ (.int .u64 0)).setCell ⟨b2, 8, none⟩ (.int .u32 0)).setCell ⟨b2, 9, none⟩ (.string ⟨#[]⟩)).setCell ⟨b2, 10, none⟩ (.int .u8 (pt : Int))).setCell ⟨b2, 11, none⟩ (.bool false)).setCell ⟨b2, 12, none⟩ (.slice none 0 0)).cell? ⟨b2, 2, none⟩ = some (.int .u32 (n : Int)) := block_cell HI.out rfl
  have r3 : (((((((((((((Y4.setCell ⟨b2, 0, none⟩ (.int .i64 3)).setCell ⟨b2, 1, none⟩ (.int .u32 (c : Int))).setCell ⟨b2, 2, none⟩ (.int .u32 (n : Int))).setCell ⟨b2, 3, none⟩ (.int .u64 (sp : Int))).setCell ⟨b2, 4, none⟩ (.int .u32 (sl : Int))).setCell ⟨b2, 5, none⟩ (.int .u64 (ap : Int))).setCell ⟨b2, 6, none⟩ (.int .u32 (aq : Int))).setCell ⟨b2, 7, none⟩ (.int .u64 0)).setCell ⟨b2, 8, none⟩ (.int .u32 0)).setCell ⟨b2, 9, none⟩ (.string ⟨#[]⟩)).setCell ⟨b2, 10, none⟩ (.int .u8 (pt : Int))).setCell ⟨b2, 11, none⟩ (.bool false)).setCell ⟨b2, 12, none⟩ (.slice none 0 0)).cell? ⟨b2, 3, none⟩ = some (.int .u64 (sp : Int)) := block_cell HI.out rfl
  have r4 : (((((((((((((Y4.setCell ⟨b2, 0, none⟩ (.int .i64 3)).setCell ⟨b2, 1, none⟩ (.int .u32 (c : Int))).setCell ⟨b2, 2, none⟩ (.int .u32 (n : Int))).setCell ⟨b2, 3, none⟩ (.int .u64 (sp : Int))).setCell ⟨b2, 4, none⟩ (.int .u32 (sl : Int))).setCell ⟨b2, 5, none⟩ (.int .u64 (ap : Int))).setCell ⟨b2, 6, none⟩ (.int .u32 (aq : Int))).setCell ⟨b2, 7, none⟩ (.int .u64 0)).setCell ⟨b2, 8, none⟩ (.int .u32 0)).setCell ⟨b2, 9, none⟩ (.string ⟨#[]⟩)).setCell ⟨b2, 10, none⟩ (.int .u8 (pt : Int))).setCell ⟨b2, 11, none⟩ (.bool false)).setCell ⟨b2, 12, none⟩ (.slice none 0 0)).cell? ⟨b2, 4, none⟩ = some (.int .u32 (sl : Int)) := block_cell HI.out rfl
  have r5 : (((((((((((((Y4.setCell ⟨b2, 0, none⟩ (.int .i64 3)).setCell ⟨b2, 1, none⟩ (.int .u32 (c : Int))).setCell ⟨b2, 2, none⟩ (.int .u32 (n : Int))).setCell ⟨b2, 3, none⟩ (.int .u64 (sp : Int))).setCell ⟨b2, 4, none⟩ (.int .u32 (sl : Int))).setCell ⟨b2, 5, none⟩ (.int .u64 (ap : Int))).setCell ⟨b2, 6, none⟩ (.int .u32 (aq : Int))).setCell ⟨b2, 7, none⟩ (.int .u64 0)).setCell ⟨b2, 8, none⟩ (.int .u32 0)).setCell ⟨b2, 9, none⟩ (.string ⟨#[]⟩)).setCell ⟨b2, 10, none⟩ (.int .u8 (pt : Int))).setCell ⟨b2, 11, none⟩ (.bool false)).setCell ⟨b2, 12, none⟩ (.slice none 0 0)).cell? ⟨b2, 5, none⟩ = some (.int .u64 (ap : Int)) := block_cell HI.out rfl
  have r6 : (((((((((((((Y4.setCell ⟨b2, 0, none⟩ (.int .i64 3)).setCell ⟨b2, 1, none⟩ (.int .u32 (c : Int))).setCell ⟨b2, 2, none⟩ (.int .u32 (n : Int))).setCell ⟨b2, 3, none⟩ (.int .u64 (sp : Int))).setCell ⟨b2, 4, none⟩ (.int .u32 (sl : Int))).setCell ⟨b2, 5, none⟩ (.int .u64 (ap : Int))).setCell ⟨b2, 6, none⟩ (.int .u32 (aq : Int))).setCell ⟨b2, 7, none⟩ (.int .u64 0)).setCell ⟨b2, 8, none⟩ (.int .u32 0)).setCell ⟨b2, 9, none⟩ (.string ⟨#[]⟩)).setCell ⟨b2, 10, none⟩ (.int .u8 (pt : Int))).setCell ⟨b2, 11, none⟩ (.bool false)).setCell ⟨b2, 12, none⟩ (.slice none 0 0)).cell? ⟨b2, 6, none⟩ = some (.int .u32 (aq : Int)) := block_cell HI.out rfl
  have r7 : (((((((((((((Y4.setCell ⟨b2, 0, none⟩ (.int .i64 3)).setCell ⟨b2, 1, none⟩ (.int .u32 (c : Int))).setCell ⟨b2, 2, none⟩ (.int .u32 (n : Int))).setCell ⟨b2, 3, none⟩ (.int .u64 (sp : Int))).setCell ⟨b2, 4, none⟩ (.int .u32 (sl : Int))).setCell ⟨b2, 5, none⟩ (.int .u64 (ap : Int))).setCell ⟨b2, 6, none⟩ (.int .u32 (aq : Int))).setCell ⟨b2, 7, none⟩ (.int .u64 0)).setCell ⟨b2, 8, none⟩ (.int .u32 0)).setCell ⟨b2, 9, none⟩ (.string ⟨#[]⟩)).setCell ⟨b2, 10, none⟩ (.int .u8 (pt : Int))).setCell ⟨b2, 11, none⟩ (.bool false)).setCell ⟨b2, 12, none⟩ (.slice none 0 0)).cell? ⟨b2, 7, none⟩ = some (.int .u64 0) := block_cell HI.out rfl
  have r8 : (((((((((((((Y4.setCell ⟨b2, 0, none⟩ (.int .i64 3)).setCell ⟨b2, 1, none⟩ (.int .u32 (c : Int))).setCell ⟨b2, 2, none⟩ (.int .u32 (n : Int))).setCell ⟨b2, 3, none⟩ (.int .u64 (sp : Int))).setCell ⟨b2, 4, none⟩ (.int .u32 (sl : Int))).setCell ⟨b2, 5, none⟩ (.int .u64 (ap : Int))).setCell ⟨b2, 6, none⟩ (.int .u32 (aq : Int))).setCell ⟨b2, 7, none⟩ (.int .u64 0)).setCell ⟨b2, 8, none⟩ (.int .u32 0)).setCell ⟨b2, 9, none⟩ (.string ⟨#[]⟩)).setCell ⟨b2, 10, none⟩ (.int .u8 (pt : Int))).setCell ⟨b2, 11, none⟩ (.bool false)).setCell ⟨b2, 12, none⟩ (.slice none 0 0)).cell? ⟨b2, 8, none⟩ = some (.int .u32 0) := block_cell HI.out rfl
  have r9 : (((((((((((((Y4.setCell ⟨b2, 0, none⟩ (.int .i64 3)).setCell ⟨b2, 1, none⟩ (.int .u32 (c : Int))).setCell ⟨b2, 2, none⟩ (.int .u32 (n : Int))).setCell ⟨b2, 3, none⟩ (.int .u64 (sp : Int))).setCell ⟨b2, 4, none⟩ (.int .u32 (sl : Int))).setCell ⟨b2, 5, none⟩ (.int .u64 (ap : Int))).setCell ⟨b2, 6, none⟩ (.int .u32 (aq : Int))).setCell ⟨b2, 7, none⟩ (.int .u64 0)).setCell ⟨b2, 8, none⟩ (.int .u32 0)).setCell ⟨b2, 9, none⟩ (.string ⟨#[]⟩)).setCell ⟨b2, 10, none⟩ (.int .u8 (pt : Int))).setCell ⟨b2, 11, none⟩ (.bool false)).setCell ⟨b2, 12, none⟩ (.slice none 0 0)).cell? ⟨b2, 9, none⟩ = some (.string ⟨#[]⟩) := block_cell HI.out rfl
  have r10 : (((((((((((((Y4.setCell ⟨b2, 0, none⟩ (.int .i64 3)).setCell ⟨b2, 1, none⟩ (.int .u32 (c : Int))).setCell ⟨b2, 2, none⟩ (.int .u32 (n : Int))).setCell ⟨b2, 3, none⟩ (.int .u64 (sp : Int))).setCell ⟨b2, 4, none⟩ (.int .u32 (sl : Int))).setCell ⟨b2, 5, none⟩ (.int .u64 (ap : Int))).setCell ⟨b2, 6, none⟩ (.int .u32 (aq : Int))).setCell ⟨b2, 7, none⟩ (.int .u64 0)).setCell ⟨b2, 8, none⟩ (.int .u32 0)).setCell ⟨b2, 9, none⟩ (.string ⟨#[]⟩)).setCell ⟨b2, 10, none⟩ (.int .u8 (pt : Int))).setCell ⟨b2, 11, none⟩ (.bool false)).setCell ⟨b2, 12, none⟩ (.slice none 0 0)).cell? ⟨b2, 10, none⟩ = some (.int .u8 (pt : Int)) := block_cell HI.out rfl
  have r11 : (((((((((((((Y4.setCell ⟨b2, 0, none⟩ (.int .i64 3)).setCell ⟨b2, 1, none⟩ (.int .u32 (c : Int))).setCell ⟨b2, 2, none⟩ (.int .u32 (n : Int))).setCell ⟨b2, 3, none⟩ (.int .u64 (sp : Int))).setCell ⟨b2, 4, none⟩ (.int .u32 (sl : Int))).setCell ⟨b2, 5, none⟩ (.int .u64 (ap : Int))).setCell ⟨b2, 6, none⟩ (.int .u32 (aq : Int))).setCell ⟨b2, 7, none⟩ (.int .u64 0)).setCell ⟨b2, 8, none⟩ (.int .u32 0)).setCell ⟨b2, 9, none⟩ (.string ⟨#[]⟩)).setCell ⟨b2, 10, none⟩ (.int .u8 (pt : Int))).setCell ⟨b2, 11, none⟩ (.bool false)).setCell ⟨b2, 12, none⟩ (.slice none 0 0)).cell? ⟨b2, 11, none⟩ = some (.bool false) := block_cell HI.out rfl
  have r12 : (((((((((((((Y4.setCell ⟨b2, 0, none⟩ (.int .i64 3)).setCell ⟨b2, 1, none⟩ (.int .u32 (c : Int))).setCell ⟨b2, 2, none⟩ (.int .u32 (n : Int))).setCell ⟨b2, 3, none⟩ (.int .u64 (sp : Int))).setCell ⟨b2, 4, none⟩ (.int .u32 (sl : Int))).setCell ⟨b2, 5, none⟩ (.int .u64 (ap : Int))).setCell ⟨b2, 6, none⟩ (.int .u32 (aq : Int))).setCell ⟨b2, 7, none⟩ (.int .u64 0)).setCell ⟨b2, 8, none⟩ (.int .u32 0)).setCell ⟨b2, 9, none⟩ (.string ⟨#[]⟩)).setCell ⟨b2, 10, none⟩ (.int .u8 (pt : Int))).setCell ⟨b2, 11, none⟩ (.bool false)).setCell ⟨b2, 12, none⟩ (.slice none 0 0)).cell? ⟨b2, 12, none⟩ = some (.slice none 0 0) := block_cell HI.out rfl
  refine bodyPost_ret (v := .agg #[.int .i64 3, .int .u32 (c : Int), .int .u32 (n : Int), .int .u64 (sp : Int), .int .u32 (sl : Int), .int .u64 (ap : Int), .int .u32 (aq : Int), .int .u64 0, .int .u32 0, .string ⟨#[]⟩, .int .u8 (pt : Int), .bool false, .slice none 0 0]) (by simp [results, Try.results45, go_sem, r0, r1, r2, r3, r4, r5, r6, r7, r8, r9, r10, r11, r12]) rfl ?_
  exact ⟨rfl, HBw.out⟩
end Go.Proofs.Ytmgjlpgjjeknpaa
