/-
  The document's Read, kind by kind: the last ones.
-/
import Derived.Test.YtmgjlpgjjeknpaaRz
import Derived.Test.YtmgjlpgjjeknpaaRx
import Derived.Test.YtmgjlpgjjeknpaaRy
namespace Go.Proofs.Ytmgjlpgjjeknpaa
open Go.RowKit Go.Sort

set_option maxHeartbeats 3200000 in
set_option maxRecDepth 100000 in
theorem rd13_2 (s : List UInt8) (w : World) (hl : s.length < 4611686018427387904) (hk : (rdNum 9 ⟨s, 0⟩).1 = 2) : Calls Try.prog 13 #[.string (bs s)] w (RdPost s w) := by
  have HW : Hid _ := @rz_new w s hl
  obtain ⟨W1, hW1⟩ : ∃ W1, w.alloc (.cells #[.int .i64 0, .int .u32 0, .int .u32 0, .int .u64 0, .int .u32 0, .int .u64 0, .int .u32 0, .int .u64 0, .int .u32 0, .string ⟨#[]⟩, .int .u8 0, .bool false, .slice none 0 0] 30) = W1 := ⟨_, rfl⟩
  obtain ⟨W2, hW2⟩ : ∃ W2, W1.alloc (.cells #[.string (bs s), .int .i64 0] 71) = W2 := ⟨_, rfl⟩
  have s1 : W1.heap.size = w.heap.size + 1 := by rw [← hW1]; simp
  obtain ⟨bx, hbx⟩ : ∃ b, w.heap.size = b := ⟨_, rfl⟩
  obtain ⟨br, hbr⟩ : ∃ b, W1.heap.size = b := ⟨_, rfl⟩
  have R2 : Hid (RdAt 71 br ⟨s, 0⟩ W2) := by
    show _ = _
    rw [← hW2, ← hbr]
    exact heap_alloc_new W1 _
  have HW2 : Hid ((w.alloc (.cells #[.int .i64 0, .int .u32 0, .int .u32 0, .int .u64 0, .int .u32 0, .int .u64 0, .int .u32 0, .int .u64 0, .int .u32 0, .string ⟨#[]⟩, .int .u8 0, .bool false, .slice none 0 0] 30)).alloc (.cells #[.string (bs s), .int .i64 0] 71) = W2) := by
    show _ = _
    rw [hW1]
    exact hW2
  have Hbx : Hid (w.heap.size = bx) := hbx
  have Hbr : Hid (w.heap.size + 1 = br) := by show _ = _; rw [← hbr, s1]
  have hle := rdNum_le 9 ⟨s, 0⟩
  obtain ⟨st1, hst1⟩ : ∃ x, (rdNum 9 ⟨s, 0⟩).2 = x := ⟨_, rfl⟩
  have H1 : Hid (rdNum 9 ⟨s, 0⟩ = (2, st1)) := Prod.ext hk hst1
  have HL : Hid (st1.l.length ≤ s.length) := by rw [← hst1]; exact hle.2.1
  have C : Hid (1 = 1 → Calls Try.prog 34 #[.pointer (some ⟨br, 0, none⟩), .int .u64 9] W2 fun r w' => r = .returned (.int .u64 2) ∧ RdAt 71 br st1 w' ∧ Sole br W2 w') := fun _ => by
    have := num26 br ⟨s, 0⟩ 9 W2 R2.out (by show s.length < _; omega)
    rw [H1.out] at this
    exact this
  clear hle hst1 hk s1 R2
  go_enter Try.func13, Try.ntmps13
  go_wp2_with fail
  refine (C.out (by simp)).mono ?_
  rintro r w1 ⟨rfl, hr, hs⟩
  have HZ : Hid _ := HW.out HW2.out (by rw [Hbr.out]; exact hr) (by rw [Hbr.out]; exact hs) HL.out #[.int .i64 2, .int .u32 0, .int .u32 0, .int .u64 0, .int .u32 0, .int .u64 0, .int .u32 0, .int .u64 0, .int .u32 0, .string ⟨#[]⟩, .int .u8 0, .bool false, .slice none 0 0]
  clear hr hs C hW1 hW2 hbr HW
  go_upto_region 3 with fail
  obtain ⟨Y0, hY0⟩ : ∃ Y0, w1.alloc (.cells #[.int .i64 2, .int .u32 0, .int .u32 0, .int .u64 0, .int .u32 0, .int .u64 0, .int .u32 0, .int .u64 0, .int .u32 0, .string ⟨#[]⟩, .int .u8 0, .bool false, .slice none 0 0] 30) = Y0 := ⟨_, rfl⟩
  obtain ⟨be, hbe⟩ : ∃ b, w1.heap.size = b := ⟨_, rfl⟩
  have HZ0 : Hid (Rz 71 (be + 1) w bx br be #[.int .i64 2, .int .u32 0, .int .u32 0, .int .u64 0, .int .u32 0, .int .u64 0, .int .u32 0, .int .u64 0, .int .u32 0, .string ⟨#[]⟩, .int .u8 0, .bool false, .slice none 0 0] (.slice none 0 0) [] st1 Y0) := by
    rw [← hY0, ← hbe, ← Hbr.out, ← Hbx.out]
    exact HZ.out
  rw [hY0, hbe]
  clear HZ HW2 hbx HL hY0 hbe
  obtain ⟨c, st2, hA⟩ : ∃ c st2, rdNum 4294967295 st1 = (c, st2) := ⟨_, _, rfl⟩
  have H2 : Hid (rdNum 4294967295 st1 = (c, st2)) := hA
  have HL : Hid (st2.l.length ≤ st1.l.length) := by have := (rdNum_le 4294967295 st1).2.1; rw [hA] at this; exact this
  have bd2 : c ≤ 4294967295 := by have := (rdNum_le 4294967295 st1).1; rw [hA] at this; exact this
  clear hA
  have C : Hid (1 = 1 → Calls Try.prog 34 #[.pointer (some ⟨br, 0, none⟩), .int .u64 4294967295] Y0 fun r w' => r = .returned (.int .u64 (c : Int)) ∧ RdAt 71 br st2 w' ∧ Sole br Y0 w') := fun _ => by
    have := num26 br st1 4294967295 Y0 HZ0.out.r (by have := HZ0.out.len; omega)
    skip
    rw [H2.out] at this
    exact this
  have p0 : Y0.cell? ⟨be, 0, none⟩ = some (.int .i64 2) := block_cell HZ0.out.y rfl
  go_wp2_with fail
  refine (C.out (by simp)).mono ?_
  rintro r x2 ⟨rfl, hr, hs⟩
  have HX2 : Hid (Rz 71 (be + 1) w bx br be #[.int .i64 2, .int .u32 0, .int .u32 0, .int .u64 0, .int .u32 0, .int .u64 0, .int .u32 0, .int .u64 0, .int .u32 0, .string ⟨#[]⟩, .int .u8 0, .bool false, .slice none 0 0] (.slice none 0 0) [] st2 x2) := HZ0.out.rd hr hs HL.out
  clear hr hs C p0 HL HZ0 
  have xw := u32w bd2
  have q1 : x2.cell? ⟨be, 1, none⟩ = some (.int .u32 0) := block_cell HX2.out.y rfl
  have f1 : x2.frozen? ⟨be, 1, none⟩ = false := block_frozen HX2.out.y 1
  obtain ⟨Y2, hY2⟩ : ∃ Y2, (x2.setCell ⟨be, 1, none⟩ (.int .u32 (c : Int))) = Y2 := ⟨_, rfl⟩
  have HZ2 : Hid (Rz 71 (be + 1) w bx br be #[.int .i64 2, .int .u32 (c : Int), .int .u32 0, .int .u64 0, .int .u32 0, .int .u64 0, .int .u32 0, .int .u64 0, .int .u32 0, .string ⟨#[]⟩, .int .u8 0, .bool false, .slice none 0 0] (.slice none 0 0) [] st2 Y2) := by
    rw [← hY2]
    exact (HX2.out.put 1 (.int .u32 (c : Int)))
  clear HX2
  obtain ⟨n, st3, hA⟩ : ∃ n st3, rdNum 4294967295 st2 = (n, st3) := ⟨_, _, rfl⟩
  have H3 : Hid (rdNum 4294967295 st2 = (n, st3)) := hA
  have HL : Hid (st3.l.length ≤ st2.l.length) := by have := (rdNum_le 4294967295 st2).2.1; rw [hA] at this; exact this
  have bd3 : n ≤ 4294967295 := by have := (rdNum_le 4294967295 st2).1; rw [hA] at this; exact this
  clear hA
  have C : Hid (1 = 1 → Calls Try.prog 34 #[.pointer (some ⟨br, 0, none⟩), .int .u64 4294967295] Y2 fun r w' => r = .returned (.int .u64 (n : Int)) ∧ RdAt 71 br st3 w' ∧ Sole br Y2 w') := fun _ => by
    have := num26 br st2 4294967295 Y2 HZ2.out.r (by have := HZ2.out.len; omega)
    skip
    rw [H3.out] at this
    exact this
  have p0 : Y2.cell? ⟨be, 0, none⟩ = some (.int .i64 2) := block_cell HZ2.out.y rfl
  go_wp2_with fail
  refine (C.out (by simp)).mono ?_
  rintro r x3 ⟨rfl, hr, hs⟩
  have HX3 : Hid (Rz 71 (be + 1) w bx br be #[.int .i64 2, .int .u32 (c : Int), .int .u32 0, .int .u64 0, .int .u32 0, .int .u64 0, .int .u32 0, .int .u64 0, .int .u32 0, .string ⟨#[]⟩, .int .u8 0, .bool false, .slice none 0 0] (.slice none 0 0) [] st3 x3) := HZ2.out.rd hr hs HL.out
  clear hr hs C p0 HL HZ2 hY2 q1 f1 xw
  have xw := u32w bd3
  have q2 : x3.cell? ⟨be, 2, none⟩ = some (.int .u32 0) := block_cell HX3.out.y rfl
  have f2 : x3.frozen? ⟨be, 2, none⟩ = false := block_frozen HX3.out.y 2
  obtain ⟨Y3, hY3⟩ : ∃ Y3, (x3.setCell ⟨be, 2, none⟩ (.int .u32 (n : Int))) = Y3 := ⟨_, rfl⟩
  have HZ3 : Hid (Rz 71 (be + 1) w bx br be #[.int .i64 2, .int .u32 (c : Int), .int .u32 (n : Int), .int .u64 0, .int .u32 0, .int .u64 0, .int .u32 0, .int .u64 0, .int .u32 0, .string ⟨#[]⟩, .int .u8 0, .bool false, .slice none 0 0] (.slice none 0 0) [] st3 Y3) := by
    rw [← hY3]
    exact (HX3.out.put 2 (.int .u32 (n : Int)))
  clear HX3
  obtain ⟨sp, sq, st4, hA⟩ : ∃ sp sq st4, rdStamp st3 = ((sp, sq), st4) := ⟨_, _, _, rfl⟩
  have H4 : Hid (rdStamp st3 = ((sp, sq), st4)) := hA
  have HL : Hid (st4.l.length ≤ st3.l.length) := by have := rdStamp_le st3; rw [hA] at this; exact this
  clear hA
  have C : Hid (1 = 1 → Calls Try.prog 35 #[.pointer (some ⟨br, 0, none⟩)] Y3 fun r w' => r = .returned (.agg #[.int .u64 (sp : Int), .int .u32 (sq : Int)]) ∧ RdAt 71 br st4 w' ∧ Sole br Y3 w') := fun _ => by
    have := stamp29 br st3 Y3 HZ3.out.r (by have := HZ3.out.len; omega)
    skip
    rw [H4.out] at this
    exact this
  have p0 : Y3.cell? ⟨be, 0, none⟩ = some (.int .i64 2) := block_cell HZ3.out.y rfl
  go_wp2_with fail
  refine (C.out (by simp)).mono ?_
  rintro r x4 ⟨rfl, hr, hs⟩
  have HX4 : Hid (Rz 71 (be + 1) w bx br be #[.int .i64 2, .int .u32 (c : Int), .int .u32 (n : Int), .int .u64 0, .int .u32 0, .int .u64 0, .int .u32 0, .int .u64 0, .int .u32 0, .string ⟨#[]⟩, .int .u8 0, .bool false, .slice none 0 0] (.slice none 0 0) [] st4 x4) := HZ3.out.rd hr hs HL.out
  clear hr hs C p0 HL HZ3 hY3 q2 f2 xw
  have q3 : x4.cell? ⟨be, 3, none⟩ = some (.int .u64 0) := block_cell HX4.out.y rfl
  have f3 : x4.frozen? ⟨be, 3, none⟩ = false := block_frozen HX4.out.y 3
  have q4 : x4.cell? ⟨be, 4, none⟩ = some (.int .u32 0) := block_cell HX4.out.y rfl
  have f4 : x4.frozen? ⟨be, 4, none⟩ = false := block_frozen HX4.out.y 4
  obtain ⟨Y4, hY4⟩ : ∃ Y4, ((x4.setCell ⟨be, 3, none⟩ (.int .u64 (sp : Int))).setCell ⟨be, 4, none⟩ (.int .u32 (sq : Int))) = Y4 := ⟨_, rfl⟩
  have HZ4 : Hid (Rz 71 (be + 1) w bx br be #[.int .i64 2, .int .u32 (c : Int), .int .u32 (n : Int), .int .u64 (sp : Int), .int .u32 (sq : Int), .int .u64 0, .int .u32 0, .int .u64 0, .int .u32 0, .string ⟨#[]⟩, .int .u8 0, .bool false, .slice none 0 0] (.slice none 0 0) [] st4 Y4) := by
    rw [← hY4]
    exact ((HX4.out.put 3 (.int .u64 (sp : Int))).put 4 (.int .u32 (sq : Int)))
  clear HX4
  obtain ⟨mp, mq, st5, hA⟩ : ∃ mp mq st5, rdStamp st4 = ((mp, mq), st5) := ⟨_, _, _, rfl⟩
  have H5 : Hid (rdStamp st4 = ((mp, mq), st5)) := hA
  have HL : Hid (st5.l.length ≤ st4.l.length) := by have := rdStamp_le st4; rw [hA] at this; exact this
  clear hA
  have C : Hid (1 = 1 → Calls Try.prog 35 #[.pointer (some ⟨br, 0, none⟩)] Y4 fun r w' => r = .returned (.agg #[.int .u64 (mp : Int), .int .u32 (mq : Int)]) ∧ RdAt 71 br st5 w' ∧ Sole br Y4 w') := fun _ => by
    have := stamp29 br st4 Y4 HZ4.out.r (by have := HZ4.out.len; omega)
    skip
    rw [H5.out] at this
    exact this
  have p0 : Y4.cell? ⟨be, 0, none⟩ = some (.int .i64 2) := block_cell HZ4.out.y rfl
  go_wp2_with fail
  refine (C.out (by simp)).mono ?_
  rintro r x5 ⟨rfl, hr, hs⟩
  have HX5 : Hid (Rz 71 (be + 1) w bx br be #[.int .i64 2, .int .u32 (c : Int), .int .u32 (n : Int), .int .u64 (sp : Int), .int .u32 (sq : Int), .int .u64 0, .int .u32 0, .int .u64 0, .int .u32 0, .string ⟨#[]⟩, .int .u8 0, .bool false, .slice none 0 0] (.slice none 0 0) [] st5 x5) := HZ4.out.rd hr hs HL.out
  clear hr hs C p0 HL HZ4 hY4 q3 f3 q4 f4
  have q7 : x5.cell? ⟨be, 7, none⟩ = some (.int .u64 0) := block_cell HX5.out.y rfl
  have f7 : x5.frozen? ⟨be, 7, none⟩ = false := block_frozen HX5.out.y 7
  have q8 : x5.cell? ⟨be, 8, none⟩ = some (.int .u32 0) := block_cell HX5.out.y rfl
  have f8 : x5.frozen? ⟨be, 8, none⟩ = false := block_frozen HX5.out.y 8
  obtain ⟨Y5, hY5⟩ : ∃ Y5, ((x5.setCell ⟨be, 7, none⟩ (.int .u64 (mp : Int))).setCell ⟨be, 8, none⟩ (.int .u32 (mq : Int))) = Y5 := ⟨_, rfl⟩
  have HZ5 : Hid (Rz 71 (be + 1) w bx br be #[.int .i64 2, .int .u32 (c : Int), .int .u32 (n : Int), .int .u64 (sp : Int), .int .u32 (sq : Int), .int .u64 0, .int .u32 0, .int .u64 (mp : Int), .int .u32 (mq : Int), .string ⟨#[]⟩, .int .u8 0, .bool false, .slice none 0 0] (.slice none 0 0) [] st5 Y5) := by
    rw [← hY5]
    exact ((HX5.out.put 7 (.int .u64 (mp : Int))).put 8 (.int .u32 (mq : Int)))
  clear HX5
  obtain ⟨prim, st6, hA⟩ : ∃ prim st6, rdText 1 32 st5 = (prim, st6) := ⟨_, _, rfl⟩
  have H6 : Hid (rdText 1 32 st5 = (prim, st6)) := hA
  have HL : Hid (st6.l.length ≤ st5.l.length) := by have := rdText_le 1 32 st5; rw [hA] at this; exact this
  clear hA
  have C : Hid (1 = 1 → Calls Try.prog 36 #[.pointer (some ⟨br, 0, none⟩), .int .i64 1, .int .i64 32] Y5 fun r w' => r = .returned (.string (bs prim)) ∧ RdAt 71 br st6 w' ∧ Sole br Y5 w') := fun _ => by
    have := text27 br st5 1 32 Y5 HZ5.out.r (by have := HZ5.out.len; omega) (by omega) (by omega) (by omega) (by omega)
    skip
    rw [H6.out] at this
    exact this
  have p0 : Y5.cell? ⟨be, 0, none⟩ = some (.int .i64 2) := block_cell HZ5.out.y rfl
  go_wp2_with fail
  refine (C.out (by simp)).mono ?_
  rintro r x6 ⟨rfl, hr, hs⟩
  have HX6 : Hid (Rz 71 (be + 1) w bx br be #[.int .i64 2, .int .u32 (c : Int), .int .u32 (n : Int), .int .u64 (sp : Int), .int .u32 (sq : Int), .int .u64 0, .int .u32 0, .int .u64 (mp : Int), .int .u32 (mq : Int), .string ⟨#[]⟩, .int .u8 0, .bool false, .slice none 0 0] (.slice none 0 0) [] st6 x6) := HZ5.out.rd hr hs HL.out
  clear hr hs C p0 HL HZ5 hY5 q7 f7 q8 f8
  have q9 : x6.cell? ⟨be, 9, none⟩ = some (.string ⟨#[]⟩) := block_cell HX6.out.y rfl
  have f9 : x6.frozen? ⟨be, 9, none⟩ = false := block_frozen HX6.out.y 9
  obtain ⟨Y6, hY6⟩ : ∃ Y6, (x6.setCell ⟨be, 9, none⟩ (.string (bs prim))) = Y6 := ⟨_, rfl⟩
  have HZ6 : Hid (Rz 71 (be + 1) w bx br be #[.int .i64 2, .int .u32 (c : Int), .int .u32 (n : Int), .int .u64 (sp : Int), .int .u32 (sq : Int), .int .u64 0, .int .u32 0, .int .u64 (mp : Int), .int .u32 (mq : Int), .string (bs prim), .int .u8 0, .bool false, .slice none 0 0] (.slice none 0 0) [] st6 Y6) := by
    rw [← hY6]
    exact (HX6.out.put 9 (.string (bs prim)))
  clear HX6
  obtain ⟨nw, st7, hA⟩ : ∃ nw st7, rdNum 16 st6 = (nw, st7) := ⟨_, _, rfl⟩
  have H7 : Hid (rdNum 16 st6 = (nw, st7)) := hA
  have HL : Hid (st7.l.length ≤ st6.l.length) := by have := (rdNum_le 16 st6).2.1; rw [hA] at this; exact this
  have bd7 : nw ≤ 16 := by have := (rdNum_le 16 st6).1; rw [hA] at this; exact this
  clear hA
  have C : Hid (1 = 1 → Calls Try.prog 37 #[.pointer (some ⟨br, 0, none⟩), .int .i64 16] Y6 fun r w' => r = .returned (.int .i64 (nw : Int)) ∧ RdAt 71 br st7 w' ∧ Sole br Y6 w') := fun _ => by
    have := count31 br st6 16 Y6 HZ6.out.r (by have := HZ6.out.len; omega) (by omega) (by omega)
    rw [show (16 : Int).toNat = 16 from rfl] at this
    rw [H7.out] at this
    exact this
  have p0 : Y6.cell? ⟨be, 0, none⟩ = some (.int .i64 2) := block_cell HZ6.out.y rfl
  go_wp2_with fail
  refine (C.out (by simp)).mono ?_
  rintro r x7 ⟨rfl, hr, hs⟩
  have HX7 : Hid (Rz 71 (be + 1) w bx br be #[.int .i64 2, .int .u32 (c : Int), .int .u32 (n : Int), .int .u64 (sp : Int), .int .u32 (sq : Int), .int .u64 0, .int .u32 0, .int .u64 (mp : Int), .int .u32 (mq : Int), .string (bs prim), .int .u8 0, .bool false, .slice none 0 0] (.slice none 0 0) [] st7 x7) := HZ6.out.rd hr hs HL.out
  clear hr hs C p0 HL HZ6 hY6 q9 f9
  have p0 : x7.cell? ⟨be, 0, none⟩ = some (.int .i64 2) := block_cell HX7.out.y rfl
  go_wp2_with fail
  clear p0 
  obtain ⟨i0, hin, hi0, hi1, hi2⟩ := info_parts info53
  have hnw : nw ≤ 16 := bd7
  go_loopw [7] (fun i wr => ∃ m : Nat, m ≤ nw ∧ i = .int .i64 m ∧ Hid (∃ ao cp, Rz 71 (be + 1) w bx br be #[.int .i64 2, .int .u32 (c : Int), .int .u32 (n : Int), .int .u64 (sp : Int), .int .u32 (sq : Int), .int .u64 0, .int .u32 0, .int .u64 (mp : Int), .int .u32 (mq : Int), .string (bs prim), .int .u8 0, .bool false, .slice ao (rWs m st7).1.length cp] (.slice ao (rWs m st7).1.length cp) (rWs m st7).1 (rWs m st7).2 wr)) (fun i _ => nw - (intOf i).toNat)
  case atStart => exact ⟨0, Nat.zero_le _, rfl, none, 0, HX7.out⟩
  case round =>
    obtain ⟨m, hm, rfl, HR⟩ := hrel
    obtain ⟨ao, cp, hE⟩ := HR.out
    have hlm := rWs_len m st7
    clear HR HX7
    by_cases hml : m < nw
    · have hml1 : (m : Int) < nw := by omega
      have HN : Hid (∀ a : Wr × St, rWr (rWs m st7).2 = a → rWs (m + 1) st7 = ((rWs m st7).1 ++ [a.1], a.2)) := fun a ha => by rw [← ha]; rfl
      generalize (rWs m st7).1 = ws at *
      generalize (rWs m st7).2 = ta at *
      have HE : Hid (Rz 71 (be + 1) w bx br be #[.int .i64 2, .int .u32 (c : Int), .int .u32 (n : Int), .int .u64 (sp : Int), .int .u32 (sq : Int), .int .u64 0, .int .u32 0, .int .u64 (mp : Int), .int .u32 (mq : Int), .string (bs prim), .int .u8 0, .bool false, .slice ao ws.length cp] (.slice ao ws.length cp) ws ta wr) := hE
      have HQ : Hid (ws.length = m) := hlm
      clear hE hlm
      obtain ⟨key, tb, hA⟩ : ∃ key tb, rdText 1 32 ta = (key, tb) := ⟨_, _, rfl⟩
      have T1 : Hid (rdText 1 32 ta = (key, tb)) := hA
      have HL : Hid (tb.l.length ≤ ta.l.length) := by have := rdText_le 1 32 ta; rw [hA] at this; exact this
      clear hA
      have C : Hid (1 = 1 → Calls Try.prog 36 #[.pointer (some ⟨br, 0, none⟩), .int .i64 1, .int .i64 32] wr fun r w' => r = .returned (.string (bs key)) ∧ RdAt 71 br tb w' ∧ Sole br wr w') := fun _ => by
        have := text27 br ta 1 32 wr HE.out.r (by have := HE.out.len; omega) (by omega) (by omega) (by omega) (by omega)
        rw [T1.out] at this
        exact this
      go_wp2_with fail
      refine (C.out (by simp)).mono ?_
      rintro r xa ⟨rfl, hr, hs⟩
      have HA : Hid (Rz 71 (be + 1) w bx br be #[.int .i64 2, .int .u32 (c : Int), .int .u32 (n : Int), .int .u64 (sp : Int), .int .u32 (sq : Int), .int .u64 0, .int .u32 0, .int .u64 (mp : Int), .int .u32 (mq : Int), .string (bs prim), .int .u8 0, .bool false, .slice ao ws.length cp] (.slice ao ws.length cp) ws tb xa) := HE.out.rd hr hs HL.out
      clear hr hs C HL HE
      go_upto_region 27 with fail
      have HB0 : Hid _ := HA.out.box ⟨key, [], false⟩
      obtain ⟨ya, hya⟩ : ∃ ya, xa.alloc (.cells #[.string (bs key), .string ⟨#[]⟩, .bool false] 60) = ya := ⟨_, rfl⟩
      obtain ⟨bw, hbw⟩ : ∃ b, xa.heap.size = b := ⟨_, rfl⟩
      have HB : Hid (Rb 71 (be + 1) w bx br be bw #[.int .i64 2, .int .u32 (c : Int), .int .u32 (n : Int), .int .u64 (sp : Int), .int .u32 (sq : Int), .int .u64 0, .int .u32 0, .int .u64 (mp : Int), .int .u32 (mq : Int), .string (bs prim), .int .u8 0, .bool false, .slice ao ws.length cp] (.slice ao ws.length cp) ws tb ⟨key, [], false⟩ ya) := by rw [← hya, ← hbw]; exact HB0.out
      rw [hya, hbw]
      clear HB0 HA hya hbw
      obtain ⟨d, tc, hA⟩ : ∃ d tc, rdFlag tb = (d, tc) := ⟨_, _, rfl⟩
      have T2 : Hid (rdFlag tb = (d, tc)) := hA
      have HL : Hid (tc.l.length ≤ tb.l.length) := by have := rdFlag_le tb; rw [hA] at this; exact this
      clear hA
      have C : Hid (1 = 1 → Calls Try.prog 38 #[.pointer (some ⟨br, 0, none⟩)] ya fun r w' => r = .returned (.bool d) ∧ RdAt 71 br tc w' ∧ Sole br ya w') := fun _ => by
        have := flag28 br tb ya HB.out.z.r
        rw [T2.out] at this
        exact this
      go_wp2_with fail
      refine (C.out (by simp)).mono ?_
      rintro r xb ⟨rfl, hr, hs⟩
      have HC : Hid (Rb 71 (be + 1) w bx br be bw #[.int .i64 2, .int .u32 (c : Int), .int .u32 (n : Int), .int .u64 (sp : Int), .int .u32 (sq : Int), .int .u64 0, .int .u32 0, .int .u64 (mp : Int), .int .u32 (mq : Int), .string (bs prim), .int .u8 0, .bool false, .slice ao ws.length cp] (.slice ao ws.length cp) ws tc ⟨key, [], false⟩ xb) := HB.out.rd hr hs HL.out
      clear hr hs C HL HB
      have q2 : xb.cell? ⟨bw, 2, none⟩ = some (.bool false) := block_cell HC.out.b rfl
      have f2 : xb.frozen? ⟨bw, 2, none⟩ = false := block_frozen HC.out.b 2
      obtain ⟨yb, hyb⟩ : ∃ yb, xb.setCell ⟨bw, 2, none⟩ (.bool d) = yb := ⟨_, rfl⟩
      have HD : Hid (Rb 71 (be + 1) w bx br be bw #[.int .i64 2, .int .u32 (c : Int), .int .u32 (n : Int), .int .u64 (sp : Int), .int .u32 (sq : Int), .int .u64 0, .int .u32 0, .int .u64 (mp : Int), .int .u32 (mq : Int), .string (bs prim), .int .u8 0, .bool false, .slice ao ws.length cp] (.slice ao ws.length cp) ws tc ⟨key, [], d⟩ yb) := by rw [← hyb]; exact HC.out.set 2 (.bool d) ⟨key, [], d⟩ rfl
      clear HC
      obtain ⟨va, td, hA⟩ : ∃ va td, rdText 0 256 tc = (va, td) := ⟨_, _, rfl⟩
      have T3 : Hid (rdText 0 256 tc = (va, td)) := hA
      have HL : Hid (td.l.length ≤ tc.l.length) := by have := rdText_le 0 256 tc; rw [hA] at this; exact this
      clear hA
      have C : Hid (1 = 1 → Calls Try.prog 36 #[.pointer (some ⟨br, 0, none⟩), .int .i64 0, .int .i64 256] yb fun r w' => r = .returned (.string (bs va)) ∧ RdAt 71 br td w' ∧ Sole br yb w') := fun _ => by
        have := text27 br tc 0 256 yb HD.out.z.r (by have := HD.out.z.len; omega) (by omega) (by omega) (by omega) (by omega)
        rw [T3.out] at this
        exact this
      go_wp2_with fail
      refine (C.out (by simp)).mono ?_
      rintro r xc ⟨rfl, hr, hs⟩
      have HF : Hid (Rb 71 (be + 1) w bx br be bw #[.int .i64 2, .int .u32 (c : Int), .int .u32 (n : Int), .int .u64 (sp : Int), .int .u32 (sq : Int), .int .u64 0, .int .u32 0, .int .u64 (mp : Int), .int .u32 (mq : Int), .string (bs prim), .int .u8 0, .bool false, .slice ao ws.length cp] (.slice ao ws.length cp) ws td ⟨key, [], d⟩ xc) := HD.out.rd hr hs HL.out
      clear hr hs C HL HD hyb q2 f2
      have q1 : xc.cell? ⟨bw, 1, none⟩ = some (.string ⟨#[]⟩) := block_cell HF.out.b rfl
      have f1 : xc.frozen? ⟨bw, 1, none⟩ = false := block_frozen HF.out.b 1
      obtain ⟨yc, hyc⟩ : ∃ yc, xc.setCell ⟨bw, 1, none⟩ (.string (bs va)) = yc := ⟨_, rfl⟩
      have HG : Hid (Rb 71 (be + 1) w bx br be bw #[.int .i64 2, .int .u32 (c : Int), .int .u32 (n : Int), .int .u64 (sp : Int), .int .u32 (sq : Int), .int .u64 0, .int .u32 0, .int .u64 (mp : Int), .int .u32 (mq : Int), .string (bs prim), .int .u8 0, .bool false, .slice ao ws.length cp] (.slice ao ws.length cp) ws td ⟨key, va, d⟩ yc) := by rw [← hyc]; exact HF.out.set 1 (.string (bs va)) ⟨key, va, d⟩ rfl
      clear HF
      have g12 : yc.cell? ⟨be, 12, none⟩ = some (.slice ao ws.length cp) := block_cell HG.out.z.y rfl
      have j0 : yc.cell? ⟨bw, 0, none⟩ = some (.string (bs key)) := block_cell HG.out.b rfl
      have j1 : yc.cell? ⟨bw, 1, none⟩ = some (.string (bs va)) := block_cell HG.out.b rfl
      have j2 : yc.cell? ⟨bw, 2, none⟩ = some (.bool d) := block_cell HG.out.b rfl
      have HOw : Hid (Ow (be + 1) 60 3 (.slice ao ws.length cp) ws.length (rowC wrc ws) (yc.heap.size + 1) (.slice (some ⟨yc.heap.size, 0, none⟩) 1 1) 1 (rowC wrc [⟨key, va, d⟩]) (yc.alloc (.cells #[.string (bs key), .string (bs va), .bool d] 60))) := wr_ow ⟨key, va, d⟩ HG.out.z.own HG.out.z.big (by have := HQ.out; omega)
      go_wp2_with (at_builtin; refine wpList_append_rw HOw.out Try.underlying28 hin hi0 hi1 hi2 rfl (by decide) (by decide) (.tmp 96) (.tmp 98) rfl rfl rfl rfl ?_)
      intro v' w9 hown hg hat
      obtain ⟨sa, sc, rfl, -, -, -, -⟩ := rw_own hown
      have HG9 : Hid (Rz 71 (be + 1) w bx br be #[.int .i64 2, .int .u32 (c : Int), .int .u32 (n : Int), .int .u64 (sp : Int), .int .u32 (sq : Int), .int .u64 0, .int .u32 0, .int .u64 (mp : Int), .int .u32 (mq : Int), .string (bs prim), .int .u8 0, .bool false, .slice ao ws.length cp] (.slice sa (ws.length + 1) sc) (ws ++ [⟨key, va, d⟩]) td w9) := HG.out.grow rfl hown hg
      clear hown hg hat HOw g12 j0 j1 j2 HG hyc q1 f1
      have g12 : w9.cell? ⟨be, 12, none⟩ = some (.slice ao ws.length cp) := block_cell HG9.out.y rfl
      have f12 : w9.frozen? ⟨be, 12, none⟩ = false := block_frozen HG9.out.y 12
      obtain ⟨y9, hy9⟩ : ∃ y9, w9.setCell ⟨be, 12, none⟩ (.slice sa (ws.length + 1) sc) = y9 := ⟨_, rfl⟩
      have HY9 : Hid (Rz 71 (be + 1) w bx br be #[.int .i64 2, .int .u32 (c : Int), .int .u32 (n : Int), .int .u64 (sp : Int), .int .u32 (sq : Int), .int .u64 0, .int .u32 0, .int .u64 (mp : Int), .int .u32 (mq : Int), .string (bs prim), .int .u8 0, .bool false, .slice sa (ws.length + 1) sc] (.slice sa (ws.length + 1) sc) (ws ++ [⟨key, va, d⟩]) td y9) := by rw [← hy9]; exact HG9.out.put 12 (.slice sa (ws.length + 1) sc)
      clear HG9
      have HNX : Hid (rWs (m + 1) st7 = (ws ++ [⟨key, va, d⟩], td)) := HN.out (⟨key, va, d⟩, td) (by unfold rWr; rw [T1.out]; simp only; rw [T2.out]; simp only; rw [T3.out])
      have HQ1 : Hid (m + 1 ≤ nw) := hml
      clear HN T1 T2 T3
      go_wp2_with fail
      go_roundw
      case rel =>
        refine ⟨m + 1, HQ1.out, by go_num, sa, sc, ?_⟩
        rw [HNX.out]
        simp only [List.length_append, List.length_cons, List.length_nil, Nat.zero_add]
        exact HY9.out
      case measure => simp [intOf]; omega
    · have hml1 : ¬ (m : Int) < nw := by omega
      have hme : m = nw := by omega
      have HWS : Hid (rWs nw st7 = ((rWs m st7).1, (rWs m st7).2)) := by rw [hme]; rfl
      generalize (rWs m st7).1 = ws at *
      generalize (rWs m st7).2 = tz at *
      have HE : Hid (Rz 71 (be + 1) w bx br be #[.int .i64 2, .int .u32 (c : Int), .int .u32 (n : Int), .int .u64 (sp : Int), .int .u32 (sq : Int), .int .u64 0, .int .u32 0, .int .u64 (mp : Int), .int .u32 (mq : Int), .string (bs prim), .int .u8 0, .bool false, .slice ao ws.length cp] (.slice ao ws.length cp) ws tz wr) := hE
      clear hE hlm hme
      have HRW : Hid (rawE s = ((En.mk 2 c n sp sq 0 0 mp mq prim 0 false ws), tz)) := by
        show _ = _
        simp [rawE, rBy, rSt, rMin, rPrim, rCnt, rAt, rPt, rDn, hasBy, hasSt, hasAt, hasPt, H1.out, H2.out, H3.out, H4.out, H5.out, H6.out, H7.out, HWS.out]
      have C : Hid (1 = 1 → Calls Try.prog 39 #[.pointer (some ⟨br, 0, none⟩)] wr fun r w' => r = .returned (.int .i64 (rdEnd tz)) ∧ wr = w') := fun _ => end33 br tz wr HE.out.r
      have p0 : wr.cell? ⟨be, 0, none⟩ = some (.int .i64 2) := block_cell HE.out.y rfl
      clear H1 H2 H3 H4 H5 H6 H7 HWS
      go_wp2_with fail
      refine (C.out (by simp)).mono ?_
      rintro r w5 ⟨rfl, rfl⟩
      clear C p0 
      by_cases hz : rdEnd tz = 0
      · rw [hz]
        have CR : Hid (1 = 1 → Calls Try.prog 19 #[.agg #[.int .i64 2, .int .u32 (c : Int), .int .u32 (n : Int), .int .u64 (sp : Int), .int .u32 (sq : Int), .int .u64 0, .int .u32 0, .int .u64 (mp : Int), .int .u32 (mq : Int), .string (bs prim), .int .u8 0, .bool false, .slice ao ws.length cp]] wr fun r w' => r = .returned (.bool (rightE (En.mk 2 c n sp sq 0 0 mp mq prim 0 false ws))) ∧ Below wr.heap.size wr w') := fun _ => right22 (En.mk 2 c n sp sq 0 0 mp mq prim 0 false ws) ao cp wr (rw_own HE.out.own)
        obtain ⟨q, hq⟩ : ∃ q, rightE (En.mk 2 c n sp sq 0 0 mp mq prim 0 false ws) = q := ⟨_, rfl⟩
        have HQQ : Hid (rightE (En.mk 2 c n sp sq 0 0 mp mq prim 0 false ws) = q) := hq
        have HZZ : Hid (rdEnd tz = 0) := hz
        rw [hq] at CR
        clear hq hz
        obtain ⟨p0, p1, p2, p3, p4, p5, p6, p7, p8, p9, p10, p11, p12⟩ := all13 HE.out.y
        go_wp2_with fail
        refine (CR.out (by simp)).mono ?_
        rintro r w6 ⟨rfl, hb6⟩
        have H6 : Hid (Rz 71 (be + 1) w bx br be #[.int .i64 2, .int .u32 (c : Int), .int .u32 (n : Int), .int .u64 (sp : Int), .int .u32 (sq : Int), .int .u64 0, .int .u32 0, .int .u64 (mp : Int), .int .u32 (mq : Int), .string (bs prim), .int .u8 0, .bool false, .slice ao ws.length cp] (.slice ao ws.length cp) ws tz w6) := HE.out.on hb6
        clear hb6 CR HE p0 p1 p2 p3 p4 p5 p6 p7 p8 p9 p10 p11 p12
        cases q
        · have HNO : Hid (readE s = none) := by show _ = _; unfold readE; rw [HRW.out]; exact if_neg (fun h => by have := h.2; rw [HQQ.out] at this; cases this)
          obtain ⟨y0, y1, y2, y3, y4, y5, y6, y7, y8, y9, y10, y11, y12⟩ := all13 H6.out.x
          obtain ⟨z0, z1, z2, z3, z4, z5, z6, z7, z8, z9, z10, z11, z12⟩ := froz13 H6.out.x
          have HI : Hid _ := bx13 (.int .i64 0) (.int .u32 0) (.int .u32 0) (.int .u64 0) (.int .u32 0) (.int .u64 0) (.int .u32 0) (.int .u64 0) (.int .u32 0) (.string ⟨#[]⟩) (.int .u8 0) (.bool false) (.slice none 0 0) H6.out.x
          have HBw : Hid _ := bx13_below (.int .i64 0) (.int .u32 0) (.int .u32 0) (.int .u64 0) (.int .u32 0) (.int .u64 0) (.int .u32 0) (.int .u64 0) (.int .u32 0) (.string ⟨#[]⟩) (.int .u8 0) (.bool false) (.slice none 0 0) H6.out.bel H6.out.lx
          go_wp2_with fail
          obtain ⟨r0, r1, r2, r3, r4, r5, r6, r7, r8, r9, r10, r11, r12⟩ := all13 HI.out
          refine bodyPost_ret (v := .tuple #[.agg #[.int .i64 0, .int .u32 0, .int .u32 0, .int .u64 0, .int .u32 0, .int .u64 0, .int .u32 0, .int .u64 0, .int .u32 0, .string ⟨#[]⟩, .int .u8 0, .bool false, .slice none 0 0], .int .i64 2]) (by simp [results, Try.results13, go_sem, r0, r1, r2, r3, r4, r5, r6, r7, r8, r9, r10, r11, r12]) rfl ?_
          exact ⟨HBw.out, fun _ => rfl, fun e he => by rw [HNO.out] at he; cases he⟩
        · have HSO : Hid (readE s = some (En.mk 2 c n sp sq 0 0 mp mq prim 0 false ws)) := by show _ = _; unfold readE; rw [HRW.out]; exact if_pos ⟨HZZ.out, HQQ.out⟩
          obtain ⟨y0, y1, y2, y3, y4, y5, y6, y7, y8, y9, y10, y11, y12⟩ := all13 H6.out.x
          obtain ⟨z0, z1, z2, z3, z4, z5, z6, z7, z8, z9, z10, z11, z12⟩ := froz13 H6.out.x
          obtain ⟨x0, x1, x2, x3, x4, x5, x6, x7, x8, x9, x10, x11, x12⟩ := all13 H6.out.y
          have HI : Hid _ := bx13 (.int .i64 2) (.int .u32 (c : Int)) (.int .u32 (n : Int)) (.int .u64 (sp : Int)) (.int .u32 (sq : Int)) (.int .u64 0) (.int .u32 0) (.int .u64 (mp : Int)) (.int .u32 (mq : Int)) (.string (bs prim)) (.int .u8 0) (.bool false) (.slice ao ws.length cp) H6.out.x
          have HBw : Hid _ := bx13_below (.int .i64 2) (.int .u32 (c : Int)) (.int .u32 (n : Int)) (.int .u64 (sp : Int)) (.int .u32 (sq : Int)) (.int .u64 0) (.int .u32 0) (.int .u64 (mp : Int)) (.int .u32 (mq : Int)) (.string (bs prim)) (.int .u8 0) (.bool false) (.slice ao ws.length cp) H6.out.bel H6.out.lx
          have HKp : Hid _ := bx13_kept (b := bx) (W := w6) (.int .i64 2) (.int .u32 (c : Int)) (.int .u32 (n : Int)) (.int .u64 (sp : Int)) (.int .u32 (sq : Int)) (.int .u64 0) (.int .u32 0) (.int .u64 (mp : Int)) (.int .u32 (mq : Int)) (.string (bs prim)) (.int .u8 0) (.bool false) (.slice ao ws.length cp)
          go_wp2_with fail
          obtain ⟨r0, r1, r2, r3, r4, r5, r6, r7, r8, r9, r10, r11, r12⟩ := all13 HI.out
          refine bodyPost_ret (v := .tuple #[.agg #[.int .i64 2, .int .u32 (c : Int), .int .u32 (n : Int), .int .u64 (sp : Int), .int .u32 (sq : Int), .int .u64 0, .int .u32 0, .int .u64 (mp : Int), .int .u32 (mq : Int), .string (bs prim), .int .u8 0, .bool false, .slice ao ws.length cp], .int .i64 0]) (by simp [results, Try.results13, go_sem, r0, r1, r2, r3, r4, r5, r6, r7, r8, r9, r10, r11, r12]) rfl ?_
          unfold RdPost
          refine ⟨HBw.out, fun hn => absurd (HSO.out.symm.trans hn) (by simp), fun e he => ?_⟩
          rw [HSO.out] at he
          cases he
          exact ⟨ao, cp, rfl, rw_own (own_kept H6.out.own HKp.out (fun k hk hf => by have h1 := H6.out.ob k hk; have h2 := H6.out.xb; omega))⟩
      · have HNO : Hid (readE s = none) := by show _ = _; unfold readE; rw [HRW.out]; exact if_neg (fun h => hz h.1)
        have hz1 : ¬ ((rdEnd tz : Nat) : Int) = 0 := by omega
        obtain ⟨y0, y1, y2, y3, y4, y5, y6, y7, y8, y9, y10, y11, y12⟩ := all13 HE.out.x
        obtain ⟨z0, z1, z2, z3, z4, z5, z6, z7, z8, z9, z10, z11, z12⟩ := froz13 HE.out.x
        have HI : Hid _ := bx13 (.int .i64 0) (.int .u32 0) (.int .u32 0) (.int .u64 0) (.int .u32 0) (.int .u64 0) (.int .u32 0) (.int .u64 0) (.int .u32 0) (.string ⟨#[]⟩) (.int .u8 0) (.bool false) (.slice none 0 0) HE.out.x
        have HBw : Hid _ := bx13_below (.int .i64 0) (.int .u32 0) (.int .u32 0) (.int .u64 0) (.int .u32 0) (.int .u64 0) (.int .u32 0) (.int .u64 0) (.int .u32 0) (.string ⟨#[]⟩) (.int .u8 0) (.bool false) (.slice none 0 0) HE.out.bel HE.out.lx
        go_wp2_with fail
        obtain ⟨r0, r1, r2, r3, r4, r5, r6, r7, r8, r9, r10, r11, r12⟩ := all13 HI.out
        refine bodyPost_ret (v := .tuple #[.agg #[.int .i64 0, .int .u32 0, .int .u32 0, .int .u64 0, .int .u32 0, .int .u64 0, .int .u32 0, .int .u64 0, .int .u32 0, .string ⟨#[]⟩, .int .u8 0, .bool false, .slice none 0 0], .int .i64 2]) (by simp [results, Try.results13, go_sem, r0, r1, r2, r3, r4, r5, r6, r7, r8, r9, r10, r11, r12]) rfl ?_
        exact ⟨HBw.out, fun _ => rfl, fun e he => by rw [HNO.out] at he; cases he⟩
end Go.Proofs.Ytmgjlpgjjeknpaa

namespace Go.Proofs.Ytmgjlpgjjeknpaa
open Go.RowKit Go.Sort

set_option maxHeartbeats 3200000 in
set_option maxRecDepth 100000 in
theorem rd13_8 (s : List UInt8) (w : World) (hl : s.length < 4611686018427387904) (hk : (rdNum 9 ⟨s, 0⟩).1 = 8) : Calls Try.prog 13 #[.string (bs s)] w (RdPost s w) := by
  have HW : Hid _ := @rz_new w s hl
  obtain ⟨W1, hW1⟩ : ∃ W1, w.alloc (.cells #[.int .i64 0, .int .u32 0, .int .u32 0, .int .u64 0, .int .u32 0, .int .u64 0, .int .u32 0, .int .u64 0, .int .u32 0, .string ⟨#[]⟩, .int .u8 0, .bool false, .slice none 0 0] 30) = W1 := ⟨_, rfl⟩
  obtain ⟨W2, hW2⟩ : ∃ W2, W1.alloc (.cells #[.string (bs s), .int .i64 0] 71) = W2 := ⟨_, rfl⟩
  have s1 : W1.heap.size = w.heap.size + 1 := by rw [← hW1]; simp
  obtain ⟨bx, hbx⟩ : ∃ b, w.heap.size = b := ⟨_, rfl⟩
  obtain ⟨br, hbr⟩ : ∃ b, W1.heap.size = b := ⟨_, rfl⟩
  have R2 : Hid (RdAt 71 br ⟨s, 0⟩ W2) := by
    show _ = _
    rw [← hW2, ← hbr]
    exact heap_alloc_new W1 _
  have HW2 : Hid ((w.alloc (.cells #[.int .i64 0, .int .u32 0, .int .u32 0, .int .u64 0, .int .u32 0, .int .u64 0, .int .u32 0, .int .u64 0, .int .u32 0, .string ⟨#[]⟩, .int .u8 0, .bool false, .slice none 0 0] 30)).alloc (.cells #[.string (bs s), .int .i64 0] 71) = W2) := by
    show _ = _
    rw [hW1]
    exact hW2
  have Hbx : Hid (w.heap.size = bx) := hbx
  have Hbr : Hid (w.heap.size + 1 = br) := by show _ = _; rw [← hbr, s1]
  have hle := rdNum_le 9 ⟨s, 0⟩
  obtain ⟨st1, hst1⟩ : ∃ x, (rdNum 9 ⟨s, 0⟩).2 = x := ⟨_, rfl⟩
  have H1 : Hid (rdNum 9 ⟨s, 0⟩ = (8, st1)) := Prod.ext hk hst1
  have HL : Hid (st1.l.length ≤ s.length) := by rw [← hst1]; exact hle.2.1
  have C : Hid (1 = 1 → Calls Try.prog 34 #[.pointer (some ⟨br, 0, none⟩), .int .u64 9] W2 fun r w' => r = .returned (.int .u64 8) ∧ RdAt 71 br st1 w' ∧ Sole br W2 w') := fun _ => by
    have := num26 br ⟨s, 0⟩ 9 W2 R2.out (by show s.length < _; omega)
    rw [H1.out] at this
    exact this
  clear hle hst1 hk s1 R2
  go_enter Try.func13, Try.ntmps13
  go_wp2_with fail
  refine (C.out (by simp)).mono ?_
  rintro r w1 ⟨rfl, hr, hs⟩
  have HZ : Hid _ := HW.out HW2.out (by rw [Hbr.out]; exact hr) (by rw [Hbr.out]; exact hs) HL.out #[.int .i64 8, .int .u32 0, .int .u32 0, .int .u64 0, .int .u32 0, .int .u64 0, .int .u32 0, .int .u64 0, .int .u32 0, .string ⟨#[]⟩, .int .u8 0, .bool false, .slice none 0 0]
  clear hr hs C hW1 hW2 hbr HW
  go_upto_region 3 with fail
  obtain ⟨Y0, hY0⟩ : ∃ Y0, w1.alloc (.cells #[.int .i64 8, .int .u32 0, .int .u32 0, .int .u64 0, .int .u32 0, .int .u64 0, .int .u32 0, .int .u64 0, .int .u32 0, .string ⟨#[]⟩, .int .u8 0, .bool false, .slice none 0 0] 30) = Y0 := ⟨_, rfl⟩
  obtain ⟨be, hbe⟩ : ∃ b, w1.heap.size = b := ⟨_, rfl⟩
  have HZ0 : Hid (Rz 71 (be + 1) w bx br be #[.int .i64 8, .int .u32 0, .int .u32 0, .int .u64 0, .int .u32 0, .int .u64 0, .int .u32 0, .int .u64 0, .int .u32 0, .string ⟨#[]⟩, .int .u8 0, .bool false, .slice none 0 0] (.slice none 0 0) [] st1 Y0) := by
    rw [← hY0, ← hbe, ← Hbr.out, ← Hbx.out]
    exact HZ.out
  rw [hY0, hbe]
  clear HZ HW2 hbx HL hY0 hbe
  obtain ⟨c, st2, hA⟩ : ∃ c st2, rdNum 4294967295 st1 = (c, st2) := ⟨_, _, rfl⟩
  have H2 : Hid (rdNum 4294967295 st1 = (c, st2)) := hA
  have HL : Hid (st2.l.length ≤ st1.l.length) := by have := (rdNum_le 4294967295 st1).2.1; rw [hA] at this; exact this
  have bd2 : c ≤ 4294967295 := by have := (rdNum_le 4294967295 st1).1; rw [hA] at this; exact this
  clear hA
  have C : Hid (1 = 1 → Calls Try.prog 34 #[.pointer (some ⟨br, 0, none⟩), .int .u64 4294967295] Y0 fun r w' => r = .returned (.int .u64 (c : Int)) ∧ RdAt 71 br st2 w' ∧ Sole br Y0 w') := fun _ => by
    have := num26 br st1 4294967295 Y0 HZ0.out.r (by have := HZ0.out.len; omega)
    skip
    rw [H2.out] at this
    exact this
  have p0 : Y0.cell? ⟨be, 0, none⟩ = some (.int .i64 8) := block_cell HZ0.out.y rfl
  go_wp2_with fail
  refine (C.out (by simp)).mono ?_
  rintro r x2 ⟨rfl, hr, hs⟩
  have HX2 : Hid (Rz 71 (be + 1) w bx br be #[.int .i64 8, .int .u32 0, .int .u32 0, .int .u64 0, .int .u32 0, .int .u64 0, .int .u32 0, .int .u64 0, .int .u32 0, .string ⟨#[]⟩, .int .u8 0, .bool false, .slice none 0 0] (.slice none 0 0) [] st2 x2) := HZ0.out.rd hr hs HL.out
  clear hr hs C p0 HL HZ0 
  have xw := u32w bd2
  have q1 : x2.cell? ⟨be, 1, none⟩ = some (.int .u32 0) := block_cell HX2.out.y rfl
  have f1 : x2.frozen? ⟨be, 1, none⟩ = false := block_frozen HX2.out.y 1
  obtain ⟨Y2, hY2⟩ : ∃ Y2, (x2.setCell ⟨be, 1, none⟩ (.int .u32 (c : Int))) = Y2 := ⟨_, rfl⟩
  have HZ2 : Hid (Rz 71 (be + 1) w bx br be #[.int .i64 8, .int .u32 (c : Int), .int .u32 0, .int .u64 0, .int .u32 0, .int .u64 0, .int .u32 0, .int .u64 0, .int .u32 0, .string ⟨#[]⟩, .int .u8 0, .bool false, .slice none 0 0] (.slice none 0 0) [] st2 Y2) := by
    rw [← hY2]
    exact (HX2.out.put 1 (.int .u32 (c : Int)))
  clear HX2
  obtain ⟨n, st3, hA⟩ : ∃ n st3, rdNum 4294967295 st2 = (n, st3) := ⟨_, _, rfl⟩
  have H3 : Hid (rdNum 4294967295 st2 = (n, st3)) := hA
  have HL : Hid (st3.l.length ≤ st2.l.length) := by have := (rdNum_le 4294967295 st2).2.1; rw [hA] at this; exact this
  have bd3 : n ≤ 4294967295 := by have := (rdNum_le 4294967295 st2).1; rw [hA] at this; exact this
  clear hA
  have C : Hid (1 = 1 → Calls Try.prog 34 #[.pointer (some ⟨br, 0, none⟩), .int .u64 4294967295] Y2 fun r w' => r = .returned (.int .u64 (n : Int)) ∧ RdAt 71 br st3 w' ∧ Sole br Y2 w') := fun _ => by
    have := num26 br st2 4294967295 Y2 HZ2.out.r (by have := HZ2.out.len; omega)
    skip
    rw [H3.out] at this
    exact this
  have p0 : Y2.cell? ⟨be, 0, none⟩ = some (.int .i64 8) := block_cell HZ2.out.y rfl
  go_wp2_with fail
  refine (C.out (by simp)).mono ?_
  rintro r x3 ⟨rfl, hr, hs⟩
  have HX3 : Hid (Rz 71 (be + 1) w bx br be #[.int .i64 8, .int .u32 (c : Int), .int .u32 0, .int .u64 0, .int .u32 0, .int .u64 0, .int .u32 0, .int .u64 0, .int .u32 0, .string ⟨#[]⟩, .int .u8 0, .bool false, .slice none 0 0] (.slice none 0 0) [] st3 x3) := HZ2.out.rd hr hs HL.out
  clear hr hs C p0 HL HZ2 hY2 q1 f1 xw
  have xw := u32w bd3
  have q2 : x3.cell? ⟨be, 2, none⟩ = some (.int .u32 0) := block_cell HX3.out.y rfl
  have f2 : x3.frozen? ⟨be, 2, none⟩ = false := block_frozen HX3.out.y 2
  obtain ⟨Y3, hY3⟩ : ∃ Y3, (x3.setCell ⟨be, 2, none⟩ (.int .u32 (n : Int))) = Y3 := ⟨_, rfl⟩
  have HZ3 : Hid (Rz 71 (be + 1) w bx br be #[.int .i64 8, .int .u32 (c : Int), .int .u32 (n : Int), .int .u64 0, .int .u32 0, .int .u64 0, .int .u32 0, .int .u64 0, .int .u32 0, .string ⟨#[]⟩, .int .u8 0, .bool false, .slice none 0 0] (.slice none 0 0) [] st3 Y3) := by
    rw [← hY3]
    exact (HX3.out.put 2 (.int .u32 (n : Int)))
  clear HX3
  obtain ⟨ap, aq, st4, hA⟩ : ∃ ap aq st4, rdStamp st3 = ((ap, aq), st4) := ⟨_, _, _, rfl⟩
  have H4 : Hid (rdStamp st3 = ((ap, aq), st4)) := hA
  have HL : Hid (st4.l.length ≤ st3.l.length) := by have := rdStamp_le st3; rw [hA] at this; exact this
  clear hA
  have C : Hid (1 = 1 → Calls Try.prog 35 #[.pointer (some ⟨br, 0, none⟩)] Y3 fun r w' => r = .returned (.agg #[.int .u64 (ap : Int), .int .u32 (aq : Int)]) ∧ RdAt 71 br st4 w' ∧ Sole br Y3 w') := fun _ => by
    have := stamp29 br st3 Y3 HZ3.out.r (by have := HZ3.out.len; omega)
    skip
    rw [H4.out] at this
    exact this
  have p0 : Y3.cell? ⟨be, 0, none⟩ = some (.int .i64 8) := block_cell HZ3.out.y rfl
  go_wp2_with fail
  refine (C.out (by simp)).mono ?_
  rintro r x4 ⟨rfl, hr, hs⟩
  have HX4 : Hid (Rz 71 (be + 1) w bx br be #[.int .i64 8, .int .u32 (c : Int), .int .u32 (n : Int), .int .u64 0, .int .u32 0, .int .u64 0, .int .u32 0, .int .u64 0, .int .u32 0, .string ⟨#[]⟩, .int .u8 0, .bool false, .slice none 0 0] (.slice none 0 0) [] st4 x4) := HZ3.out.rd hr hs HL.out
  clear hr hs C p0 HL HZ3 hY3 q2 f2 xw
  have q5 : x4.cell? ⟨be, 5, none⟩ = some (.int .u64 0) := block_cell HX4.out.y rfl
  have f5 : x4.frozen? ⟨be, 5, none⟩ = false := block_frozen HX4.out.y 5
  have q6 : x4.cell? ⟨be, 6, none⟩ = some (.int .u32 0) := block_cell HX4.out.y rfl
  have f6 : x4.frozen? ⟨be, 6, none⟩ = false := block_frozen HX4.out.y 6
  obtain ⟨Y4, hY4⟩ : ∃ Y4, ((x4.setCell ⟨be, 5, none⟩ (.int .u64 (ap : Int))).setCell ⟨be, 6, none⟩ (.int .u32 (aq : Int))) = Y4 := ⟨_, rfl⟩
  have HZ4 : Hid (Rz 71 (be + 1) w bx br be #[.int .i64 8, .int .u32 (c : Int), .int .u32 (n : Int), .int .u64 0, .int .u32 0, .int .u64 (ap : Int), .int .u32 (aq : Int), .int .u64 0, .int .u32 0, .string ⟨#[]⟩, .int .u8 0, .bool false, .slice none 0 0] (.slice none 0 0) [] st4 Y4) := by
    rw [← hY4]
    exact ((HX4.out.put 5 (.int .u64 (ap : Int))).put 6 (.int .u32 (aq : Int)))
  clear HX4
  have p0 : Y4.cell? ⟨be, 0, none⟩ = some (.int .i64 8) := block_cell HZ4.out.y rfl
  go_wp2_with fail
  clear p0 hY4 q5 f5 q6 f6
  obtain ⟨i0, hin, hi0, hi1, hi2⟩ := info_parts info53
  skip
  go_loopw [7] (fun i wr => ∃ m : Nat, m ≤ 1 ∧ i = .int .i64 m ∧ Hid (∃ ao cp, Rz 71 (be + 1) w bx br be #[.int .i64 8, .int .u32 (c : Int), .int .u32 (n : Int), .int .u64 0, .int .u32 0, .int .u64 (ap : Int), .int .u32 (aq : Int), .int .u64 0, .int .u32 0, .string ⟨#[]⟩, .int .u8 0, .bool false, .slice ao (rWs m st4).1.length cp] (.slice ao (rWs m st4).1.length cp) (rWs m st4).1 (rWs m st4).2 wr)) (fun i _ => 1 - (intOf i).toNat)
  case atStart => exact ⟨0, Nat.zero_le _, rfl, none, 0, HZ4.out⟩
  case round =>
    obtain ⟨m, hm, rfl, HR⟩ := hrel
    obtain ⟨ao, cp, hE⟩ := HR.out
    have hlm := rWs_len m st4
    clear HR HZ4
    by_cases hml : m < 1
    · have hml1 : (m : Int) < 1 := by omega
      have HN : Hid (∀ a : Wr × St, rWr (rWs m st4).2 = a → rWs (m + 1) st4 = ((rWs m st4).1 ++ [a.1], a.2)) := fun a ha => by rw [← ha]; rfl
      generalize (rWs m st4).1 = ws at *
      generalize (rWs m st4).2 = ta at *
      have HE : Hid (Rz 71 (be + 1) w bx br be #[.int .i64 8, .int .u32 (c : Int), .int .u32 (n : Int), .int .u64 0, .int .u32 0, .int .u64 (ap : Int), .int .u32 (aq : Int), .int .u64 0, .int .u32 0, .string ⟨#[]⟩, .int .u8 0, .bool false, .slice ao ws.length cp] (.slice ao ws.length cp) ws ta wr) := hE
      have HQ : Hid (ws.length = m) := hlm
      clear hE hlm
      obtain ⟨key, tb, hA⟩ : ∃ key tb, rdText 1 32 ta = (key, tb) := ⟨_, _, rfl⟩
      have T1 : Hid (rdText 1 32 ta = (key, tb)) := hA
      have HL : Hid (tb.l.length ≤ ta.l.length) := by have := rdText_le 1 32 ta; rw [hA] at this; exact this
      clear hA
      have C : Hid (1 = 1 → Calls Try.prog 36 #[.pointer (some ⟨br, 0, none⟩), .int .i64 1, .int .i64 32] wr fun r w' => r = .returned (.string (bs key)) ∧ RdAt 71 br tb w' ∧ Sole br wr w') := fun _ => by
        have := text27 br ta 1 32 wr HE.out.r (by have := HE.out.len; omega) (by omega) (by omega) (by omega) (by omega)
        rw [T1.out] at this
        exact this
      go_wp2_with fail
      refine (C.out (by simp)).mono ?_
      rintro r xa ⟨rfl, hr, hs⟩
      have HA : Hid (Rz 71 (be + 1) w bx br be #[.int .i64 8, .int .u32 (c : Int), .int .u32 (n : Int), .int .u64 0, .int .u32 0, .int .u64 (ap : Int), .int .u32 (aq : Int), .int .u64 0, .int .u32 0, .string ⟨#[]⟩, .int .u8 0, .bool false, .slice ao ws.length cp] (.slice ao ws.length cp) ws tb xa) := HE.out.rd hr hs HL.out
      clear hr hs C HL HE
      go_upto_region 27 with fail
      have HB0 : Hid _ := HA.out.box ⟨key, [], false⟩
      obtain ⟨ya, hya⟩ : ∃ ya, xa.alloc (.cells #[.string (bs key), .string ⟨#[]⟩, .bool false] 60) = ya := ⟨_, rfl⟩
      obtain ⟨bw, hbw⟩ : ∃ b, xa.heap.size = b := ⟨_, rfl⟩
      have HB : Hid (Rb 71 (be + 1) w bx br be bw #[.int .i64 8, .int .u32 (c : Int), .int .u32 (n : Int), .int .u64 0, .int .u32 0, .int .u64 (ap : Int), .int .u32 (aq : Int), .int .u64 0, .int .u32 0, .string ⟨#[]⟩, .int .u8 0, .bool false, .slice ao ws.length cp] (.slice ao ws.length cp) ws tb ⟨key, [], false⟩ ya) := by rw [← hya, ← hbw]; exact HB0.out
      rw [hya, hbw]
      clear HB0 HA hya hbw
      obtain ⟨d, tc, hA⟩ : ∃ d tc, rdFlag tb = (d, tc) := ⟨_, _, rfl⟩
      have T2 : Hid (rdFlag tb = (d, tc)) := hA
      have HL : Hid (tc.l.length ≤ tb.l.length) := by have := rdFlag_le tb; rw [hA] at this; exact this
      clear hA
      have C : Hid (1 = 1 → Calls Try.prog 38 #[.pointer (some ⟨br, 0, none⟩)] ya fun r w' => r = .returned (.bool d) ∧ RdAt 71 br tc w' ∧ Sole br ya w') := fun _ => by
        have := flag28 br tb ya HB.out.z.r
        rw [T2.out] at this
        exact this
      go_wp2_with fail
      refine (C.out (by simp)).mono ?_
      rintro r xb ⟨rfl, hr, hs⟩
      have HC : Hid (Rb 71 (be + 1) w bx br be bw #[.int .i64 8, .int .u32 (c : Int), .int .u32 (n : Int), .int .u64 0, .int .u32 0, .int .u64 (ap : Int), .int .u32 (aq : Int), .int .u64 0, .int .u32 0, .string ⟨#[]⟩, .int .u8 0, .bool false, .slice ao ws.length cp] (.slice ao ws.length cp) ws tc ⟨key, [], false⟩ xb) := HB.out.rd hr hs HL.out
      clear hr hs C HL HB
      have q2 : xb.cell? ⟨bw, 2, none⟩ = some (.bool false) := block_cell HC.out.b rfl
      have f2 : xb.frozen? ⟨bw, 2, none⟩ = false := block_frozen HC.out.b 2
      obtain ⟨yb, hyb⟩ : ∃ yb, xb.setCell ⟨bw, 2, none⟩ (.bool d) = yb := ⟨_, rfl⟩
      have HD : Hid (Rb 71 (be + 1) w bx br be bw #[.int .i64 8, .int .u32 (c : Int), .int .u32 (n : Int), .int .u64 0, .int .u32 0, .int .u64 (ap : Int), .int .u32 (aq : Int), .int .u64 0, .int .u32 0, .string ⟨#[]⟩, .int .u8 0, .bool false, .slice ao ws.length cp] (.slice ao ws.length cp) ws tc ⟨key, [], d⟩ yb) := by rw [← hyb]; exact HC.out.set 2 (.bool d) ⟨key, [], d⟩ rfl
      clear HC
      obtain ⟨va, td, hA⟩ : ∃ va td, rdText 0 256 tc = (va, td) := ⟨_, _, rfl⟩
      have T3 : Hid (rdText 0 256 tc = (va, td)) := hA
      have HL : Hid (td.l.length ≤ tc.l.length) := by have := rdText_le 0 256 tc; rw [hA] at this; exact this
      clear hA
      have C : Hid (1 = 1 → Calls Try.prog 36 #[.pointer (some ⟨br, 0, none⟩), .int .i64 0, .int .i64 256] yb fun r w' => r = .returned (.string (bs va)) ∧ RdAt 71 br td w' ∧ Sole br yb w') := fun _ => by
        have := text27 br tc 0 256 yb HD.out.z.r (by have := HD.out.z.len; omega) (by omega) (by omega) (by omega) (by omega)
        rw [T3.out] at this
        exact this
      go_wp2_with fail
      refine (C.out (by simp)).mono ?_
      rintro r xc ⟨rfl, hr, hs⟩
      have HF : Hid (Rb 71 (be + 1) w bx br be bw #[.int .i64 8, .int .u32 (c : Int), .int .u32 (n : Int), .int .u64 0, .int .u32 0, .int .u64 (ap : Int), .int .u32 (aq : Int), .int .u64 0, .int .u32 0, .string ⟨#[]⟩, .int .u8 0, .bool false, .slice ao ws.length cp] (.slice ao ws.length cp) ws td ⟨key, [], d⟩ xc) := HD.out.rd hr hs HL.out
      clear hr hs C HL HD hyb q2 f2
      have q1 : xc.cell? ⟨bw, 1, none⟩ = some (.string ⟨#[]⟩) := block_cell HF.out.b rfl
      have f1 : xc.frozen? ⟨bw, 1, none⟩ = false := block_frozen HF.out.b 1
      obtain ⟨yc, hyc⟩ : ∃ yc, xc.setCell ⟨bw, 1, none⟩ (.string (bs va)) = yc := ⟨_, rfl⟩
      have HG : Hid (Rb 71 (be + 1) w bx br be bw #[.int .i64 8, .int .u32 (c : Int), .int .u32 (n : Int), .int .u64 0, .int .u32 0, .int .u64 (ap : Int), .int .u32 (aq : Int), .int .u64 0, .int .u32 0, .string ⟨#[]⟩, .int .u8 0, .bool false, .slice ao ws.length cp] (.slice ao ws.length cp) ws td ⟨key, va, d⟩ yc) := by rw [← hyc]; exact HF.out.set 1 (.string (bs va)) ⟨key, va, d⟩ rfl
      clear HF
      have g12 : yc.cell? ⟨be, 12, none⟩ = some (.slice ao ws.length cp) := block_cell HG.out.z.y rfl
      have j0 : yc.cell? ⟨bw, 0, none⟩ = some (.string (bs key)) := block_cell HG.out.b rfl
      have j1 : yc.cell? ⟨bw, 1, none⟩ = some (.string (bs va)) := block_cell HG.out.b rfl
      have j2 : yc.cell? ⟨bw, 2, none⟩ = some (.bool d) := block_cell HG.out.b rfl
      have HOw : Hid (Ow (be + 1) 60 3 (.slice ao ws.length cp) ws.length (rowC wrc ws) (yc.heap.size + 1) (.slice (some ⟨yc.heap.size, 0, none⟩) 1 1) 1 (rowC wrc [⟨key, va, d⟩]) (yc.alloc (.cells #[.string (bs key), .string (bs va), .bool d] 60))) := wr_ow ⟨key, va, d⟩ HG.out.z.own HG.out.z.big (by have := HQ.out; omega)
      go_wp2_with (at_builtin; refine wpList_append_rw HOw.out Try.underlying28 hin hi0 hi1 hi2 rfl (by decide) (by decide) (.tmp 96) (.tmp 98) rfl rfl rfl rfl ?_)
      intro v' w9 hown hg hat
      obtain ⟨sa, sc, rfl, -, -, -, -⟩ := rw_own hown
      have HG9 : Hid (Rz 71 (be + 1) w bx br be #[.int .i64 8, .int .u32 (c : Int), .int .u32 (n : Int), .int .u64 0, .int .u32 0, .int .u64 (ap : Int), .int .u32 (aq : Int), .int .u64 0, .int .u32 0, .string ⟨#[]⟩, .int .u8 0, .bool false, .slice ao ws.length cp] (.slice sa (ws.length + 1) sc) (ws ++ [⟨key, va, d⟩]) td w9) := HG.out.grow rfl hown hg
      clear hown hg hat HOw g12 j0 j1 j2 HG hyc q1 f1
      have g12 : w9.cell? ⟨be, 12, none⟩ = some (.slice ao ws.length cp) := block_cell HG9.out.y rfl
      have f12 : w9.frozen? ⟨be, 12, none⟩ = false := block_frozen HG9.out.y 12
      obtain ⟨y9, hy9⟩ : ∃ y9, w9.setCell ⟨be, 12, none⟩ (.slice sa (ws.length + 1) sc) = y9 := ⟨_, rfl⟩
      have HY9 : Hid (Rz 71 (be + 1) w bx br be #[.int .i64 8, .int .u32 (c : Int), .int .u32 (n : Int), .int .u64 0, .int .u32 0, .int .u64 (ap : Int), .int .u32 (aq : Int), .int .u64 0, .int .u32 0, .string ⟨#[]⟩, .int .u8 0, .bool false, .slice sa (ws.length + 1) sc] (.slice sa (ws.length + 1) sc) (ws ++ [⟨key, va, d⟩]) td y9) := by rw [← hy9]; exact HG9.out.put 12 (.slice sa (ws.length + 1) sc)
      clear HG9
      have HNX : Hid (rWs (m + 1) st4 = (ws ++ [⟨key, va, d⟩], td)) := HN.out (⟨key, va, d⟩, td) (by unfold rWr; rw [T1.out]; simp only; rw [T2.out]; simp only; rw [T3.out])
      have HQ1 : Hid (m + 1 ≤ 1) := hml
      clear HN T1 T2 T3
      go_wp2_with fail
      go_roundw
      case rel =>
        refine ⟨m + 1, HQ1.out, by go_num, sa, sc, ?_⟩
        rw [HNX.out]
        simp only [List.length_append, List.length_cons, List.length_nil, Nat.zero_add]
        exact HY9.out
      case measure => simp [intOf]; omega
    · have hml1 : ¬ (m : Int) < 1 := by omega
      have hme : m = 1 := by omega
      have HWS : Hid (rWs 1 st4 = ((rWs m st4).1, (rWs m st4).2)) := by rw [hme]; rfl
      generalize (rWs m st4).1 = ws at *
      generalize (rWs m st4).2 = tz at *
      have HE : Hid (Rz 71 (be + 1) w bx br be #[.int .i64 8, .int .u32 (c : Int), .int .u32 (n : Int), .int .u64 0, .int .u32 0, .int .u64 (ap : Int), .int .u32 (aq : Int), .int .u64 0, .int .u32 0, .string ⟨#[]⟩, .int .u8 0, .bool false, .slice ao ws.length cp] (.slice ao ws.length cp) ws tz wr) := hE
      clear hE hlm hme
      have HRW : Hid (rawE s = ((En.mk 8 c n 0 0 ap aq 0 0 [] 0 false ws), tz)) := by
        show _ = _
        simp [rawE, rBy, rSt, rMin, rPrim, rCnt, rAt, rPt, rDn, hasBy, hasSt, hasAt, hasPt, H1.out, H2.out, H3.out, H4.out, HWS.out]
      have C : Hid (1 = 1 → Calls Try.prog 39 #[.pointer (some ⟨br, 0, none⟩)] wr fun r w' => r = .returned (.int .i64 (rdEnd tz)) ∧ wr = w') := fun _ => end33 br tz wr HE.out.r
      have p0 : wr.cell? ⟨be, 0, none⟩ = some (.int .i64 8) := block_cell HE.out.y rfl
      clear H1 H2 H3 H4 HWS
      go_wp2_with fail
      refine (C.out (by simp)).mono ?_
      rintro r w5 ⟨rfl, rfl⟩
      clear C p0 
      by_cases hz : rdEnd tz = 0
      · rw [hz]
        have CR : Hid (1 = 1 → Calls Try.prog 19 #[.agg #[.int .i64 8, .int .u32 (c : Int), .int .u32 (n : Int), .int .u64 0, .int .u32 0, .int .u64 (ap : Int), .int .u32 (aq : Int), .int .u64 0, .int .u32 0, .string ⟨#[]⟩, .int .u8 0, .bool false, .slice ao ws.length cp]] wr fun r w' => r = .returned (.bool (rightE (En.mk 8 c n 0 0 ap aq 0 0 [] 0 false ws))) ∧ Below wr.heap.size wr w') := fun _ => right22 (En.mk 8 c n 0 0 ap aq 0 0 [] 0 false ws) ao cp wr (rw_own HE.out.own)
        obtain ⟨q, hq⟩ : ∃ q, rightE (En.mk 8 c n 0 0 ap aq 0 0 [] 0 false ws) = q := ⟨_, rfl⟩
        have HQQ : Hid (rightE (En.mk 8 c n 0 0 ap aq 0 0 [] 0 false ws) = q) := hq
        have HZZ : Hid (rdEnd tz = 0) := hz
        rw [hq] at CR
        clear hq hz
        obtain ⟨p0, p1, p2, p3, p4, p5, p6, p7, p8, p9, p10, p11, p12⟩ := all13 HE.out.y
        go_wp2_with fail
        refine (CR.out (by simp)).mono ?_
        rintro r w6 ⟨rfl, hb6⟩
        have H6 : Hid (Rz 71 (be + 1) w bx br be #[.int .i64 8, .int .u32 (c : Int), .int .u32 (n : Int), .int .u64 0, .int .u32 0, .int .u64 (ap : Int), .int .u32 (aq : Int), .int .u64 0, .int .u32 0, .string ⟨#[]⟩, .int .u8 0, .bool false, .slice ao ws.length cp] (.slice ao ws.length cp) ws tz w6) := HE.out.on hb6
        clear hb6 CR HE p0 p1 p2 p3 p4 p5 p6 p7 p8 p9 p10 p11 p12
        cases q
        · have HNO : Hid (readE s = none) := by show _ = _; unfold readE; rw [HRW.out]; exact if_neg (fun h => by have := h.2; rw [HQQ.out] at this; cases this)
          obtain ⟨y0, y1, y2, y3, y4, y5, y6, y7, y8, y9, y10, y11, y12⟩ := all13 H6.out.x
          obtain ⟨z0, z1, z2, z3, z4, z5, z6, z7, z8, z9, z10, z11, z12⟩ := froz13 H6.out.x
          have HI : Hid _ := bx13 (.int .i64 0) (.int .u32 0) (.int .u32 0) (.int .u64 0) (.int .u32 0) (.int .u64 0) (.int .u32 0) (.int .u64 0) (.int .u32 0) (.string ⟨#[]⟩) (.int .u8 0) (.bool false) (.slice none 0 0) H6.out.x
          have HBw : Hid _ := bx13_below (.int .i64 0) (.int .u32 0) (.int .u32 0) (.int .u64 0) (.int .u32 0) (.int .u64 0) (.int .u32 0) (.int .u64 0) (.int .u32 0) (.string ⟨#[]⟩) (.int .u8 0) (.bool false) (.slice none 0 0) H6.out.bel H6.out.lx
          go_wp2_with fail
          obtain ⟨r0, r1, r2, r3, r4, r5, r6, r7, r8, r9, r10, r11, r12⟩ := all13 HI.out
          refine bodyPost_ret (v := .tuple #[.agg #[.int .i64 0, .int .u32 0, .int .u32 0, .int .u64 0, .int .u32 0, .int .u64 0, .int .u32 0, .int .u64 0, .int .u32 0, .string ⟨#[]⟩, .int .u8 0, .bool false, .slice none 0 0], .int .i64 2]) (by simp [results, Try.results13, go_sem, r0, r1, r2, r3, r4, r5, r6, r7, r8, r9, r10, r11, r12]) rfl ?_
          exact ⟨HBw.out, fun _ => rfl, fun e he => by rw [HNO.out] at he; cases he⟩
        · have HSO : Hid (readE s = some (En.mk 8 c n 0 0 ap aq 0 0 [] 0 false ws)) := by show _ = _; unfold readE; rw [HRW.out]; exact if_pos ⟨HZZ.out, HQQ.out⟩
          obtain ⟨y0, y1, y2, y3, y4, y5, y6, y7, y8, y9, y10, y11, y12⟩ := all13 H6.out.x
          obtain ⟨z0, z1, z2, z3, z4, z5, z6, z7, z8, z9, z10, z11, z12⟩ := froz13 H6.out.x
          obtain ⟨x0, x1, x2, x3, x4, x5, x6, x7, x8, x9, x10, x11, x12⟩ := all13 H6.out.y
          have HI : Hid _ := bx13 (.int .i64 8) (.int .u32 (c : Int)) (.int .u32 (n : Int)) (.int .u64 0) (.int .u32 0) (.int .u64 (ap : Int)) (.int .u32 (aq : Int)) (.int .u64 0) (.int .u32 0) (.string ⟨#[]⟩) (.int .u8 0) (.bool false) (.slice ao ws.length cp) H6.out.x
          have HBw : Hid _ := bx13_below (.int .i64 8) (.int .u32 (c : Int)) (.int .u32 (n : Int)) (.int .u64 0) (.int .u32 0) (.int .u64 (ap : Int)) (.int .u32 (aq : Int)) (.int .u64 0) (.int .u32 0) (.string ⟨#[]⟩) (.int .u8 0) (.bool false) (.slice ao ws.length cp) H6.out.bel H6.out.lx
          have HKp : Hid _ := bx13_kept (b := bx) (W := w6) (.int .i64 8) (.int .u32 (c : Int)) (.int .u32 (n : Int)) (.int .u64 0) (.int .u32 0) (.int .u64 (ap : Int)) (.int .u32 (aq : Int)) (.int .u64 0) (.int .u32 0) (.string ⟨#[]⟩) (.int .u8 0) (.bool false) (.slice ao ws.length cp)
          go_wp2_with fail
          obtain ⟨r0, r1, r2, r3, r4, r5, r6, r7, r8, r9, r10, r11, r12⟩ := all13 HI.out
          refine bodyPost_ret (v := .tuple #[.agg #[.int .i64 8, .int .u32 (c : Int), .int .u32 (n : Int), .int .u64 0, .int .u32 0, .int .u64 (ap : Int), .int .u32 (aq : Int), .int .u64 0, .int .u32 0, .string ⟨#[]⟩, .int .u8 0, .bool false, .slice ao ws.length cp], .int .i64 0]) (by simp [results, Try.results13, go_sem, r0, r1, r2, r3, r4, r5, r6, r7, r8, r9, r10, r11, r12]) rfl ?_
          unfold RdPost
          refine ⟨HBw.out, fun hn => absurd (HSO.out.symm.trans hn) (by simp), fun e he => ?_⟩
          rw [HSO.out] at he
          cases he
          exact ⟨ao, cp, rfl, rw_own (own_kept H6.out.own HKp.out (fun k hk hf => by have h1 := H6.out.ob k hk; have h2 := H6.out.xb; omega))⟩
      · have HNO : Hid (readE s = none) := by show _ = _; unfold readE; rw [HRW.out]; exact if_neg (fun h => hz h.1)
        have hz1 : ¬ ((rdEnd tz : Nat) : Int) = 0 := by omega
        obtain ⟨y0, y1, y2, y3, y4, y5, y6, y7, y8, y9, y10, y11, y12⟩ := all13 HE.out.x
        obtain ⟨z0, z1, z2, z3, z4, z5, z6, z7, z8, z9, z10, z11, z12⟩ := froz13 HE.out.x
        have HI : Hid _ := bx13 (.int .i64 0) (.int .u32 0) (.int .u32 0) (.int .u64 0) (.int .u32 0) (.int .u64 0) (.int .u32 0) (.int .u64 0) (.int .u32 0) (.string ⟨#[]⟩) (.int .u8 0) (.bool false) (.slice none 0 0) HE.out.x
        have HBw : Hid _ := bx13_below (.int .i64 0) (.int .u32 0) (.int .u32 0) (.int .u64 0) (.int .u32 0) (.int .u64 0) (.int .u32 0) (.int .u64 0) (.int .u32 0) (.string ⟨#[]⟩) (.int .u8 0) (.bool false) (.slice none 0 0) HE.out.bel HE.out.lx
        go_wp2_with fail
        obtain ⟨r0, r1, r2, r3, r4, r5, r6, r7, r8, r9, r10, r11, r12⟩ := all13 HI.out
        refine bodyPost_ret (v := .tuple #[.agg #[.int .i64 0, .int .u32 0, .int .u32 0, .int .u64 0, .int .u32 0, .int .u64 0, .int .u32 0, .int .u64 0, .int .u32 0, .string ⟨#[]⟩, .int .u8 0, .bool false, .slice none 0 0], .int .i64 2]) (by simp [results, Try.results13, go_sem, r0, r1, r2, r3, r4, r5, r6, r7, r8, r9, r10, r11, r12]) rfl ?_
        exact ⟨HBw.out, fun _ => rfl, fun e he => by rw [HNO.out] at he; cases he⟩
end Go.Proofs.Ytmgjlpgjjeknpaa

namespace Go.Proofs.Ytmgjlpgjjeknpaa
open Go.RowKit Go.Sort

set_option maxHeartbeats 3200000 in
set_option maxRecDepth 100000 in
theorem rd13_9 (s : List UInt8) (w : World) (hl : s.length < 4611686018427387904) (hk : (rdNum 9 ⟨s, 0⟩).1 = 9) : Calls Try.prog 13 #[.string (bs s)] w (RdPost s w) := by
  have HW : Hid _ := @rz_new w s hl
  obtain ⟨W1, hW1⟩ : ∃ W1, w.alloc (.cells #[.int .i64 0, .int .u32 0, .int .u32 0, .int .u64 0, .int .u32 0, .int .u64 0, .int .u32 0, .int .u64 0, .int .u32 0, .string ⟨#[]⟩, .int .u8 0, .bool false, .slice none 0 0] 30) = W1 := ⟨_, rfl⟩
  obtain ⟨W2, hW2⟩ : ∃ W2, W1.alloc (.cells #[.string (bs s), .int .i64 0] 71) = W2 := ⟨_, rfl⟩
  have s1 : W1.heap.size = w.heap.size + 1 := by rw [← hW1]; simp
  obtain ⟨bx, hbx⟩ : ∃ b, w.heap.size = b := ⟨_, rfl⟩
  obtain ⟨br, hbr⟩ : ∃ b, W1.heap.size = b := ⟨_, rfl⟩
  have R2 : Hid (RdAt 71 br ⟨s, 0⟩ W2) := by
    show _ = _
    rw [← hW2, ← hbr]
    exact heap_alloc_new W1 _
  have HW2 : Hid ((w.alloc (.cells #[.int .i64 0, .int .u32 0, .int .u32 0, .int .u64 0, .int .u32 0, .int .u64 0, .int .u32 0, .int .u64 0, .int .u32 0, .string ⟨#[]⟩, .int .u8 0, .bool false, .slice none 0 0] 30)).alloc (.cells #[.string (bs s), .int .i64 0] 71) = W2) := by
    show _ = _
    rw [hW1]
    exact hW2
  have Hbx : Hid (w.heap.size = bx) := hbx
  have Hbr : Hid (w.heap.size + 1 = br) := by show _ = _; rw [← hbr, s1]
  have hle := rdNum_le 9 ⟨s, 0⟩
  obtain ⟨st1, hst1⟩ : ∃ x, (rdNum 9 ⟨s, 0⟩).2 = x := ⟨_, rfl⟩
  have H1 : Hid (rdNum 9 ⟨s, 0⟩ = (9, st1)) := Prod.ext hk hst1
  have HL : Hid (st1.l.length ≤ s.length) := by rw [← hst1]; exact hle.2.1
  have C : Hid (1 = 1 → Calls Try.prog 34 #[.pointer (some ⟨br, 0, none⟩), .int .u64 9] W2 fun r w' => r = .returned (.int .u64 9) ∧ RdAt 71 br st1 w' ∧ Sole br W2 w') := fun _ => by
    have := num26 br ⟨s, 0⟩ 9 W2 R2.out (by show s.length < _; omega)
    rw [H1.out] at this
    exact this
  clear hle hst1 hk s1 R2
  go_enter Try.func13, Try.ntmps13
  go_wp2_with fail
  refine (C.out (by simp)).mono ?_
  rintro r w1 ⟨rfl, hr, hs⟩
  have HZ : Hid _ := HW.out HW2.out (by rw [Hbr.out]; exact hr) (by rw [Hbr.out]; exact hs) HL.out #[.int .i64 9, .int .u32 0, .int .u32 0, .int .u64 0, .int .u32 0, .int .u64 0, .int .u32 0, .int .u64 0, .int .u32 0, .string ⟨#[]⟩, .int .u8 0, .bool false, .slice none 0 0]
  clear hr hs C hW1 hW2 hbr HW
  go_upto_region 3 with fail
  obtain ⟨Y0, hY0⟩ : ∃ Y0, w1.alloc (.cells #[.int .i64 9, .int .u32 0, .int .u32 0, .int .u64 0, .int .u32 0, .int .u64 0, .int .u32 0, .int .u64 0, .int .u32 0, .string ⟨#[]⟩, .int .u8 0, .bool false, .slice none 0 0] 30) = Y0 := ⟨_, rfl⟩
  obtain ⟨be, hbe⟩ : ∃ b, w1.heap.size = b := ⟨_, rfl⟩
  have HZ0 : Hid (Rz 71 (be + 1) w bx br be #[.int .i64 9, .int .u32 0, .int .u32 0, .int .u64 0, .int .u32 0, .int .u64 0, .int .u32 0, .int .u64 0, .int .u32 0, .string ⟨#[]⟩, .int .u8 0, .bool false, .slice none 0 0] (.slice none 0 0) [] st1 Y0) := by
    rw [← hY0, ← hbe, ← Hbr.out, ← Hbx.out]
    exact HZ.out
  rw [hY0, hbe]
  clear HZ HW2 hbx HL hY0 hbe
  obtain ⟨c, st2, hA⟩ : ∃ c st2, rdNum 4294967295 st1 = (c, st2) := ⟨_, _, rfl⟩
  have H2 : Hid (rdNum 4294967295 st1 = (c, st2)) := hA
  have HL : Hid (st2.l.length ≤ st1.l.length) := by have := (rdNum_le 4294967295 st1).2.1; rw [hA] at this; exact this
  have bd2 : c ≤ 4294967295 := by have := (rdNum_le 4294967295 st1).1; rw [hA] at this; exact this
  clear hA
  have C : Hid (1 = 1 → Calls Try.prog 34 #[.pointer (some ⟨br, 0, none⟩), .int .u64 4294967295] Y0 fun r w' => r = .returned (.int .u64 (c : Int)) ∧ RdAt 71 br st2 w' ∧ Sole br Y0 w') := fun _ => by
    have := num26 br st1 4294967295 Y0 HZ0.out.r (by have := HZ0.out.len; omega)
    skip
    rw [H2.out] at this
    exact this
  have p0 : Y0.cell? ⟨be, 0, none⟩ = some (.int .i64 9) := block_cell HZ0.out.y rfl
  go_wp2_with fail
  refine (C.out (by simp)).mono ?_
  rintro r x2 ⟨rfl, hr, hs⟩
  have HX2 : Hid (Rz 71 (be + 1) w bx br be #[.int .i64 9, .int .u32 0, .int .u32 0, .int .u64 0, .int .u32 0, .int .u64 0, .int .u32 0, .int .u64 0, .int .u32 0, .string ⟨#[]⟩, .int .u8 0, .bool false, .slice none 0 0] (.slice none 0 0) [] st2 x2) := HZ0.out.rd hr hs HL.out
  clear hr hs C p0 HL HZ0 
  have xw := u32w bd2
  have q1 : x2.cell? ⟨be, 1, none⟩ = some (.int .u32 0) := block_cell HX2.out.y rfl
  have f1 : x2.frozen? ⟨be, 1, none⟩ = false := block_frozen HX2.out.y 1
  obtain ⟨Y2, hY2⟩ : ∃ Y2, (x2.setCell ⟨be, 1, none⟩ (.int .u32 (c : Int))) = Y2 := ⟨_, rfl⟩
  have HZ2 : Hid (Rz 71 (be + 1) w bx br be #[.int .i64 9, .int .u32 (c : Int), .int .u32 0, .int .u64 0, .int .u32 0, .int .u64 0, .int .u32 0, .int .u64 0, .int .u32 0, .string ⟨#[]⟩, .int .u8 0, .bool false, .slice none 0 0] (.slice none 0 0) [] st2 Y2) := by
    rw [← hY2]
    exact (HX2.out.put 1 (.int .u32 (c : Int)))
  clear HX2
  obtain ⟨n, st3, hA⟩ : ∃ n st3, rdNum 4294967295 st2 = (n, st3) := ⟨_, _, rfl⟩
  have H3 : Hid (rdNum 4294967295 st2 = (n, st3)) := hA
  have HL : Hid (st3.l.length ≤ st2.l.length) := by have := (rdNum_le 4294967295 st2).2.1; rw [hA] at this; exact this
  have bd3 : n ≤ 4294967295 := by have := (rdNum_le 4294967295 st2).1; rw [hA] at this; exact this
  clear hA
  have C : Hid (1 = 1 → Calls Try.prog 34 #[.pointer (some ⟨br, 0, none⟩), .int .u64 4294967295] Y2 fun r w' => r = .returned (.int .u64 (n : Int)) ∧ RdAt 71 br st3 w' ∧ Sole br Y2 w') := fun _ => by
    have := num26 br st2 4294967295 Y2 HZ2.out.r (by have := HZ2.out.len; omega)
    skip
    rw [H3.out] at this
    exact this
  have p0 : Y2.cell? ⟨be, 0, none⟩ = some (.int .i64 9) := block_cell HZ2.out.y rfl
  go_wp2_with fail
  refine (C.out (by simp)).mono ?_
  rintro r x3 ⟨rfl, hr, hs⟩
  have HX3 : Hid (Rz 71 (be + 1) w bx br be #[.int .i64 9, .int .u32 (c : Int), .int .u32 0, .int .u64 0, .int .u32 0, .int .u64 0, .int .u32 0, .int .u64 0, .int .u32 0, .string ⟨#[]⟩, .int .u8 0, .bool false, .slice none 0 0] (.slice none 0 0) [] st3 x3) := HZ2.out.rd hr hs HL.out
  clear hr hs C p0 HL HZ2 hY2 q1 f1 xw
  have xw := u32w bd3
  have q2 : x3.cell? ⟨be, 2, none⟩ = some (.int .u32 0) := block_cell HX3.out.y rfl
  have f2 : x3.frozen? ⟨be, 2, none⟩ = false := block_frozen HX3.out.y 2
  obtain ⟨Y3, hY3⟩ : ∃ Y3, (x3.setCell ⟨be, 2, none⟩ (.int .u32 (n : Int))) = Y3 := ⟨_, rfl⟩
  have HZ3 : Hid (Rz 71 (be + 1) w bx br be #[.int .i64 9, .int .u32 (c : Int), .int .u32 (n : Int), .int .u64 0, .int .u32 0, .int .u64 0, .int .u32 0, .int .u64 0, .int .u32 0, .string ⟨#[]⟩, .int .u8 0, .bool false, .slice none 0 0] (.slice none 0 0) [] st3 Y3) := by
    rw [← hY3]
    exact (HX3.out.put 2 (.int .u32 (n : Int)))
  clear HX3
  obtain ⟨sp, sq, st4, hA⟩ : ∃ sp sq st4, rdStamp st3 = ((sp, sq), st4) := ⟨_, _, _, rfl⟩
  have H4 : Hid (rdStamp st3 = ((sp, sq), st4)) := hA
  have HL : Hid (st4.l.length ≤ st3.l.length) := by have := rdStamp_le st3; rw [hA] at this; exact this
  clear hA
  have C : Hid (1 = 1 → Calls Try.prog 35 #[.pointer (some ⟨br, 0, none⟩)] Y3 fun r w' => r = .returned (.agg #[.int .u64 (sp : Int), .int .u32 (sq : Int)]) ∧ RdAt 71 br st4 w' ∧ Sole br Y3 w') := fun _ => by
    have := stamp29 br st3 Y3 HZ3.out.r (by have := HZ3.out.len; omega)
    skip
    rw [H4.out] at this
    exact this
  have p0 : Y3.cell? ⟨be, 0, none⟩ = some (.int .i64 9) := block_cell HZ3.out.y rfl
  go_wp2_with fail
  refine (C.out (by simp)).mono ?_
  rintro r x4 ⟨rfl, hr, hs⟩
  have HX4 : Hid (Rz 71 (be + 1) w bx br be #[.int .i64 9, .int .u32 (c : Int), .int .u32 (n : Int), .int .u64 0, .int .u32 0, .int .u64 0, .int .u32 0, .int .u64 0, .int .u32 0, .string ⟨#[]⟩, .int .u8 0, .bool false, .slice none 0 0] (.slice none 0 0) [] st4 x4) := HZ3.out.rd hr hs HL.out
  clear hr hs C p0 HL HZ3 hY3 q2 f2 xw
  have q3 : x4.cell? ⟨be, 3, none⟩ = some (.int .u64 0) := block_cell HX4.out.y rfl
  have f3 : x4.frozen? ⟨be, 3, none⟩ = false := block_frozen HX4.out.y 3
  have q4 : x4.cell? ⟨be, 4, none⟩ = some (.int .u32 0) := block_cell HX4.out.y rfl
  have f4 : x4.frozen? ⟨be, 4, none⟩ = false := block_frozen HX4.out.y 4
  obtain ⟨Y4, hY4⟩ : ∃ Y4, ((x4.setCell ⟨be, 3, none⟩ (.int .u64 (sp : Int))).setCell ⟨be, 4, none⟩ (.int .u32 (sq : Int))) = Y4 := ⟨_, rfl⟩
  have HZ4 : Hid (Rz 71 (be + 1) w bx br be #[.int .i64 9, .int .u32 (c : Int), .int .u32 (n : Int), .int .u64 (sp : Int), .int .u32 (sq : Int), .int .u64 0, .int .u32 0, .int .u64 0, .int .u32 0, .string ⟨#[]⟩, .int .u8 0, .bool false, .slice none 0 0] (.slice none 0 0) [] st4 Y4) := by
    rw [← hY4]
    exact ((HX4.out.put 3 (.int .u64 (sp : Int))).put 4 (.int .u32 (sq : Int)))
  clear HX4
  obtain ⟨ap, aq, st5, hA⟩ : ∃ ap aq st5, rdStamp st4 = ((ap, aq), st5) := ⟨_, _, _, rfl⟩
  have H5 : Hid (rdStamp st4 = ((ap, aq), st5)) := hA
  have HL : Hid (st5.l.length ≤ st4.l.length) := by have := rdStamp_le st4; rw [hA] at this; exact this
  clear hA
  have C : Hid (1 = 1 → Calls Try.prog 35 #[.pointer (some ⟨br, 0, none⟩)] Y4 fun r w' => r = .returned (.agg #[.int .u64 (ap : Int), .int .u32 (aq : Int)]) ∧ RdAt 71 br st5 w' ∧ Sole br Y4 w') := fun _ => by
    have := stamp29 br st4 Y4 HZ4.out.r (by have := HZ4.out.len; omega)
    skip
    rw [H5.out] at this
    exact this
  have p0 : Y4.cell? ⟨be, 0, none⟩ = some (.int .i64 9) := block_cell HZ4.out.y rfl
  go_wp2_with fail
  refine (C.out (by simp)).mono ?_
  rintro r x5 ⟨rfl, hr, hs⟩
  have HX5 : Hid (Rz 71 (be + 1) w bx br be #[.int .i64 9, .int .u32 (c : Int), .int .u32 (n : Int), .int .u64 (sp : Int), .int .u32 (sq : Int), .int .u64 0, .int .u32 0, .int .u64 0, .int .u32 0, .string ⟨#[]⟩, .int .u8 0, .bool false, .slice none 0 0] (.slice none 0 0) [] st5 x5) := HZ4.out.rd hr hs HL.out
  clear hr hs C p0 HL HZ4 hY4 q3 f3 q4 f4
  have q5 : x5.cell? ⟨be, 5, none⟩ = some (.int .u64 0) := block_cell HX5.out.y rfl
  have f5 : x5.frozen? ⟨be, 5, none⟩ = false := block_frozen HX5.out.y 5
  have q6 : x5.cell? ⟨be, 6, none⟩ = some (.int .u32 0) := block_cell HX5.out.y rfl
  have f6 : x5.frozen? ⟨be, 6, none⟩ = false := block_frozen HX5.out.y 6
  obtain ⟨Y5, hY5⟩ : ∃ Y5, ((x5.setCell ⟨be, 5, none⟩ (.int .u64 (ap : Int))).setCell ⟨be, 6, none⟩ (.int .u32 (aq : Int))) = Y5 := ⟨_, rfl⟩
  have HZ5 : Hid (Rz 71 (be + 1) w bx br be #[.int .i64 9, .int .u32 (c : Int), .int .u32 (n : Int), .int .u64 (sp : Int), .int .u32 (sq : Int), .int .u64 (ap : Int), .int .u32 (aq : Int), .int .u64 0, .int .u32 0, .string ⟨#[]⟩, .int .u8 0, .bool false, .slice none 0 0] (.slice none 0 0) [] st5 Y5) := by
    rw [← hY5]
    exact ((HX5.out.put 5 (.int .u64 (ap : Int))).put 6 (.int .u32 (aq : Int)))
  clear HX5
  have p0 : Y5.cell? ⟨be, 0, none⟩ = some (.int .i64 9) := block_cell HZ5.out.y rfl
  go_wp2_with fail
  clear p0 hY5 q5 f5 q6 f6
  go_loopw [7] (fun i wr => i = .int .i64 0 ∧ Hid (Rz 71 (be + 1) w bx br be #[.int .i64 9, .int .u32 (c : Int), .int .u32 (n : Int), .int .u64 (sp : Int), .int .u32 (sq : Int), .int .u64 (ap : Int), .int .u32 (aq : Int), .int .u64 0, .int .u32 0, .string ⟨#[]⟩, .int .u8 0, .bool false, .slice none 0 0] (.slice none 0 0) [] st5 wr)) (fun _ _ => 0)
  case atStart => exact ⟨rfl, HZ5.out⟩
  case round =>
    obtain ⟨rfl, HE⟩ := hrel
    clear HZ5
    obtain ⟨pt, st6, hA⟩ : ∃ pt st6, rdNum 255 st5 = (pt, st6) := ⟨_, _, rfl⟩
    have H6 : Hid (rdNum 255 st5 = (pt, st6)) := hA
    have HL : Hid (st6.l.length ≤ st5.l.length) := by have := (rdNum_le 255 st5).2.1; rw [hA] at this; exact this
    have bd6 : pt ≤ 255 := by have := (rdNum_le 255 st5).1; rw [hA] at this; exact this
    clear hA
    have C : Hid (1 = 1 → Calls Try.prog 34 #[.pointer (some ⟨br, 0, none⟩), .int .u64 255] wr fun r w' => r = .returned (.int .u64 (pt : Int)) ∧ RdAt 71 br st6 w' ∧ Sole br wr w') := fun _ => by
      have := num26 br st5 255 wr HE.out.r (by have := HE.out.len; omega)
      skip
      rw [H6.out] at this
      exact this
    have p0 : wr.cell? ⟨be, 0, none⟩ = some (.int .i64 9) := block_cell HE.out.y rfl
    go_wp2_with fail
    refine (C.out (by simp)).mono ?_
    rintro r x6 ⟨rfl, hr, hs⟩
    have HX6 : Hid (Rz 71 (be + 1) w bx br be #[.int .i64 9, .int .u32 (c : Int), .int .u32 (n : Int), .int .u64 (sp : Int), .int .u32 (sq : Int), .int .u64 (ap : Int), .int .u32 (aq : Int), .int .u64 0, .int .u32 0, .string ⟨#[]⟩, .int .u8 0, .bool false, .slice none 0 0] (.slice none 0 0) [] st6 x6) := HE.out.rd hr hs HL.out
    clear hr hs C p0 HL HE 
    have xw := u8w bd6
    have q10 : x6.cell? ⟨be, 10, none⟩ = some (.int .u8 0) := block_cell HX6.out.y rfl
    have f10 : x6.frozen? ⟨be, 10, none⟩ = false := block_frozen HX6.out.y 10
    obtain ⟨Y6, hY6⟩ : ∃ Y6, (x6.setCell ⟨be, 10, none⟩ (.int .u8 (pt : Int))) = Y6 := ⟨_, rfl⟩
    have HZ6 : Hid (Rz 71 (be + 1) w bx br be #[.int .i64 9, .int .u32 (c : Int), .int .u32 (n : Int), .int .u64 (sp : Int), .int .u32 (sq : Int), .int .u64 (ap : Int), .int .u32 (aq : Int), .int .u64 0, .int .u32 0, .string ⟨#[]⟩, .int .u8 (pt : Int), .bool false, .slice none 0 0] (.slice none 0 0) [] st6 Y6) := by
      rw [← hY6]
      exact (HX6.out.put 10 (.int .u8 (pt : Int)))
    clear HX6
    obtain ⟨dn, st7, hA⟩ : ∃ dn st7, rdFlag st6 = (dn, st7) := ⟨_, _, rfl⟩
    have H7 : Hid (rdFlag st6 = (dn, st7)) := hA
    have HL : Hid (st7.l.length ≤ st6.l.length) := by have := rdFlag_le st6; rw [hA] at this; exact this
    clear hA
    have C : Hid (1 = 1 → Calls Try.prog 38 #[.pointer (some ⟨br, 0, none⟩)] Y6 fun r w' => r = .returned (.bool dn) ∧ RdAt 71 br st7 w' ∧ Sole br Y6 w') := fun _ => by
      have := flag28 br st6 Y6 HZ6.out.r
      skip
      rw [H7.out] at this
      exact this
    have p0 : Y6.cell? ⟨be, 0, none⟩ = some (.int .i64 9) := block_cell HZ6.out.y rfl
    go_wp2_with fail
    refine (C.out (by simp)).mono ?_
    rintro r x7 ⟨rfl, hr, hs⟩
    have HX7 : Hid (Rz 71 (be + 1) w bx br be #[.int .i64 9, .int .u32 (c : Int), .int .u32 (n : Int), .int .u64 (sp : Int), .int .u32 (sq : Int), .int .u64 (ap : Int), .int .u32 (aq : Int), .int .u64 0, .int .u32 0, .string ⟨#[]⟩, .int .u8 (pt : Int), .bool false, .slice none 0 0] (.slice none 0 0) [] st7 x7) := HZ6.out.rd hr hs HL.out
    clear hr hs C p0 HL HZ6 hY6 q10 f10 xw
    have q11 : x7.cell? ⟨be, 11, none⟩ = some (.bool false) := block_cell HX7.out.y rfl
    have f11 : x7.frozen? ⟨be, 11, none⟩ = false := block_frozen HX7.out.y 11
    obtain ⟨Y7, hY7⟩ : ∃ Y7, (x7.setCell ⟨be, 11, none⟩ (.bool dn)) = Y7 := ⟨_, rfl⟩
    have HZ7 : Hid (Rz 71 (be + 1) w bx br be #[.int .i64 9, .int .u32 (c : Int), .int .u32 (n : Int), .int .u64 (sp : Int), .int .u32 (sq : Int), .int .u64 (ap : Int), .int .u32 (aq : Int), .int .u64 0, .int .u32 0, .string ⟨#[]⟩, .int .u8 (pt : Int), .bool dn, .slice none 0 0] (.slice none 0 0) [] st7 Y7) := by
      rw [← hY7]
      exact (HX7.out.put 11 (.bool dn))
    clear HX7
    have HRW : Hid (rawE s = ((En.mk 9 c n sp sq ap aq 0 0 [] pt dn []), st7)) := by
      show _ = _
      simp [rawE, rBy, rSt, rMin, rPrim, rCnt, rAt, rPt, rDn, hasBy, hasSt, hasAt, hasPt, H1.out, H2.out, H3.out, H4.out, H5.out, H6.out, H7.out, rWs]
    have C : Hid (1 = 1 → Calls Try.prog 39 #[.pointer (some ⟨br, 0, none⟩)] Y7 fun r w' => r = .returned (.int .i64 (rdEnd st7)) ∧ Y7 = w') := fun _ => end33 br st7 Y7 HZ7.out.r
    have p0 : Y7.cell? ⟨be, 0, none⟩ = some (.int .i64 9) := block_cell HZ7.out.y rfl
    clear H1 H2 H3 H4 H5 H6 H7
    go_wp2_with fail
    refine (C.out (by simp)).mono ?_
    rintro r w5 ⟨rfl, rfl⟩
    clear C p0 hY7 q11 f11
    by_cases hz : rdEnd st7 = 0
    · rw [hz]
      have CR : Hid (1 = 1 → Calls Try.prog 19 #[.agg #[.int .i64 9, .int .u32 (c : Int), .int .u32 (n : Int), .int .u64 (sp : Int), .int .u32 (sq : Int), .int .u64 (ap : Int), .int .u32 (aq : Int), .int .u64 0, .int .u32 0, .string ⟨#[]⟩, .int .u8 (pt : Int), .bool dn, .slice none 0 0]] Y7 fun r w' => r = .returned (.bool (rightE (En.mk 9 c n sp sq ap aq 0 0 [] pt dn []))) ∧ Below Y7.heap.size Y7 w') := fun _ => right22 (En.mk 9 c n sp sq ap aq 0 0 [] pt dn []) none 0 Y7 (rw_own HZ7.out.own)
      obtain ⟨q, hq⟩ : ∃ q, rightE (En.mk 9 c n sp sq ap aq 0 0 [] pt dn []) = q := ⟨_, rfl⟩
      have HQQ : Hid (rightE (En.mk 9 c n sp sq ap aq 0 0 [] pt dn []) = q) := hq
      have HZZ : Hid (rdEnd st7 = 0) := hz
      rw [hq] at CR
      clear hq hz
      obtain ⟨p0, p1, p2, p3, p4, p5, p6, p7, p8, p9, p10, p11, p12⟩ := all13 HZ7.out.y
      go_wp2_with fail
      refine (CR.out (by simp)).mono ?_
      rintro r w6 ⟨rfl, hb6⟩
      have H6 : Hid (Rz 71 (be + 1) w bx br be #[.int .i64 9, .int .u32 (c : Int), .int .u32 (n : Int), .int .u64 (sp : Int), .int .u32 (sq : Int), .int .u64 (ap : Int), .int .u32 (aq : Int), .int .u64 0, .int .u32 0, .string ⟨#[]⟩, .int .u8 (pt : Int), .bool dn, .slice none 0 0] (.slice none 0 0) [] st7 w6) := HZ7.out.on hb6
      clear hb6 CR HZ7 p0 p1 p2 p3 p4 p5 p6 p7 p8 p9 p10 p11 p12
      cases q
      · have HNO : Hid (readE s = none) := by show _ = _; unfold readE; rw [HRW.out]; exact if_neg (fun h => by have := h.2; rw [HQQ.out] at this; cases this)
        obtain ⟨y0, y1, y2, y3, y4, y5, y6, y7, y8, y9, y10, y11, y12⟩ := all13 H6.out.x
        obtain ⟨z0, z1, z2, z3, z4, z5, z6, z7, z8, z9, z10, z11, z12⟩ := froz13 H6.out.x
        have HI : Hid _ := bx13 (.int .i64 0) (.int .u32 0) (.int .u32 0) (.int .u64 0) (.int .u32 0) (.int .u64 0) (.int .u32 0) (.int .u64 0) (.int .u32 0) (.string ⟨#[]⟩) (.int .u8 0) (.bool false) (.slice none 0 0) H6.out.x
        have HBw : Hid _ := bx13_below (.int .i64 0) (.int .u32 0) (.int .u32 0) (.int .u64 0) (.int .u32 0) (.int .u64 0) (.int .u32 0) (.int .u64 0) (.int .u32 0) (.string ⟨#[]⟩) (.int .u8 0) (.bool false) (.slice none 0 0) H6.out.bel H6.out.lx
        go_wp2_with fail
        obtain ⟨r0, r1, r2, r3, r4, r5, r6, r7, r8, r9, r10, r11, r12⟩ := all13 HI.out
        refine bodyPost_ret (v := .tuple #[.agg #[.int .i64 0, .int .u32 0, .int .u32 0, .int .u64 0, .int .u32 0, .int .u64 0, .int .u32 0, .int .u64 0, .int .u32 0, .string ⟨#[]⟩, .int .u8 0, .bool false, .slice none 0 0], .int .i64 2]) (by simp [results, Try.results13, go_sem, r0, r1, r2, r3, r4, r5, r6, r7, r8, r9, r10, r11, r12]) rfl ?_
        exact ⟨HBw.out, fun _ => rfl, fun e he => by rw [HNO.out] at he; cases he⟩
      · have HSO : Hid (readE s = some (En.mk 9 c n sp sq ap aq 0 0 [] pt dn [])) := by show _ = _; unfold readE; rw [HRW.out]; exact if_pos ⟨HZZ.out, HQQ.out⟩
        obtain ⟨y0, y1, y2, y3, y4, y5, y6, y7, y8, y9, y10, y11, y12⟩ := all13 H6.out.x
        obtain ⟨z0, z1, z2, z3, z4, z5, z6, z7, z8, z9, z10, z11, z12⟩ := froz13 H6.out.x
        obtain ⟨x0, x1, x2, x3, x4, x5, x6, x7, x8, x9, x10, x11, x12⟩ := all13 H6.out.y
        have HI : Hid _ := bx13 (.int .i64 9) (.int .u32 (c : Int)) (.int .u32 (n : Int)) (.int .u64 (sp : Int)) (.int .u32 (sq : Int)) (.int .u64 (ap : Int)) (.int .u32 (aq : Int)) (.int .u64 0) (.int .u32 0) (.string ⟨#[]⟩) (.int .u8 (pt : Int)) (.bool dn) (.slice none 0 0) H6.out.x
        have HBw : Hid _ := bx13_below (.int .i64 9) (.int .u32 (c : Int)) (.int .u32 (n : Int)) (.int .u64 (sp : Int)) (.int .u32 (sq : Int)) (.int .u64 (ap : Int)) (.int .u32 (aq : Int)) (.int .u64 0) (.int .u32 0) (.string ⟨#[]⟩) (.int .u8 (pt : Int)) (.bool dn) (.slice none 0 0) H6.out.bel H6.out.lx
        have HKp : Hid _ := bx13_kept (b := bx) (W := w6) (.int .i64 9) (.int .u32 (c : Int)) (.int .u32 (n : Int)) (.int .u64 (sp : Int)) (.int .u32 (sq : Int)) (.int .u64 (ap : Int)) (.int .u32 (aq : Int)) (.int .u64 0) (.int .u32 0) (.string ⟨#[]⟩) (.int .u8 (pt : Int)) (.bool dn) (.slice none 0 0)
        go_wp2_with fail
        obtain ⟨r0, r1, r2, r3, r4, r5, r6, r7, r8, r9, r10, r11, r12⟩ := all13 HI.out
        refine bodyPost_ret (v := .tuple #[.agg #[.int .i64 9, .int .u32 (c : Int), .int .u32 (n : Int), .int .u64 (sp : Int), .int .u32 (sq : Int), .int .u64 (ap : Int), .int .u32 (aq : Int), .int .u64 0, .int .u32 0, .string ⟨#[]⟩, .int .u8 (pt : Int), .bool dn, .slice none 0 0], .int .i64 0]) (by simp [results, Try.results13, go_sem, r0, r1, r2, r3, r4, r5, r6, r7, r8, r9, r10, r11, r12]) rfl ?_
        unfold RdPost
        refine ⟨HBw.out, fun hn => absurd (HSO.out.symm.trans hn) (by simp), fun e he => ?_⟩
        rw [HSO.out] at he
        cases he
        exact ⟨none, 0, rfl, rw_own (own_kept H6.out.own HKp.out (fun k hk hf => by have h1 := H6.out.ob k hk; have h2 := H6.out.xb; omega))⟩
    · have HNO : Hid (readE s = none) := by show _ = _; unfold readE; rw [HRW.out]; exact if_neg (fun h => hz h.1)
      have hz1 : ¬ ((rdEnd st7 : Nat) : Int) = 0 := by omega
      obtain ⟨y0, y1, y2, y3, y4, y5, y6, y7, y8, y9, y10, y11, y12⟩ := all13 HZ7.out.x
      obtain ⟨z0, z1, z2, z3, z4, z5, z6, z7, z8, z9, z10, z11, z12⟩ := froz13 HZ7.out.x
      have HI : Hid _ := bx13 (.int .i64 0) (.int .u32 0) (.int .u32 0) (.int .u64 0) (.int .u32 0) (.int .u64 0) (.int .u32 0) (.int .u64 0) (.int .u32 0) (.string ⟨#[]⟩) (.int .u8 0) (.bool false) (.slice none 0 0) HZ7.out.x
      have HBw : Hid _ := bx13_below (.int .i64 0) (.int .u32 0) (.int .u32 0) (.int .u64 0) (.int .u32 0) (.int .u64 0) (.int .u32 0) (.int .u64 0) (.int .u32 0) (.string ⟨#[]⟩) (.int .u8 0) (.bool false) (.slice none 0 0) HZ7.out.bel HZ7.out.lx
      go_wp2_with fail
      obtain ⟨r0, r1, r2, r3, r4, r5, r6, r7, r8, r9, r10, r11, r12⟩ := all13 HI.out
      refine bodyPost_ret (v := .tuple #[.agg #[.int .i64 0, .int .u32 0, .int .u32 0, .int .u64 0, .int .u32 0, .int .u64 0, .int .u32 0, .int .u64 0, .int .u32 0, .string ⟨#[]⟩, .int .u8 0, .bool false, .slice none 0 0], .int .i64 2]) (by simp [results, Try.results13, go_sem, r0, r1, r2, r3, r4, r5, r6, r7, r8, r9, r10, r11, r12]) rfl ?_
      exact ⟨HBw.out, fun _ => rfl, fun e he => by rw [HNO.out] at he; cases he⟩
end Go.Proofs.Ytmgjlpgjjeknpaa

namespace Go.Proofs.Ytmgjlpgjjeknpaa
open Go.RowKit Go.Sort

theorem read13 (s : List UInt8) (w : World) (hl : s.length < 4611686018427387904) : Calls Try.prog 13 #[.string (bs s)] w (RdPost s w) := by
  have hle := (rdNum_le 9 ⟨s, 0⟩).1
  have hc : (rdNum 9 ⟨s, 0⟩).1 = 0 ∨ (rdNum 9 ⟨s, 0⟩).1 = 1 ∨ (rdNum 9 ⟨s, 0⟩).1 = 2 ∨ (rdNum 9 ⟨s, 0⟩).1 = 3 ∨ (rdNum 9 ⟨s, 0⟩).1 = 4 ∨ (rdNum 9 ⟨s, 0⟩).1 = 5 ∨ (rdNum 9 ⟨s, 0⟩).1 = 6 ∨ (rdNum 9 ⟨s, 0⟩).1 = 7 ∨ (rdNum 9 ⟨s, 0⟩).1 = 8 ∨ (rdNum 9 ⟨s, 0⟩).1 = 9 := by omega
  rcases hc with h | h | h | h | h | h | h | h | h | h
  · exact rd13_0 s w hl h
  · exact rd13_1 s w hl h
  · exact rd13_2 s w hl h
  · exact rd13_3 s w hl h
  · exact rd13_4 s w hl h
  · exact rd13_5 s w hl h
  · exact rd13_6 s w hl h
  · exact rd13_7 s w hl h
  · exact rd13_8 s w hl h
  · exact rd13_9 s w hl h
end Go.Proofs.Ytmgjlpgjjeknpaa
