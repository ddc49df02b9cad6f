/-
  The program's takeHead.
-/
import Derived.Test.YtmgjlpgjjeknpaaKa
namespace Go.Proofs.Ytmgjlpgjjeknpaa
open Go.RowKit Go.Sort

set_option maxHeartbeats 3200000 in
set_option maxRecDepth 100000 in
theorem th31_0 {B : Nat} {w W : World} {bx br be : Nat} {st : St} (k : Int)  (h : Rz 85 B w bx br be #[.int .i64 k, .int .u32 0, .int .u32 0, .int .u64 0, .int .u32 0, .int .u64 0, .int .u32 0, .int .u64 0, .int .u32 0, .string ⟨#[]⟩, .int .u8 0, .bool false, .slice none 0 0] (.slice none 0 0) [] st W) :
    Calls Try.prog 31 #[.pointer (some ⟨br, 0, none⟩), .pointer (some ⟨be, 0, none⟩), .int .u16 0] W fun r w' => r = .returned (.tuple #[]) ∧ Rz 85 B w bx br be #[.int .i64 k, .int .u32 0, .int .u32 0, .int .u64 0, .int .u32 0, .int .u64 0, .int .u32 0, .int .u64 0, .int .u32 0, .string ⟨#[]⟩, .int .u8 0, .bool false, .slice none 0 0] (.slice none 0 0) [] st w' := by
  have HZ0 : Hid _ := h
  clear h 
  go_enter Try.func31, Try.ntmps31
  have C : Hid (∀ W : World, 1 = 1 → Calls Try.prog 41 #[.int .u16 0, .int .u16 1] W fun r w' => r = .returned (.bool false) ∧ W = w') := fun W _ => has41 0 1 W (by omega) (by omega)
  go_wp2_with fail
  refine (C.out _ (by trivial)).mono ?_
  rintro r wx ⟨rfl, rfl⟩
  clear C 
  have C : Hid (∀ W : World, 1 = 1 → Calls Try.prog 41 #[.int .u16 0, .int .u16 2] W fun r w' => r = .returned (.bool false) ∧ W = w') := fun W _ => has41 0 2 W (by omega) (by omega)
  go_wp2_with fail
  refine (C.out _ (by trivial)).mono ?_
  rintro r wx ⟨rfl, rfl⟩
  clear C 
  have C : Hid (∀ W : World, 1 = 1 → Calls Try.prog 41 #[.int .u16 0, .int .u16 4] W fun r w' => r = .returned (.bool false) ∧ W = w') := fun W _ => has41 0 4 W (by omega) (by omega)
  go_wp2_with fail
  refine (C.out _ (by trivial)).mono ?_
  rintro r wx ⟨rfl, rfl⟩
  clear C 
  have C : Hid (∀ W : World, 1 = 1 → Calls Try.prog 41 #[.int .u16 0, .int .u16 8] W fun r w' => r = .returned (.bool false) ∧ W = w') := fun W _ => has41 0 8 W (by omega) (by omega)
  go_wp2_with fail
  refine (C.out _ (by trivial)).mono ?_
  rintro r wx ⟨rfl, rfl⟩
  clear C 
  go_wp2_with fail
  go_end0
  exact ⟨rfl, HZ0.out⟩
set_option maxHeartbeats 3200000 in
set_option maxRecDepth 100000 in
theorem th31_1 {B : Nat} {w W : World} {bx br be : Nat} {st : St} (k : Int) (c : Nat) (s1 : St) (e1 : rdNum 4294967295 st = (c, s1)) (n : Nat) (s2 : St) (e2 : rdNum 4294967295 s1 = (n, s2)) (h : Rz 85 B w bx br be #[.int .i64 k, .int .u32 0, .int .u32 0, .int .u64 0, .int .u32 0, .int .u64 0, .int .u32 0, .int .u64 0, .int .u32 0, .string ⟨#[]⟩, .int .u8 0, .bool false, .slice none 0 0] (.slice none 0 0) [] st W) :
    Calls Try.prog 31 #[.pointer (some ⟨br, 0, none⟩), .pointer (some ⟨be, 0, none⟩), .int .u16 1] W fun r w' => r = .returned (.tuple #[]) ∧ Rz 85 B w bx br be #[.int .i64 k, .int .u32 (c : Int), .int .u32 (n : Int), .int .u64 0, .int .u32 0, .int .u64 0, .int .u32 0, .int .u64 0, .int .u32 0, .string ⟨#[]⟩, .int .u8 0, .bool false, .slice none 0 0] (.slice none 0 0) [] s2 w' := by
  have HZ0 : Hid _ := h
  have E1 : Hid _ := e1
  have E2 : Hid _ := e2
  clear h e1 e2
  go_enter Try.func31, Try.ntmps31
  have C : Hid (∀ W : World, 1 = 1 → Calls Try.prog 41 #[.int .u16 1, .int .u16 1] W fun r w' => r = .returned (.bool true) ∧ W = w') := fun W _ => has41 1 1 W (by omega) (by omega)
  go_wp2_with fail
  refine (C.out _ (by trivial)).mono ?_
  rintro r wx ⟨rfl, rfl⟩
  clear C 
  have HL : Hid (s1.l.length ≤ st.l.length) := by have := (rdNum_le 4294967295 st).2.1; rw [E1.out] at this; exact this
  have bd1 : c ≤ 4294967295 := by have := (rdNum_le 4294967295 st).1; rw [E1.out] at this; exact this
  have C : Hid (1 = 1 → Calls Try.prog 30 #[.pointer (some ⟨br, 0, none⟩), .int .u64 4294967295] W fun r w' => r = .returned (.int .u64 (c : Int)) ∧ RdAt 85 br s1 w' ∧ Sole br W w') := fun _ => by
    have := num20 br st 4294967295 W HZ0.out.r (by have := HZ0.out.len; omega)
    skip
    rw [E1.out] at this
    exact this
  go_wp2_with fail
  refine (C.out (by simp)).mono ?_
  rintro r x1 ⟨rfl, hr, hs⟩
  have HX1 : Hid (Rz 85 B w bx br be #[.int .i64 k, .int .u32 0, .int .u32 0, .int .u64 0, .int .u32 0, .int .u64 0, .int .u32 0, .int .u64 0, .int .u32 0, .string ⟨#[]⟩, .int .u8 0, .bool false, .slice none 0 0] (.slice none 0 0) [] s1 x1) := HZ0.out.rd hr hs HL.out
  clear hr hs C HL HZ0 
  have xw := u32w bd1
  have q1 : x1.cell? ⟨be, 1, none⟩ = some (.int .u32 0) := block_cell HX1.out.y rfl
  have f1 : x1.frozen? ⟨be, 1, none⟩ = false := block_frozen HX1.out.y 1
  obtain ⟨Y1, hY1⟩ : ∃ Y1, (x1.setCell ⟨be, 1, none⟩ (.int .u32 (c : Int))) = Y1 := ⟨_, rfl⟩
  have HZ1 : Hid (Rz 85 B w bx br be #[.int .i64 k, .int .u32 (c : Int), .int .u32 0, .int .u64 0, .int .u32 0, .int .u64 0, .int .u32 0, .int .u64 0, .int .u32 0, .string ⟨#[]⟩, .int .u8 0, .bool false, .slice none 0 0] (.slice none 0 0) [] s1 Y1) := by
    rw [← hY1]
    exact (HX1.out.put 1 (.int .u32 (c : Int)))
  clear HX1
  have HL : Hid (s2.l.length ≤ s1.l.length) := by have := (rdNum_le 4294967295 s1).2.1; rw [E2.out] at this; exact this
  have bd2 : n ≤ 4294967295 := by have := (rdNum_le 4294967295 s1).1; rw [E2.out] at this; exact this
  have C : Hid (1 = 1 → Calls Try.prog 30 #[.pointer (some ⟨br, 0, none⟩), .int .u64 4294967295] Y1 fun r w' => r = .returned (.int .u64 (n : Int)) ∧ RdAt 85 br s2 w' ∧ Sole br Y1 w') := fun _ => by
    have := num20 br s1 4294967295 Y1 HZ1.out.r (by have := HZ1.out.len; omega)
    skip
    rw [E2.out] at this
    exact this
  go_wp2_with fail
  refine (C.out (by simp)).mono ?_
  rintro r x2 ⟨rfl, hr, hs⟩
  have HX2 : Hid (Rz 85 B w bx br be #[.int .i64 k, .int .u32 (c : Int), .int .u32 0, .int .u64 0, .int .u32 0, .int .u64 0, .int .u32 0, .int .u64 0, .int .u32 0, .string ⟨#[]⟩, .int .u8 0, .bool false, .slice none 0 0] (.slice none 0 0) [] s2 x2) := HZ1.out.rd hr hs HL.out
  clear hr hs C HL HZ1 hY1 q1 f1 xw
  have xw := u32w bd2
  have q2 : x2.cell? ⟨be, 2, none⟩ = some (.int .u32 0) := block_cell HX2.out.y rfl
  have f2 : x2.frozen? ⟨be, 2, none⟩ = false := block_frozen HX2.out.y 2
  obtain ⟨Y2, hY2⟩ : ∃ Y2, (x2.setCell ⟨be, 2, none⟩ (.int .u32 (n : Int))) = Y2 := ⟨_, rfl⟩
  have HZ2 : Hid (Rz 85 B w bx br be #[.int .i64 k, .int .u32 (c : Int), .int .u32 (n : Int), .int .u64 0, .int .u32 0, .int .u64 0, .int .u32 0, .int .u64 0, .int .u32 0, .string ⟨#[]⟩, .int .u8 0, .bool false, .slice none 0 0] (.slice none 0 0) [] s2 Y2) := by
    rw [← hY2]
    exact (HX2.out.put 2 (.int .u32 (n : Int)))
  clear HX2
  have C : Hid (∀ W : World, 1 = 1 → Calls Try.prog 41 #[.int .u16 1, .int .u16 2] W fun r w' => r = .returned (.bool false) ∧ W = w') := fun W _ => has41 1 2 W (by omega) (by omega)
  go_wp2_with fail
  refine (C.out _ (by trivial)).mono ?_
  rintro r wx ⟨rfl, rfl⟩
  clear C hY2 q2 f2 xw
  have C : Hid (∀ W : World, 1 = 1 → Calls Try.prog 41 #[.int .u16 1, .int .u16 4] W fun r w' => r = .returned (.bool false) ∧ W = w') := fun W _ => has41 1 4 W (by omega) (by omega)
  go_wp2_with fail
  refine (C.out _ (by trivial)).mono ?_
  rintro r wx ⟨rfl, rfl⟩
  clear C 
  have C : Hid (∀ W : World, 1 = 1 → Calls Try.prog 41 #[.int .u16 1, .int .u16 8] W fun r w' => r = .returned (.bool false) ∧ W = w') := fun W _ => has41 1 8 W (by omega) (by omega)
  go_wp2_with fail
  refine (C.out _ (by trivial)).mono ?_
  rintro r wx ⟨rfl, rfl⟩
  clear C 
  go_wp2_with fail
  go_end0
  exact ⟨rfl, HZ2.out⟩
set_option maxHeartbeats 3200000 in
set_option maxRecDepth 100000 in
theorem th31_3 {B : Nat} {w W : World} {bx br be : Nat} {st : St} (k : Int) (c : Nat) (s1 : St) (e1 : rdNum 4294967295 st = (c, s1)) (n : Nat) (s2 : St) (e2 : rdNum 4294967295 s1 = (n, s2)) (sp sq : Nat) (s3 : St) (e3 : rdStamp s2 = ((sp, sq), s3)) (h : Rz 85 B w bx br be #[.int .i64 k, .int .u32 0, .int .u32 0, .int .u64 0, .int .u32 0, .int .u64 0, .int .u32 0, .int .u64 0, .int .u32 0, .string ⟨#[]⟩, .int .u8 0, .bool false, .slice none 0 0] (.slice none 0 0) [] st W) :
    Calls Try.prog 31 #[.pointer (some ⟨br, 0, none⟩), .pointer (some ⟨be, 0, none⟩), .int .u16 3] W fun r w' => r = .returned (.tuple #[]) ∧ Rz 85 B w bx br be #[.int .i64 k, .int .u32 (c : Int), .int .u32 (n : Int), .int .u64 (sp : Int), .int .u32 (sq : Int), .int .u64 0, .int .u32 0, .int .u64 0, .int .u32 0, .string ⟨#[]⟩, .int .u8 0, .bool false, .slice none 0 0] (.slice none 0 0) [] s3 w' := by
  have HZ0 : Hid _ := h
  have E1 : Hid _ := e1
  have E2 : Hid _ := e2
  have E3 : Hid _ := e3
  clear h e1 e2 e3
  go_enter Try.func31, Try.ntmps31
  have C : Hid (∀ W : World, 1 = 1 → Calls Try.prog 41 #[.int .u16 3, .int .u16 1] W fun r w' => r = .returned (.bool true) ∧ W = w') := fun W _ => has41 3 1 W (by omega) (by omega)
  go_wp2_with fail
  refine (C.out _ (by trivial)).mono ?_
  rintro r wx ⟨rfl, rfl⟩
  clear C 
  have HL : Hid (s1.l.length ≤ st.l.length) := by have := (rdNum_le 4294967295 st).2.1; rw [E1.out] at this; exact this
  have bd1 : c ≤ 4294967295 := by have := (rdNum_le 4294967295 st).1; rw [E1.out] at this; exact this
  have C : Hid (1 = 1 → Calls Try.prog 30 #[.pointer (some ⟨br, 0, none⟩), .int .u64 4294967295] W fun r w' => r = .returned (.int .u64 (c : Int)) ∧ RdAt 85 br s1 w' ∧ Sole br W w') := fun _ => by
    have := num20 br st 4294967295 W HZ0.out.r (by have := HZ0.out.len; omega)
    skip
    rw [E1.out] at this
    exact this
  go_wp2_with fail
  refine (C.out (by simp)).mono ?_
  rintro r x1 ⟨rfl, hr, hs⟩
  have HX1 : Hid (Rz 85 B w bx br be #[.int .i64 k, .int .u32 0, .int .u32 0, .int .u64 0, .int .u32 0, .int .u64 0, .int .u32 0, .int .u64 0, .int .u32 0, .string ⟨#[]⟩, .int .u8 0, .bool false, .slice none 0 0] (.slice none 0 0) [] s1 x1) := HZ0.out.rd hr hs HL.out
  clear hr hs C HL HZ0 
  have xw := u32w bd1
  have q1 : x1.cell? ⟨be, 1, none⟩ = some (.int .u32 0) := block_cell HX1.out.y rfl
  have f1 : x1.frozen? ⟨be, 1, none⟩ = false := block_frozen HX1.out.y 1
  obtain ⟨Y1, hY1⟩ : ∃ Y1, (x1.setCell ⟨be, 1, none⟩ (.int .u32 (c : Int))) = Y1 := ⟨_, rfl⟩
  have HZ1 : Hid (Rz 85 B w bx br be #[.int .i64 k, .int .u32 (c : Int), .int .u32 0, .int .u64 0, .int .u32 0, .int .u64 0, .int .u32 0, .int .u64 0, .int .u32 0, .string ⟨#[]⟩, .int .u8 0, .bool false, .slice none 0 0] (.slice none 0 0) [] s1 Y1) := by
    rw [← hY1]
    exact (HX1.out.put 1 (.int .u32 (c : Int)))
  clear HX1
  have HL : Hid (s2.l.length ≤ s1.l.length) := by have := (rdNum_le 4294967295 s1).2.1; rw [E2.out] at this; exact this
  have bd2 : n ≤ 4294967295 := by have := (rdNum_le 4294967295 s1).1; rw [E2.out] at this; exact this
  have C : Hid (1 = 1 → Calls Try.prog 30 #[.pointer (some ⟨br, 0, none⟩), .int .u64 4294967295] Y1 fun r w' => r = .returned (.int .u64 (n : Int)) ∧ RdAt 85 br s2 w' ∧ Sole br Y1 w') := fun _ => by
    have := num20 br s1 4294967295 Y1 HZ1.out.r (by have := HZ1.out.len; omega)
    skip
    rw [E2.out] at this
    exact this
  go_wp2_with fail
  refine (C.out (by simp)).mono ?_
  rintro r x2 ⟨rfl, hr, hs⟩
  have HX2 : Hid (Rz 85 B w bx br be #[.int .i64 k, .int .u32 (c : Int), .int .u32 0, .int .u64 0, .int .u32 0, .int .u64 0, .int .u32 0, .int .u64 0, .int .u32 0, .string ⟨#[]⟩, .int .u8 0, .bool false, .slice none 0 0] (.slice none 0 0) [] s2 x2) := HZ1.out.rd hr hs HL.out
  clear hr hs C HL HZ1 hY1 q1 f1 xw
  have xw := u32w bd2
  have q2 : x2.cell? ⟨be, 2, none⟩ = some (.int .u32 0) := block_cell HX2.out.y rfl
  have f2 : x2.frozen? ⟨be, 2, none⟩ = false := block_frozen HX2.out.y 2
  obtain ⟨Y2, hY2⟩ : ∃ Y2, (x2.setCell ⟨be, 2, none⟩ (.int .u32 (n : Int))) = Y2 := ⟨_, rfl⟩
  have HZ2 : Hid (Rz 85 B w bx br be #[.int .i64 k, .int .u32 (c : Int), .int .u32 (n : Int), .int .u64 0, .int .u32 0, .int .u64 0, .int .u32 0, .int .u64 0, .int .u32 0, .string ⟨#[]⟩, .int .u8 0, .bool false, .slice none 0 0] (.slice none 0 0) [] s2 Y2) := by
    rw [← hY2]
    exact (HX2.out.put 2 (.int .u32 (n : Int)))
  clear HX2
  have C : Hid (∀ W : World, 1 = 1 → Calls Try.prog 41 #[.int .u16 3, .int .u16 2] W fun r w' => r = .returned (.bool true) ∧ W = w') := fun W _ => has41 3 2 W (by omega) (by omega)
  go_wp2_with fail
  refine (C.out _ (by trivial)).mono ?_
  rintro r wx ⟨rfl, rfl⟩
  clear C hY2 q2 f2 xw
  have HL : Hid (s3.l.length ≤ s2.l.length) := by have := rdStamp_le s2; rw [E3.out] at this; exact this
  have C : Hid (1 = 1 → Calls Try.prog 54 #[.pointer (some ⟨br, 0, none⟩)] Y2 fun r w' => r = .returned (.agg #[.int .u64 (sp : Int), .int .u32 (sq : Int)]) ∧ RdAt 85 br s3 w' ∧ Sole br Y2 w') := fun _ => by
    have := stamp23 br s2 Y2 HZ2.out.r (by have := HZ2.out.len; omega)
    skip
    rw [E3.out] at this
    exact this
  go_wp2_with fail
  refine (C.out (by simp)).mono ?_
  rintro r x3 ⟨rfl, hr, hs⟩
  have HX3 : Hid (Rz 85 B w bx br be #[.int .i64 k, .int .u32 (c : Int), .int .u32 (n : Int), .int .u64 0, .int .u32 0, .int .u64 0, .int .u32 0, .int .u64 0, .int .u32 0, .string ⟨#[]⟩, .int .u8 0, .bool false, .slice none 0 0] (.slice none 0 0) [] s3 x3) := HZ2.out.rd hr hs HL.out
  clear hr hs C HL HZ2 
  have q3 : x3.cell? ⟨be, 3, none⟩ = some (.int .u64 0) := block_cell HX3.out.y rfl
  have f3 : x3.frozen? ⟨be, 3, none⟩ = false := block_frozen HX3.out.y 3
  have q4 : x3.cell? ⟨be, 4, none⟩ = some (.int .u32 0) := block_cell HX3.out.y rfl
  have f4 : x3.frozen? ⟨be, 4, none⟩ = false := block_frozen HX3.out.y 4
  obtain ⟨Y3, hY3⟩ : ∃ Y3, ((x3.setCell ⟨be, 3, none⟩ (.int .u64 (sp : Int))).setCell ⟨be, 4, none⟩ (.int .u32 (sq : Int))) = Y3 := ⟨_, rfl⟩
  have HZ3 : Hid (Rz 85 B w bx br be #[.int .i64 k, .int .u32 (c : Int), .int .u32 (n : Int), .int .u64 (sp : Int), .int .u32 (sq : Int), .int .u64 0, .int .u32 0, .int .u64 0, .int .u32 0, .string ⟨#[]⟩, .int .u8 0, .bool false, .slice none 0 0] (.slice none 0 0) [] s3 Y3) := by
    rw [← hY3]
    exact ((HX3.out.put 3 (.int .u64 (sp : Int))).put 4 (.int .u32 (sq : Int)))
  clear HX3
  have C : Hid (∀ W : World, 1 = 1 → Calls Try.prog 41 #[.int .u16 3, .int .u16 4] W fun r w' => r = .returned (.bool false) ∧ W = w') := fun W _ => has41 3 4 W (by omega) (by omega)
  go_wp2_with fail
  refine (C.out _ (by trivial)).mono ?_
  rintro r wx ⟨rfl, rfl⟩
  clear C hY3 q3 f3 q4 f4
  have C : Hid (∀ W : World, 1 = 1 → Calls Try.prog 41 #[.int .u16 3, .int .u16 8] W fun r w' => r = .returned (.bool false) ∧ W = w') := fun W _ => has41 3 8 W (by omega) (by omega)
  go_wp2_with fail
  refine (C.out _ (by trivial)).mono ?_
  rintro r wx ⟨rfl, rfl⟩
  clear C 
  go_wp2_with fail
  go_end0
  exact ⟨rfl, HZ3.out⟩
set_option maxHeartbeats 3200000 in
set_option maxRecDepth 100000 in
theorem th31_4 {B : Nat} {w W : World} {bx br be : Nat} {st : St} (k : Int) (ap aq : Nat) (s1 : St) (e1 : rdStamp st = ((ap, aq), s1)) (h : Rz 85 B w bx br be #[.int .i64 k, .int .u32 0, .int .u32 0, .int .u64 0, .int .u32 0, .int .u64 0, .int .u32 0, .int .u64 0, .int .u32 0, .string ⟨#[]⟩, .int .u8 0, .bool false, .slice none 0 0] (.slice none 0 0) [] st W) :
    Calls Try.prog 31 #[.pointer (some ⟨br, 0, none⟩), .pointer (some ⟨be, 0, none⟩), .int .u16 4] W fun r w' => r = .returned (.tuple #[]) ∧ Rz 85 B w bx br be #[.int .i64 k, .int .u32 0, .int .u32 0, .int .u64 0, .int .u32 0, .int .u64 (ap : Int), .int .u32 (aq : Int), .int .u64 0, .int .u32 0, .string ⟨#[]⟩, .int .u8 0, .bool false, .slice none 0 0] (.slice none 0 0) [] s1 w' := by
  have HZ0 : Hid _ := h
  have E1 : Hid _ := e1
  clear h e1
  go_enter Try.func31, Try.ntmps31
  have C : Hid (∀ W : World, 1 = 1 → Calls Try.prog 41 #[.int .u16 4, .int .u16 1] W fun r w' => r = .returned (.bool false) ∧ W = w') := fun W _ => has41 4 1 W (by omega) (by omega)
  go_wp2_with fail
  refine (C.out _ (by trivial)).mono ?_
  rintro r wx ⟨rfl, rfl⟩
  clear C 
  have C : Hid (∀ W : World, 1 = 1 → Calls Try.prog 41 #[.int .u16 4, .int .u16 2] W fun r w' => r = .returned (.bool false) ∧ W = w') := fun W _ => has41 4 2 W (by omega) (by omega)
  go_wp2_with fail
  refine (C.out _ (by trivial)).mono ?_
  rintro r wx ⟨rfl, rfl⟩
  clear C 
  have C : Hid (∀ W : World, 1 = 1 → Calls Try.prog 41 #[.int .u16 4, .int .u16 4] W fun r w' => r = .returned (.bool true) ∧ W = w') := fun W _ => has41 4 4 W (by omega) (by omega)
  go_wp2_with fail
  refine (C.out _ (by trivial)).mono ?_
  rintro r wx ⟨rfl, rfl⟩
  clear C 
  have HL : Hid (s1.l.length ≤ st.l.length) := by have := rdStamp_le st; rw [E1.out] at this; exact this
  have C : Hid (1 = 1 → Calls Try.prog 54 #[.pointer (some ⟨br, 0, none⟩)] W fun r w' => r = .returned (.agg #[.int .u64 (ap : Int), .int .u32 (aq : Int)]) ∧ RdAt 85 br s1 w' ∧ Sole br W w') := fun _ => by
    have := stamp23 br st W HZ0.out.r (by have := HZ0.out.len; omega)
    skip
    rw [E1.out] at this
    exact this
  go_wp2_with fail
  refine (C.out (by simp)).mono ?_
  rintro r x1 ⟨rfl, hr, hs⟩
  have HX1 : Hid (Rz 85 B w bx br be #[.int .i64 k, .int .u32 0, .int .u32 0, .int .u64 0, .int .u32 0, .int .u64 0, .int .u32 0, .int .u64 0, .int .u32 0, .string ⟨#[]⟩, .int .u8 0, .bool false, .slice none 0 0] (.slice none 0 0) [] s1 x1) := HZ0.out.rd hr hs HL.out
  clear hr hs C HL HZ0 
  have q5 : x1.cell? ⟨be, 5, none⟩ = some (.int .u64 0) := block_cell HX1.out.y rfl
  have f5 : x1.frozen? ⟨be, 5, none⟩ = false := block_frozen HX1.out.y 5
  have q6 : x1.cell? ⟨be, 6, none⟩ = some (.int .u32 0) := block_cell HX1.out.y rfl
  have f6 : x1.frozen? ⟨be, 6, none⟩ = false := block_frozen HX1.out.y 6
  obtain ⟨Y1, hY1⟩ : ∃ Y1, ((x1.setCell ⟨be, 5, none⟩ (.int .u64 (ap : Int))).setCell ⟨be, 6, none⟩ (.int .u32 (aq : Int))) = Y1 := ⟨_, rfl⟩
  have HZ1 : Hid (Rz 85 B w bx br be #[.int .i64 k, .int .u32 0, .int .u32 0, .int .u64 0, .int .u32 0, .int .u64 (ap : Int), .int .u32 (aq : Int), .int .u64 0, .int .u32 0, .string ⟨#[]⟩, .int .u8 0, .bool false, .slice none 0 0] (.slice none 0 0) [] s1 Y1) := by
    rw [← hY1]
    exact ((HX1.out.put 5 (.int .u64 (ap : Int))).put 6 (.int .u32 (aq : Int)))
  clear HX1
  have C : Hid (∀ W : World, 1 = 1 → Calls Try.prog 41 #[.int .u16 4, .int .u16 8] W fun r w' => r = .returned (.bool false) ∧ W = w') := fun W _ => has41 4 8 W (by omega) (by omega)
  go_wp2_with fail
  refine (C.out _ (by trivial)).mono ?_
  rintro r wx ⟨rfl, rfl⟩
  clear C hY1 q5 f5 q6 f6
  go_wp2_with fail
  go_end0
  exact ⟨rfl, HZ1.out⟩
set_option maxHeartbeats 3200000 in
set_option maxRecDepth 100000 in
theorem th31_517 {B : Nat} {w W : World} {bx br be : Nat} {st : St} (k : Int) (c : Nat) (s1 : St) (e1 : rdNum 4294967295 st = (c, s1)) (n : Nat) (s2 : St) (e2 : rdNum 4294967295 s1 = (n, s2)) (ap aq : Nat) (s3 : St) (e3 : rdStamp s2 = ((ap, aq), s3)) (h : Rz 85 B w bx br be #[.int .i64 k, .int .u32 0, .int .u32 0, .int .u64 0, .int .u32 0, .int .u64 0, .int .u32 0, .int .u64 0, .int .u32 0, .string ⟨#[]⟩, .int .u8 0, .bool false, .slice none 0 0] (.slice none 0 0) [] st W) :
    Calls Try.prog 31 #[.pointer (some ⟨br, 0, none⟩), .pointer (some ⟨be, 0, none⟩), .int .u16 517] W fun r w' => r = .returned (.tuple #[]) ∧ Rz 85 B w bx br be #[.int .i64 k, .int .u32 (c : Int), .int .u32 (n : Int), .int .u64 0, .int .u32 0, .int .u64 (ap : Int), .int .u32 (aq : Int), .int .u64 0, .int .u32 0, .string ⟨#[]⟩, .int .u8 0, .bool false, .slice none 0 0] (.slice none 0 0) [] s3 w' := by
  have HZ0 : Hid _ := h
  have E1 : Hid _ := e1
  have E2 : Hid _ := e2
  have E3 : Hid _ := e3
  clear h e1 e2 e3
  go_enter Try.func31, Try.ntmps31
  have C : Hid (∀ W : World, 1 = 1 → Calls Try.prog 41 #[.int .u16 517, .int .u16 1] W fun r w' => r = .returned (.bool true) ∧ W = w') := fun W _ => has41 517 1 W (by omega) (by omega)
  go_wp2_with fail
  refine (C.out _ (by trivial)).mono ?_
  rintro r wx ⟨rfl, rfl⟩
  clear C 
  have HL : Hid (s1.l.length ≤ st.l.length) := by have := (rdNum_le 4294967295 st).2.1; rw [E1.out] at this; exact this
  have bd1 : c ≤ 4294967295 := by have := (rdNum_le 4294967295 st).1; rw [E1.out] at this; exact this
  have C : Hid (1 = 1 → Calls Try.prog 30 #[.pointer (some ⟨br, 0, none⟩), .int .u64 4294967295] W fun r w' => r = .returned (.int .u64 (c : Int)) ∧ RdAt 85 br s1 w' ∧ Sole br W w') := fun _ => by
    have := num20 br st 4294967295 W HZ0.out.r (by have := HZ0.out.len; omega)
    skip
    rw [E1.out] at this
    exact this
  go_wp2_with fail
  refine (C.out (by simp)).mono ?_
  rintro r x1 ⟨rfl, hr, hs⟩
  have HX1 : Hid (Rz 85 B w bx br be #[.int .i64 k, .int .u32 0, .int .u32 0, .int .u64 0, .int .u32 0, .int .u64 0, .int .u32 0, .int .u64 0, .int .u32 0, .string ⟨#[]⟩, .int .u8 0, .bool false, .slice none 0 0] (.slice none 0 0) [] s1 x1) := HZ0.out.rd hr hs HL.out
  clear hr hs C HL HZ0 
  have xw := u32w bd1
  have q1 : x1.cell? ⟨be, 1, none⟩ = some (.int .u32 0) := block_cell HX1.out.y rfl
  have f1 : x1.frozen? ⟨be, 1, none⟩ = false := block_frozen HX1.out.y 1
  obtain ⟨Y1, hY1⟩ : ∃ Y1, (x1.setCell ⟨be, 1, none⟩ (.int .u32 (c : Int))) = Y1 := ⟨_, rfl⟩
  have HZ1 : Hid (Rz 85 B w bx br be #[.int .i64 k, .int .u32 (c : Int), .int .u32 0, .int .u64 0, .int .u32 0, .int .u64 0, .int .u32 0, .int .u64 0, .int .u32 0, .string ⟨#[]⟩, .int .u8 0, .bool false, .slice none 0 0] (.slice none 0 0) [] s1 Y1) := by
    rw [← hY1]
    exact (HX1.out.put 1 (.int .u32 (c : Int)))
  clear HX1
  have HL : Hid (s2.l.length ≤ s1.l.length) := by have := (rdNum_le 4294967295 s1).2.1; rw [E2.out] at this; exact this
  have bd2 : n ≤ 4294967295 := by have := (rdNum_le 4294967295 s1).1; rw [E2.out] at this; exact this
  have C : Hid (1 = 1 → Calls Try.prog 30 #[.pointer (some ⟨br, 0, none⟩), .int .u64 4294967295] Y1 fun r w' => r = .returned (.int .u64 (n : Int)) ∧ RdAt 85 br s2 w' ∧ Sole br Y1 w') := fun _ => by
    have := num20 br s1 4294967295 Y1 HZ1.out.r (by have := HZ1.out.len; omega)
    skip
    rw [E2.out] at this
    exact this
  go_wp2_with fail
  refine (C.out (by simp)).mono ?_
  rintro r x2 ⟨rfl, hr, hs⟩
  have HX2 : Hid (Rz 85 B w bx br be #[.int .i64 k, .int .u32 (c : Int), .int .u32 0, .int .u64 0, .int .u32 0, .int .u64 0, .int .u32 0, .int .u64 0, .int .u32 0, .string ⟨#[]⟩, .int .u8 0, .bool false, .slice none 0 0] (.slice none 0 0) [] s2 x2) := HZ1.out.rd hr hs HL.out
  clear hr hs C HL HZ1 hY1 q1 f1 xw
  have xw := u32w bd2
  have q2 : x2.cell? ⟨be, 2, none⟩ = some (.int .u32 0) := block_cell HX2.out.y rfl
  have f2 : x2.frozen? ⟨be, 2, none⟩ = false := block_frozen HX2.out.y 2
  obtain ⟨Y2, hY2⟩ : ∃ Y2, (x2.setCell ⟨be, 2, none⟩ (.int .u32 (n : Int))) = Y2 := ⟨_, rfl⟩
  have HZ2 : Hid (Rz 85 B w bx br be #[.int .i64 k, .int .u32 (c : Int), .int .u32 (n : Int), .int .u64 0, .int .u32 0, .int .u64 0, .int .u32 0, .int .u64 0, .int .u32 0, .string ⟨#[]⟩, .int .u8 0, .bool false, .slice none 0 0] (.slice none 0 0) [] s2 Y2) := by
    rw [← hY2]
    exact (HX2.out.put 2 (.int .u32 (n : Int)))
  clear HX2
  have C : Hid (∀ W : World, 1 = 1 → Calls Try.prog 41 #[.int .u16 517, .int .u16 2] W fun r w' => r = .returned (.bool false) ∧ W = w') := fun W _ => has41 517 2 W (by omega) (by omega)
  go_wp2_with fail
  refine (C.out _ (by trivial)).mono ?_
  rintro r wx ⟨rfl, rfl⟩
  clear C hY2 q2 f2 xw
  have C : Hid (∀ W : World, 1 = 1 → Calls Try.prog 41 #[.int .u16 517, .int .u16 4] W fun r w' => r = .returned (.bool true) ∧ W = w') := fun W _ => has41 517 4 W (by omega) (by omega)
  go_wp2_with fail
  refine (C.out _ (by trivial)).mono ?_
  rintro r wx ⟨rfl, rfl⟩
  clear C 
  have HL : Hid (s3.l.length ≤ s2.l.length) := by have := rdStamp_le s2; rw [E3.out] at this; exact this
  have C : Hid (1 = 1 → Calls Try.prog 54 #[.pointer (some ⟨br, 0, none⟩)] Y2 fun r w' => r = .returned (.agg #[.int .u64 (ap : Int), .int .u32 (aq : Int)]) ∧ RdAt 85 br s3 w' ∧ Sole br Y2 w') := fun _ => by
    have := stamp23 br s2 Y2 HZ2.out.r (by have := HZ2.out.len; omega)
    skip
    rw [E3.out] at this
    exact this
  go_wp2_with fail
  refine (C.out (by simp)).mono ?_
  rintro r x3 ⟨rfl, hr, hs⟩
  have HX3 : Hid (Rz 85 B w bx br be #[.int .i64 k, .int .u32 (c : Int), .int .u32 (n : Int), .int .u64 0, .int .u32 0, .int .u64 0, .int .u32 0, .int .u64 0, .int .u32 0, .string ⟨#[]⟩, .int .u8 0, .bool false, .slice none 0 0] (.slice none 0 0) [] s3 x3) := HZ2.out.rd hr hs HL.out
  clear hr hs C HL HZ2 
  have q5 : x3.cell? ⟨be, 5, none⟩ = some (.int .u64 0) := block_cell HX3.out.y rfl
  have f5 : x3.frozen? ⟨be, 5, none⟩ = false := block_frozen HX3.out.y 5
  have q6 : x3.cell? ⟨be, 6, none⟩ = some (.int .u32 0) := block_cell HX3.out.y rfl
  have f6 : x3.frozen? ⟨be, 6, none⟩ = false := block_frozen HX3.out.y 6
  obtain ⟨Y3, hY3⟩ : ∃ Y3, ((x3.setCell ⟨be, 5, none⟩ (.int .u64 (ap : Int))).setCell ⟨be, 6, none⟩ (.int .u32 (aq : Int))) = Y3 := ⟨_, rfl⟩
  have HZ3 : Hid (Rz 85 B w bx br be #[.int .i64 k, .int .u32 (c : Int), .int .u32 (n : Int), .int .u64 0, .int .u32 0, .int .u64 (ap : Int), .int .u32 (aq : Int), .int .u64 0, .int .u32 0, .string ⟨#[]⟩, .int .u8 0, .bool false, .slice none 0 0] (.slice none 0 0) [] s3 Y3) := by
    rw [← hY3]
    exact ((HX3.out.put 5 (.int .u64 (ap : Int))).put 6 (.int .u32 (aq : Int)))
  clear HX3
  have C : Hid (∀ W : World, 1 = 1 → Calls Try.prog 41 #[.int .u16 517, .int .u16 8] W fun r w' => r = .returned (.bool false) ∧ W = w') := fun W _ => has41 517 8 W (by omega) (by omega)
  go_wp2_with fail
  refine (C.out _ (by trivial)).mono ?_
  rintro r wx ⟨rfl, rfl⟩
  clear C hY3 q5 f5 q6 f6
  go_wp2_with fail
  go_end0
  exact ⟨rfl, HZ3.out⟩
set_option maxHeartbeats 3200000 in
set_option maxRecDepth 100000 in
theorem th31_389 {B : Nat} {w W : World} {bx br be : Nat} {st : St} (k : Int) (c : Nat) (s1 : St) (e1 : rdNum 4294967295 st = (c, s1)) (n : Nat) (s2 : St) (e2 : rdNum 4294967295 s1 = (n, s2)) (ap aq : Nat) (s3 : St) (e3 : rdStamp s2 = ((ap, aq), s3)) (h : Rz 85 B w bx br be #[.int .i64 k, .int .u32 0, .int .u32 0, .int .u64 0, .int .u32 0, .int .u64 0, .int .u32 0, .int .u64 0, .int .u32 0, .string ⟨#[]⟩, .int .u8 0, .bool false, .slice none 0 0] (.slice none 0 0) [] st W) :
    Calls Try.prog 31 #[.pointer (some ⟨br, 0, none⟩), .pointer (some ⟨be, 0, none⟩), .int .u16 389] W fun r w' => r = .returned (.tuple #[]) ∧ Rz 85 B w bx br be #[.int .i64 k, .int .u32 (c : Int), .int .u32 (n : Int), .int .u64 0, .int .u32 0, .int .u64 (ap : Int), .int .u32 (aq : Int), .int .u64 0, .int .u32 0, .string ⟨#[]⟩, .int .u8 0, .bool false, .slice none 0 0] (.slice none 0 0) [] s3 w' := by
  have HZ0 : Hid _ := h
  have E1 : Hid _ := e1
  have E2 : Hid _ := e2
  have E3 : Hid _ := e3
  clear h e1 e2 e3
  go_enter Try.func31, Try.ntmps31
  have C : Hid (∀ W : World, 1 = 1 → Calls Try.prog 41 #[.int .u16 389, .int .u16 1] W fun r w' => r = .returned (.bool true) ∧ W = w') := fun W _ => has41 389 1 W (by omega) (by omega)
  go_wp2_with fail
  refine (C.out _ (by trivial)).mono ?_
  rintro r wx ⟨rfl, rfl⟩
  clear C 
  have HL : Hid (s1.l.length ≤ st.l.length) := by have := (rdNum_le 4294967295 st).2.1; rw [E1.out] at this; exact this
  have bd1 : c ≤ 4294967295 := by have := (rdNum_le 4294967295 st).1; rw [E1.out] at this; exact this
  have C : Hid (1 = 1 → Calls Try.prog 30 #[.pointer (some ⟨br, 0, none⟩), .int .u64 4294967295] W fun r w' => r = .returned (.int .u64 (c : Int)) ∧ RdAt 85 br s1 w' ∧ Sole br W w') := fun _ => by
    have := num20 br st 4294967295 W HZ0.out.r (by have := HZ0.out.len; omega)
    skip
    rw [E1.out] at this
    exact this
  go_wp2_with fail
  refine (C.out (by simp)).mono ?_
  rintro r x1 ⟨rfl, hr, hs⟩
  have HX1 : Hid (Rz 85 B w bx br be #[.int .i64 k, .int .u32 0, .int .u32 0, .int .u64 0, .int .u32 0, .int .u64 0, .int .u32 0, .int .u64 0, .int .u32 0, .string ⟨#[]⟩, .int .u8 0, .bool false, .slice none 0 0] (.slice none 0 0) [] s1 x1) := HZ0.out.rd hr hs HL.out
  clear hr hs C HL HZ0 
  have xw := u32w bd1
  have q1 : x1.cell? ⟨be, 1, none⟩ = some (.int .u32 0) := block_cell HX1.out.y rfl
  have f1 : x1.frozen? ⟨be, 1, none⟩ = false := block_frozen HX1.out.y 1
  obtain ⟨Y1, hY1⟩ : ∃ Y1, (x1.setCell ⟨be, 1, none⟩ (.int .u32 (c : Int))) = Y1 := ⟨_, rfl⟩
  have HZ1 : Hid (Rz 85 B w bx br be #[.int .i64 k, .int .u32 (c : Int), .int .u32 0, .int .u64 0, .int .u32 0, .int .u64 0, .int .u32 0, .int .u64 0, .int .u32 0, .string ⟨#[]⟩, .int .u8 0, .bool false, .slice none 0 0] (.slice none 0 0) [] s1 Y1) := by
    rw [← hY1]
    exact (HX1.out.put 1 (.int .u32 (c : Int)))
  clear HX1
  have HL : Hid (s2.l.length ≤ s1.l.length) := by have := (rdNum_le 4294967295 s1).2.1; rw [E2.out] at this; exact this
  have bd2 : n ≤ 4294967295 := by have := (rdNum_le 4294967295 s1).1; rw [E2.out] at this; exact this
  have C : Hid (1 = 1 → Calls Try.prog 30 #[.pointer (some ⟨br, 0, none⟩), .int .u64 4294967295] Y1 fun r w' => r = .returned (.int .u64 (n : Int)) ∧ RdAt 85 br s2 w' ∧ Sole br Y1 w') := fun _ => by
    have := num20 br s1 4294967295 Y1 HZ1.out.r (by have := HZ1.out.len; omega)
    skip
    rw [E2.out] at this
    exact this
  go_wp2_with fail
  refine (C.out (by simp)).mono ?_
  rintro r x2 ⟨rfl, hr, hs⟩
  have HX2 : Hid (Rz 85 B w bx br be #[.int .i64 k, .int .u32 (c : Int), .int .u32 0, .int .u64 0, .int .u32 0, .int .u64 0, .int .u32 0, .int .u64 0, .int .u32 0, .string ⟨#[]⟩, .int .u8 0, .bool false, .slice none 0 0] (.slice none 0 0) [] s2 x2) := HZ1.out.rd hr hs HL.out
  clear hr hs C HL HZ1 hY1 q1 f1 xw
  have xw := u32w bd2
  have q2 : x2.cell? ⟨be, 2, none⟩ = some (.int .u32 0) := block_cell HX2.out.y rfl
  have f2 : x2.frozen? ⟨be, 2, none⟩ = false := block_frozen HX2.out.y 2
  obtain ⟨Y2, hY2⟩ : ∃ Y2, (x2.setCell ⟨be, 2, none⟩ (.int .u32 (n : Int))) = Y2 := ⟨_, rfl⟩
  have HZ2 : Hid (Rz 85 B w bx br be #[.int .i64 k, .int .u32 (c : Int), .int .u32 (n : Int), .int .u64 0, .int .u32 0, .int .u64 0, .int .u32 0, .int .u64 0, .int .u32 0, .string ⟨#[]⟩, .int .u8 0, .bool false, .slice none 0 0] (.slice none 0 0) [] s2 Y2) := by
    rw [← hY2]
    exact (HX2.out.put 2 (.int .u32 (n : Int)))
  clear HX2
  have C : Hid (∀ W : World, 1 = 1 → Calls Try.prog 41 #[.int .u16 389, .int .u16 2] W fun r w' => r = .returned (.bool false) ∧ W = w') := fun W _ => has41 389 2 W (by omega) (by omega)
  go_wp2_with fail
  refine (C.out _ (by trivial)).mono ?_
  rintro r wx ⟨rfl, rfl⟩
  clear C hY2 q2 f2 xw
  have C : Hid (∀ W : World, 1 = 1 → Calls Try.prog 41 #[.int .u16 389, .int .u16 4] W fun r w' => r = .returned (.bool true) ∧ W = w') := fun W _ => has41 389 4 W (by omega) (by omega)
  go_wp2_with fail
  refine (C.out _ (by trivial)).mono ?_
  rintro r wx ⟨rfl, rfl⟩
  clear C 
  have HL : Hid (s3.l.length ≤ s2.l.length) := by have := rdStamp_le s2; rw [E3.out] at this; exact this
  have C : Hid (1 = 1 → Calls Try.prog 54 #[.pointer (some ⟨br, 0, none⟩)] Y2 fun r w' => r = .returned (.agg #[.int .u64 (ap : Int), .int .u32 (aq : Int)]) ∧ RdAt 85 br s3 w' ∧ Sole br Y2 w') := fun _ => by
    have := stamp23 br s2 Y2 HZ2.out.r (by have := HZ2.out.len; omega)
    skip
    rw [E3.out] at this
    exact this
  go_wp2_with fail
  refine (C.out (by simp)).mono ?_
  rintro r x3 ⟨rfl, hr, hs⟩
  have HX3 : Hid (Rz 85 B w bx br be #[.int .i64 k, .int .u32 (c : Int), .int .u32 (n : Int), .int .u64 0, .int .u32 0, .int .u64 0, .int .u32 0, .int .u64 0, .int .u32 0, .string ⟨#[]⟩, .int .u8 0, .bool false, .slice none 0 0] (.slice none 0 0) [] s3 x3) := HZ2.out.rd hr hs HL.out
  clear hr hs C HL HZ2 
  have q5 : x3.cell? ⟨be, 5, none⟩ = some (.int .u64 0) := block_cell HX3.out.y rfl
  have f5 : x3.frozen? ⟨be, 5, none⟩ = false := block_frozen HX3.out.y 5
  have q6 : x3.cell? ⟨be, 6, none⟩ = some (.int .u32 0) := block_cell HX3.out.y rfl
  have f6 : x3.frozen? ⟨be, 6, none⟩ = false := block_frozen HX3.out.y 6
  obtain ⟨Y3, hY3⟩ : ∃ Y3, ((x3.setCell ⟨be, 5, none⟩ (.int .u64 (ap : Int))).setCell ⟨be, 6, none⟩ (.int .u32 (aq : Int))) = Y3 := ⟨_, rfl⟩
  have HZ3 : Hid (Rz 85 B w bx br be #[.int .i64 k, .int .u32 (c : Int), .int .u32 (n : Int), .int .u64 0, .int .u32 0, .int .u64 (ap : Int), .int .u32 (aq : Int), .int .u64 0, .int .u32 0, .string ⟨#[]⟩, .int .u8 0, .bool false, .slice none 0 0] (.slice none 0 0) [] s3 Y3) := by
    rw [← hY3]
    exact ((HX3.out.put 5 (.int .u64 (ap : Int))).put 6 (.int .u32 (aq : Int)))
  clear HX3
  have C : Hid (∀ W : World, 1 = 1 → Calls Try.prog 41 #[.int .u16 389, .int .u16 8] W fun r w' => r = .returned (.bool false) ∧ W = w') := fun W _ => has41 389 8 W (by omega) (by omega)
  go_wp2_with fail
  refine (C.out _ (by trivial)).mono ?_
  rintro r wx ⟨rfl, rfl⟩
  clear C hY3 q5 f5 q6 f6
  go_wp2_with fail
  go_end0
  exact ⟨rfl, HZ3.out⟩
end Go.Proofs.Ytmgjlpgjjeknpaa

namespace Go.Proofs.Ytmgjlpgjjeknpaa
open Go.RowKit Go.Sort

set_option maxHeartbeats 3200000 in
set_option maxRecDepth 100000 in
theorem th31_155 {B : Nat} {w W : World} {bx br be : Nat} {st : St} (k : Int) (c : Nat) (s1 : St) (e1 : rdNum 4294967295 st = (c, s1)) (n : Nat) (s2 : St) (e2 : rdNum 4294967295 s1 = (n, s2)) (sp sq : Nat) (s3 : St) (e3 : rdStamp s2 = ((sp, sq), s3)) (mp mq : Nat) (s4 : St) (e4 : rdStamp s3 = ((mp, mq), s4)) (h : Rz 85 B w bx br be #[.int .i64 k, .int .u32 0, .int .u32 0, .int .u64 0, .int .u32 0, .int .u64 0, .int .u32 0, .int .u64 0, .int .u32 0, .string ⟨#[]⟩, .int .u8 0, .bool false, .slice none 0 0] (.slice none 0 0) [] st W) :
    Calls Try.prog 31 #[.pointer (some ⟨br, 0, none⟩), .pointer (some ⟨be, 0, none⟩), .int .u16 155] W fun r w' => r = .returned (.tuple #[]) ∧ Rz 85 B w bx br be #[.int .i64 k, .int .u32 (c : Int), .int .u32 (n : Int), .int .u64 (sp : Int), .int .u32 (sq : Int), .int .u64 0, .int .u32 0, .int .u64 (mp : Int), .int .u32 (mq : Int), .string ⟨#[]⟩, .int .u8 0, .bool false, .slice none 0 0] (.slice none 0 0) [] s4 w' := by
  have HZ0 : Hid _ := h
  have E1 : Hid _ := e1
  have E2 : Hid _ := e2
  have E3 : Hid _ := e3
  have E4 : Hid _ := e4
  clear h e1 e2 e3 e4
  go_enter Try.func31, Try.ntmps31
  have C : Hid (∀ W : World, 1 = 1 → Calls Try.prog 41 #[.int .u16 155, .int .u16 1] W fun r w' => r = .returned (.bool true) ∧ W = w') := fun W _ => has41 155 1 W (by omega) (by omega)
  go_wp2_with fail
  refine (C.out _ (by trivial)).mono ?_
  rintro r wx ⟨rfl, rfl⟩
  clear C 
  have HL : Hid (s1.l.length ≤ st.l.length) := by have := (rdNum_le 4294967295 st).2.1; rw [E1.out] at this; exact this
  have bd1 : c ≤ 4294967295 := by have := (rdNum_le 4294967295 st).1; rw [E1.out] at this; exact this
  have C : Hid (1 = 1 → Calls Try.prog 30 #[.pointer (some ⟨br, 0, none⟩), .int .u64 4294967295] W fun r w' => r = .returned (.int .u64 (c : Int)) ∧ RdAt 85 br s1 w' ∧ Sole br W w') := fun _ => by
    have := num20 br st 4294967295 W HZ0.out.r (by have := HZ0.out.len; omega)
    skip
    rw [E1.out] at this
    exact this
  go_wp2_with fail
  refine (C.out (by simp)).mono ?_
  rintro r x1 ⟨rfl, hr, hs⟩
  have HX1 : Hid (Rz 85 B w bx br be #[.int .i64 k, .int .u32 0, .int .u32 0, .int .u64 0, .int .u32 0, .int .u64 0, .int .u32 0, .int .u64 0, .int .u32 0, .string ⟨#[]⟩, .int .u8 0, .bool false, .slice none 0 0] (.slice none 0 0) [] s1 x1) := HZ0.out.rd hr hs HL.out
  clear hr hs C HL HZ0 
  have xw := u32w bd1
  have q1 : x1.cell? ⟨be, 1, none⟩ = some (.int .u32 0) := block_cell HX1.out.y rfl
  have f1 : x1.frozen? ⟨be, 1, none⟩ = false := block_frozen HX1.out.y 1
  obtain ⟨Y1, hY1⟩ : ∃ Y1, (x1.setCell ⟨be, 1, none⟩ (.int .u32 (c : Int))) = Y1 := ⟨_, rfl⟩
  have HZ1 : Hid (Rz 85 B w bx br be #[.int .i64 k, .int .u32 (c : Int), .int .u32 0, .int .u64 0, .int .u32 0, .int .u64 0, .int .u32 0, .int .u64 0, .int .u32 0, .string ⟨#[]⟩, .int .u8 0, .bool false, .slice none 0 0] (.slice none 0 0) [] s1 Y1) := by
    rw [← hY1]
    exact (HX1.out.put 1 (.int .u32 (c : Int)))
  clear HX1
  have HL : Hid (s2.l.length ≤ s1.l.length) := by have := (rdNum_le 4294967295 s1).2.1; rw [E2.out] at this; exact this
  have bd2 : n ≤ 4294967295 := by have := (rdNum_le 4294967295 s1).1; rw [E2.out] at this; exact this
  have C : Hid (1 = 1 → Calls Try.prog 30 #[.pointer (some ⟨br, 0, none⟩), .int .u64 4294967295] Y1 fun r w' => r = .returned (.int .u64 (n : Int)) ∧ RdAt 85 br s2 w' ∧ Sole br Y1 w') := fun _ => by
    have := num20 br s1 4294967295 Y1 HZ1.out.r (by have := HZ1.out.len; omega)
    skip
    rw [E2.out] at this
    exact this
  go_wp2_with fail
  refine (C.out (by simp)).mono ?_
  rintro r x2 ⟨rfl, hr, hs⟩
  have HX2 : Hid (Rz 85 B w bx br be #[.int .i64 k, .int .u32 (c : Int), .int .u32 0, .int .u64 0, .int .u32 0, .int .u64 0, .int .u32 0, .int .u64 0, .int .u32 0, .string ⟨#[]⟩, .int .u8 0, .bool false, .slice none 0 0] (.slice none 0 0) [] s2 x2) := HZ1.out.rd hr hs HL.out
  clear hr hs C HL HZ1 hY1 q1 f1 xw
  have xw := u32w bd2
  have q2 : x2.cell? ⟨be, 2, none⟩ = some (.int .u32 0) := block_cell HX2.out.y rfl
  have f2 : x2.frozen? ⟨be, 2, none⟩ = false := block_frozen HX2.out.y 2
  obtain ⟨Y2, hY2⟩ : ∃ Y2, (x2.setCell ⟨be, 2, none⟩ (.int .u32 (n : Int))) = Y2 := ⟨_, rfl⟩
  have HZ2 : Hid (Rz 85 B w bx br be #[.int .i64 k, .int .u32 (c : Int), .int .u32 (n : Int), .int .u64 0, .int .u32 0, .int .u64 0, .int .u32 0, .int .u64 0, .int .u32 0, .string ⟨#[]⟩, .int .u8 0, .bool false, .slice none 0 0] (.slice none 0 0) [] s2 Y2) := by
    rw [← hY2]
    exact (HX2.out.put 2 (.int .u32 (n : Int)))
  clear HX2
  have C : Hid (∀ W : World, 1 = 1 → Calls Try.prog 41 #[.int .u16 155, .int .u16 2] W fun r w' => r = .returned (.bool true) ∧ W = w') := fun W _ => has41 155 2 W (by omega) (by omega)
  go_wp2_with fail
  refine (C.out _ (by trivial)).mono ?_
  rintro r wx ⟨rfl, rfl⟩
  clear C hY2 q2 f2 xw
  have HL : Hid (s3.l.length ≤ s2.l.length) := by have := rdStamp_le s2; rw [E3.out] at this; exact this
  have C : Hid (1 = 1 → Calls Try.prog 54 #[.pointer (some ⟨br, 0, none⟩)] Y2 fun r w' => r = .returned (.agg #[.int .u64 (sp : Int), .int .u32 (sq : Int)]) ∧ RdAt 85 br s3 w' ∧ Sole br Y2 w') := fun _ => by
    have := stamp23 br s2 Y2 HZ2.out.r (by have := HZ2.out.len; omega)
    skip
    rw [E3.out] at this
    exact this
  go_wp2_with fail
  refine (C.out (by simp)).mono ?_
  rintro r x3 ⟨rfl, hr, hs⟩
  have HX3 : Hid (Rz 85 B w bx br be #[.int .i64 k, .int .u32 (c : Int), .int .u32 (n : Int), .int .u64 0, .int .u32 0, .int .u64 0, .int .u32 0, .int .u64 0, .int .u32 0, .string ⟨#[]⟩, .int .u8 0, .bool false, .slice none 0 0] (.slice none 0 0) [] s3 x3) := HZ2.out.rd hr hs HL.out
  clear hr hs C HL HZ2 
  have q3 : x3.cell? ⟨be, 3, none⟩ = some (.int .u64 0) := block_cell HX3.out.y rfl
  have f3 : x3.frozen? ⟨be, 3, none⟩ = false := block_frozen HX3.out.y 3
  have q4 : x3.cell? ⟨be, 4, none⟩ = some (.int .u32 0) := block_cell HX3.out.y rfl
  have f4 : x3.frozen? ⟨be, 4, none⟩ = false := block_frozen HX3.out.y 4
  obtain ⟨Y3, hY3⟩ : ∃ Y3, ((x3.setCell ⟨be, 3, none⟩ (.int .u64 (sp : Int))).setCell ⟨be, 4, none⟩ (.int .u32 (sq : Int))) = Y3 := ⟨_, rfl⟩
  have HZ3 : Hid (Rz 85 B w bx br be #[.int .i64 k, .int .u32 (c : Int), .int .u32 (n : Int), .int .u64 (sp : Int), .int .u32 (sq : Int), .int .u64 0, .int .u32 0, .int .u64 0, .int .u32 0, .string ⟨#[]⟩, .int .u8 0, .bool false, .slice none 0 0] (.slice none 0 0) [] s3 Y3) := by
    rw [← hY3]
    exact ((HX3.out.put 3 (.int .u64 (sp : Int))).put 4 (.int .u32 (sq : Int)))
  clear HX3
  have C : Hid (∀ W : World, 1 = 1 → Calls Try.prog 41 #[.int .u16 155, .int .u16 4] W fun r w' => r = .returned (.bool false) ∧ W = w') := fun W _ => has41 155 4 W (by omega) (by omega)
  go_wp2_with fail
  refine (C.out _ (by trivial)).mono ?_
  rintro r wx ⟨rfl, rfl⟩
  clear C hY3 q3 f3 q4 f4
  have C : Hid (∀ W : World, 1 = 1 → Calls Try.prog 41 #[.int .u16 155, .int .u16 8] W fun r w' => r = .returned (.bool true) ∧ W = w') := fun W _ => has41 155 8 W (by omega) (by omega)
  go_wp2_with fail
  refine (C.out _ (by trivial)).mono ?_
  rintro r wx ⟨rfl, rfl⟩
  clear C 
  have HL : Hid (s4.l.length ≤ s3.l.length) := by have := rdStamp_le s3; rw [E4.out] at this; exact this
  have C : Hid (1 = 1 → Calls Try.prog 54 #[.pointer (some ⟨br, 0, none⟩)] Y3 fun r w' => r = .returned (.agg #[.int .u64 (mp : Int), .int .u32 (mq : Int)]) ∧ RdAt 85 br s4 w' ∧ Sole br Y3 w') := fun _ => by
    have := stamp23 br s3 Y3 HZ3.out.r (by have := HZ3.out.len; omega)
    skip
    rw [E4.out] at this
    exact this
  go_wp2_with fail
  refine (C.out (by simp)).mono ?_
  rintro r x4 ⟨rfl, hr, hs⟩
  have HX4 : Hid (Rz 85 B w bx br be #[.int .i64 k, .int .u32 (c : Int), .int .u32 (n : Int), .int .u64 (sp : Int), .int .u32 (sq : Int), .int .u64 0, .int .u32 0, .int .u64 0, .int .u32 0, .string ⟨#[]⟩, .int .u8 0, .bool false, .slice none 0 0] (.slice none 0 0) [] s4 x4) := HZ3.out.rd hr hs HL.out
  clear hr hs C HL HZ3 
  have q7 : x4.cell? ⟨be, 7, none⟩ = some (.int .u64 0) := block_cell HX4.out.y rfl
  have f7 : x4.frozen? ⟨be, 7, none⟩ = false := block_frozen HX4.out.y 7
  have q8 : x4.cell? ⟨be, 8, none⟩ = some (.int .u32 0) := block_cell HX4.out.y rfl
  have f8 : x4.frozen? ⟨be, 8, none⟩ = false := block_frozen HX4.out.y 8
  obtain ⟨Y4, hY4⟩ : ∃ Y4, ((x4.setCell ⟨be, 7, none⟩ (.int .u64 (mp : Int))).setCell ⟨be, 8, none⟩ (.int .u32 (mq : Int))) = Y4 := ⟨_, rfl⟩
  have HZ4 : Hid (Rz 85 B w bx br be #[.int .i64 k, .int .u32 (c : Int), .int .u32 (n : Int), .int .u64 (sp : Int), .int .u32 (sq : Int), .int .u64 0, .int .u32 0, .int .u64 (mp : Int), .int .u32 (mq : Int), .string ⟨#[]⟩, .int .u8 0, .bool false, .slice none 0 0] (.slice none 0 0) [] s4 Y4) := by
    rw [← hY4]
    exact ((HX4.out.put 7 (.int .u64 (mp : Int))).put 8 (.int .u32 (mq : Int)))
  clear HX4
  go_wp2_with fail
  go_end0
  exact ⟨rfl, HZ4.out⟩
set_option maxHeartbeats 3200000 in
set_option maxRecDepth 100000 in
theorem th31_551 {B : Nat} {w W : World} {bx br be : Nat} {st : St} (k : Int) (c : Nat) (s1 : St) (e1 : rdNum 4294967295 st = (c, s1)) (n : Nat) (s2 : St) (e2 : rdNum 4294967295 s1 = (n, s2)) (sp sq : Nat) (s3 : St) (e3 : rdStamp s2 = ((sp, sq), s3)) (ap aq : Nat) (s4 : St) (e4 : rdStamp s3 = ((ap, aq), s4)) (h : Rz 85 B w bx br be #[.int .i64 k, .int .u32 0, .int .u32 0, .int .u64 0, .int .u32 0, .int .u64 0, .int .u32 0, .int .u64 0, .int .u32 0, .string ⟨#[]⟩, .int .u8 0, .bool false, .slice none 0 0] (.slice none 0 0) [] st W) :
    Calls Try.prog 31 #[.pointer (some ⟨br, 0, none⟩), .pointer (some ⟨be, 0, none⟩), .int .u16 551] W fun r w' => r = .returned (.tuple #[]) ∧ Rz 85 B w bx br be #[.int .i64 k, .int .u32 (c : Int), .int .u32 (n : Int), .int .u64 (sp : Int), .int .u32 (sq : Int), .int .u64 (ap : Int), .int .u32 (aq : Int), .int .u64 0, .int .u32 0, .string ⟨#[]⟩, .int .u8 0, .bool false, .slice none 0 0] (.slice none 0 0) [] s4 w' := by
  have HZ0 : Hid _ := h
  have E1 : Hid _ := e1
  have E2 : Hid _ := e2
  have E3 : Hid _ := e3
  have E4 : Hid _ := e4
  clear h e1 e2 e3 e4
  go_enter Try.func31, Try.ntmps31
  have C : Hid (∀ W : World, 1 = 1 → Calls Try.prog 41 #[.int .u16 551, .int .u16 1] W fun r w' => r = .returned (.bool true) ∧ W = w') := fun W _ => has41 551 1 W (by omega) (by omega)
  go_wp2_with fail
  refine (C.out _ (by trivial)).mono ?_
  rintro r wx ⟨rfl, rfl⟩
  clear C 
  have HL : Hid (s1.l.length ≤ st.l.length) := by have := (rdNum_le 4294967295 st).2.1; rw [E1.out] at this; exact this
  have bd1 : c ≤ 4294967295 := by have := (rdNum_le 4294967295 st).1; rw [E1.out] at this; exact this
  have C : Hid (1 = 1 → Calls Try.prog 30 #[.pointer (some ⟨br, 0, none⟩), .int .u64 4294967295] W fun r w' => r = .returned (.int .u64 (c : Int)) ∧ RdAt 85 br s1 w' ∧ Sole br W w') := fun _ => by
    have := num20 br st 4294967295 W HZ0.out.r (by have := HZ0.out.len; omega)
    skip
    rw [E1.out] at this
    exact this
  go_wp2_with fail
  refine (C.out (by simp)).mono ?_
  rintro r x1 ⟨rfl, hr, hs⟩
  have HX1 : Hid (Rz 85 B w bx br be #[.int .i64 k, .int .u32 0, .int .u32 0, .int .u64 0, .int .u32 0, .int .u64 0, .int .u32 0, .int .u64 0, .int .u32 0, .string ⟨#[]⟩, .int .u8 0, .bool false, .slice none 0 0] (.slice none 0 0) [] s1 x1) := HZ0.out.rd hr hs HL.out
  clear hr hs C HL HZ0 
  have xw := u32w bd1
  have q1 : x1.cell? ⟨be, 1, none⟩ = some (.int .u32 0) := block_cell HX1.out.y rfl
  have f1 : x1.frozen? ⟨be, 1, none⟩ = false := block_frozen HX1.out.y 1
  obtain ⟨Y1, hY1⟩ : ∃ Y1, (x1.setCell ⟨be, 1, none⟩ (.int .u32 (c : Int))) = Y1 := ⟨_, rfl⟩
  have HZ1 : Hid (Rz 85 B w bx br be #[.int .i64 k, .int .u32 (c : Int), .int .u32 0, .int .u64 0, .int .u32 0, .int .u64 0, .int .u32 0, .int .u64 0, .int .u32 0, .string ⟨#[]⟩, .int .u8 0, .bool false, .slice none 0 0] (.slice none 0 0) [] s1 Y1) := by
    rw [← hY1]
    exact (HX1.out.put 1 (.int .u32 (c : Int)))
  clear HX1
  have HL : Hid (s2.l.length ≤ s1.l.length) := by have := (rdNum_le 4294967295 s1).2.1; rw [E2.out] at this; exact this
  have bd2 : n ≤ 4294967295 := by have := (rdNum_le 4294967295 s1).1; rw [E2.out] at this; exact this
  have C : Hid (1 = 1 → Calls Try.prog 30 #[.pointer (some ⟨br, 0, none⟩), .int .u64 4294967295] Y1 fun r w' => r = .returned (.int .u64 (n : Int)) ∧ RdAt 85 br s2 w' ∧ Sole br Y1 w') := fun _ => by
    have := num20 br s1 4294967295 Y1 HZ1.out.r (by have := HZ1.out.len; omega)
    skip
    rw [E2.out] at this
    exact this
  go_wp2_with fail
  refine (C.out (by simp)).mono ?_
  rintro r x2 ⟨rfl, hr, hs⟩
  have HX2 : Hid (Rz 85 B w bx br be #[.int .i64 k, .int .u32 (c : Int), .int .u32 0, .int .u64 0, .int .u32 0, .int .u64 0, .int .u32 0, .int .u64 0, .int .u32 0, .string ⟨#[]⟩, .int .u8 0, .bool false, .slice none 0 0] (.slice none 0 0) [] s2 x2) := HZ1.out.rd hr hs HL.out
  clear hr hs C HL HZ1 hY1 q1 f1 xw
  have xw := u32w bd2
  have q2 : x2.cell? ⟨be, 2, none⟩ = some (.int .u32 0) := block_cell HX2.out.y rfl
  have f2 : x2.frozen? ⟨be, 2, none⟩ = false := block_frozen HX2.out.y 2
  obtain ⟨Y2, hY2⟩ : ∃ Y2, (x2.setCell ⟨be, 2, none⟩ (.int .u32 (n : Int))) = Y2 := ⟨_, rfl⟩
  have HZ2 : Hid (Rz 85 B w bx br be #[.int .i64 k, .int .u32 (c : Int), .int .u32 (n : Int), .int .u64 0, .int .u32 0, .int .u64 0, .int .u32 0, .int .u64 0, .int .u32 0, .string ⟨#[]⟩, .int .u8 0, .bool false, .slice none 0 0] (.slice none 0 0) [] s2 Y2) := by
    rw [← hY2]
    exact (HX2.out.put 2 (.int .u32 (n : Int)))
  clear HX2
  have C : Hid (∀ W : World, 1 = 1 → Calls Try.prog 41 #[.int .u16 551, .int .u16 2] W fun r w' => r = .returned (.bool true) ∧ W = w') := fun W _ => has41 551 2 W (by omega) (by omega)
  go_wp2_with fail
  refine (C.out _ (by trivial)).mono ?_
  rintro r wx ⟨rfl, rfl⟩
  clear C hY2 q2 f2 xw
  have HL : Hid (s3.l.length ≤ s2.l.length) := by have := rdStamp_le s2; rw [E3.out] at this; exact this
  have C : Hid (1 = 1 → Calls Try.prog 54 #[.pointer (some ⟨br, 0, none⟩)] Y2 fun r w' => r = .returned (.agg #[.int .u64 (sp : Int), .int .u32 (sq : Int)]) ∧ RdAt 85 br s3 w' ∧ Sole br Y2 w') := fun _ => by
    have := stamp23 br s2 Y2 HZ2.out.r (by have := HZ2.out.len; omega)
    skip
    rw [E3.out] at this
    exact this
  go_wp2_with fail
  refine (C.out (by simp)).mono ?_
  rintro r x3 ⟨rfl, hr, hs⟩
  have HX3 : Hid (Rz 85 B w bx br be #[.int .i64 k, .int .u32 (c : Int), .int .u32 (n : Int), .int .u64 0, .int .u32 0, .int .u64 0, .int .u32 0, .int .u64 0, .int .u32 0, .string ⟨#[]⟩, .int .u8 0, .bool false, .slice none 0 0] (.slice none 0 0) [] s3 x3) := HZ2.out.rd hr hs HL.out
  clear hr hs C HL HZ2 
  have q3 : x3.cell? ⟨be, 3, none⟩ = some (.int .u64 0) := block_cell HX3.out.y rfl
  have f3 : x3.frozen? ⟨be, 3, none⟩ = false := block_frozen HX3.out.y 3
  have q4 : x3.cell? ⟨be, 4, none⟩ = some (.int .u32 0) := block_cell HX3.out.y rfl
  have f4 : x3.frozen? ⟨be, 4, none⟩ = false := block_frozen HX3.out.y 4
  obtain ⟨Y3, hY3⟩ : ∃ Y3, ((x3.setCell ⟨be, 3, none⟩ (.int .u64 (sp : Int))).setCell ⟨be, 4, none⟩ (.int .u32 (sq : Int))) = Y3 := ⟨_, rfl⟩
  have HZ3 : Hid (Rz 85 B w bx br be #[.int .i64 k, .int .u32 (c : Int), .int .u32 (n : Int), .int .u64 (sp : Int), .int .u32 (sq : Int), .int .u64 0, .int .u32 0, .int .u64 0, .int .u32 0, .string ⟨#[]⟩, .int .u8 0, .bool false, .slice none 0 0] (.slice none 0 0) [] s3 Y3) := by
    rw [← hY3]
    exact ((HX3.out.put 3 (.int .u64 (sp : Int))).put 4 (.int .u32 (sq : Int)))
  clear HX3
  have C : Hid (∀ W : World, 1 = 1 → Calls Try.prog 41 #[.int .u16 551, .int .u16 4] W fun r w' => r = .returned (.bool true) ∧ W = w') := fun W _ => has41 551 4 W (by omega) (by omega)
  go_wp2_with fail
  refine (C.out _ (by trivial)).mono ?_
  rintro r wx ⟨rfl, rfl⟩
  clear C hY3 q3 f3 q4 f4
  have HL : Hid (s4.l.length ≤ s3.l.length) := by have := rdStamp_le s3; rw [E4.out] at this; exact this
  have C : Hid (1 = 1 → Calls Try.prog 54 #[.pointer (some ⟨br, 0, none⟩)] Y3 fun r w' => r = .returned (.agg #[.int .u64 (ap : Int), .int .u32 (aq : Int)]) ∧ RdAt 85 br s4 w' ∧ Sole br Y3 w') := fun _ => by
    have := stamp23 br s3 Y3 HZ3.out.r (by have := HZ3.out.len; omega)
    skip
    rw [E4.out] at this
    exact this
  go_wp2_with fail
  refine (C.out (by simp)).mono ?_
  rintro r x4 ⟨rfl, hr, hs⟩
  have HX4 : Hid (Rz 85 B w bx br be #[.int .i64 k, .int .u32 (c : Int), .int .u32 (n : Int), .int .u64 (sp : Int), .int .u32 (sq : Int), .int .u64 0, .int .u32 0, .int .u64 0, .int .u32 0, .string ⟨#[]⟩, .int .u8 0, .bool false, .slice none 0 0] (.slice none 0 0) [] s4 x4) := HZ3.out.rd hr hs HL.out
  clear hr hs C HL HZ3 
  have q5 : x4.cell? ⟨be, 5, none⟩ = some (.int .u64 0) := block_cell HX4.out.y rfl
  have f5 : x4.frozen? ⟨be, 5, none⟩ = false := block_frozen HX4.out.y 5
  have q6 : x4.cell? ⟨be, 6, none⟩ = some (.int .u32 0) := block_cell HX4.out.y rfl
  have f6 : x4.frozen? ⟨be, 6, none⟩ = false := block_frozen HX4.out.y 6
  obtain ⟨Y4, hY4⟩ : ∃ Y4, ((x4.setCell ⟨be, 5, none⟩ (.int .u64 (ap : Int))).setCell ⟨be, 6, none⟩ (.int .u32 (aq : Int))) = Y4 := ⟨_, rfl⟩
  have HZ4 : Hid (Rz 85 B w bx br be #[.int .i64 k, .int .u32 (c : Int), .int .u32 (n : Int), .int .u64 (sp : Int), .int .u32 (sq : Int), .int .u64 (ap : Int), .int .u32 (aq : Int), .int .u64 0, .int .u32 0, .string ⟨#[]⟩, .int .u8 0, .bool false, .slice none 0 0] (.slice none 0 0) [] s4 Y4) := by
    rw [← hY4]
    exact ((HX4.out.put 5 (.int .u64 (ap : Int))).put 6 (.int .u32 (aq : Int)))
  clear HX4
  have C : Hid (∀ W : World, 1 = 1 → Calls Try.prog 41 #[.int .u16 551, .int .u16 8] W fun r w' => r = .returned (.bool false) ∧ W = w') := fun W _ => has41 551 8 W (by omega) (by omega)
  go_wp2_with fail
  refine (C.out _ (by trivial)).mono ?_
  rintro r wx ⟨rfl, rfl⟩
  clear C hY4 q5 f5 q6 f6
  go_wp2_with fail
  go_end0
  exact ⟨rfl, HZ4.out⟩
set_option maxHeartbeats 3200000 in
set_option maxRecDepth 100000 in
theorem th31_103 {B : Nat} {w W : World} {bx br be : Nat} {st : St} (k : Int) (c : Nat) (s1 : St) (e1 : rdNum 4294967295 st = (c, s1)) (n : Nat) (s2 : St) (e2 : rdNum 4294967295 s1 = (n, s2)) (sp sq : Nat) (s3 : St) (e3 : rdStamp s2 = ((sp, sq), s3)) (ap aq : Nat) (s4 : St) (e4 : rdStamp s3 = ((ap, aq), s4)) (h : Rz 85 B w bx br be #[.int .i64 k, .int .u32 0, .int .u32 0, .int .u64 0, .int .u32 0, .int .u64 0, .int .u32 0, .int .u64 0, .int .u32 0, .string ⟨#[]⟩, .int .u8 0, .bool false, .slice none 0 0] (.slice none 0 0) [] st W) :
    Calls Try.prog 31 #[.pointer (some ⟨br, 0, none⟩), .pointer (some ⟨be, 0, none⟩), .int .u16 103] W fun r w' => r = .returned (.tuple #[]) ∧ Rz 85 B w bx br be #[.int .i64 k, .int .u32 (c : Int), .int .u32 (n : Int), .int .u64 (sp : Int), .int .u32 (sq : Int), .int .u64 (ap : Int), .int .u32 (aq : Int), .int .u64 0, .int .u32 0, .string ⟨#[]⟩, .int .u8 0, .bool false, .slice none 0 0] (.slice none 0 0) [] s4 w' := by
  have HZ0 : Hid _ := h
  have E1 : Hid _ := e1
  have E2 : Hid _ := e2
  have E3 : Hid _ := e3
  have E4 : Hid _ := e4
  clear h e1 e2 e3 e4
  go_enter Try.func31, Try.ntmps31
  have C : Hid (∀ W : World, 1 = 1 → Calls Try.prog 41 #[.int .u16 103, .int .u16 1] W fun r w' => r = .returned (.bool true) ∧ W = w') := fun W _ => has41 103 1 W (by omega) (by omega)
  go_wp2_with fail
  refine (C.out _ (by trivial)).mono ?_
  rintro r wx ⟨rfl, rfl⟩
  clear C 
  have HL : Hid (s1.l.length ≤ st.l.length) := by have := (rdNum_le 4294967295 st).2.1; rw [E1.out] at this; exact this
  have bd1 : c ≤ 4294967295 := by have := (rdNum_le 4294967295 st).1; rw [E1.out] at this; exact this
  have C : Hid (1 = 1 → Calls Try.prog 30 #[.pointer (some ⟨br, 0, none⟩), .int .u64 4294967295] W fun r w' => r = .returned (.int .u64 (c : Int)) ∧ RdAt 85 br s1 w' ∧ Sole br W w') := fun _ => by
    have := num20 br st 4294967295 W HZ0.out.r (by have := HZ0.out.len; omega)
    skip
    rw [E1.out] at this
    exact this
  go_wp2_with fail
  refine (C.out (by simp)).mono ?_
  rintro r x1 ⟨rfl, hr, hs⟩
  have HX1 : Hid (Rz 85 B w bx br be #[.int .i64 k, .int .u32 0, .int .u32 0, .int .u64 0, .int .u32 0, .int .u64 0, .int .u32 0, .int .u64 0, .int .u32 0, .string ⟨#[]⟩, .int .u8 0, .bool false, .slice none 0 0] (.slice none 0 0) [] s1 x1) := HZ0.out.rd hr hs HL.out
  clear hr hs C HL HZ0 
  have xw := u32w bd1
  have q1 : x1.cell? ⟨be, 1, none⟩ = some (.int .u32 0) := block_cell HX1.out.y rfl
  have f1 : x1.frozen? ⟨be, 1, none⟩ = false := block_frozen HX1.out.y 1
  obtain ⟨Y1, hY1⟩ : ∃ Y1, (x1.setCell ⟨be, 1, none⟩ (.int .u32 (c : Int))) = Y1 := ⟨_, rfl⟩
  have HZ1 : Hid (Rz 85 B w bx br be #[.int .i64 k, .int .u32 (c : Int), .int .u32 0, .int .u64 0, .int .u32 0, .int .u64 0, .int .u32 0, .int .u64 0, .int .u32 0, .string ⟨#[]⟩, .int .u8 0, .bool false, .slice none 0 0] (.slice none 0 0) [] s1 Y1) := by
    rw [← hY1]
    exact (HX1.out.put 1 (.int .u32 (c : Int)))
  clear HX1
  have HL : Hid (s2.l.length ≤ s1.l.length) := by have := (rdNum_le 4294967295 s1).2.1; rw [E2.out] at this; exact this
  have bd2 : n ≤ 4294967295 := by have := (rdNum_le 4294967295 s1).1; rw [E2.out] at this; exact this
  have C : Hid (1 = 1 → Calls Try.prog 30 #[.pointer (some ⟨br, 0, none⟩), .int .u64 4294967295] Y1 fun r w' => r = .returned (.int .u64 (n : Int)) ∧ RdAt 85 br s2 w' ∧ Sole br Y1 w') := fun _ => by
    have := num20 br s1 4294967295 Y1 HZ1.out.r (by have := HZ1.out.len; omega)
    skip
    rw [E2.out] at this
    exact this
  go_wp2_with fail
  refine (C.out (by simp)).mono ?_
  rintro r x2 ⟨rfl, hr, hs⟩
  have HX2 : Hid (Rz 85 B w bx br be #[.int .i64 k, .int .u32 (c : Int), .int .u32 0, .int .u64 0, .int .u32 0, .int .u64 0, .int .u32 0, .int .u64 0, .int .u32 0, .string ⟨#[]⟩, .int .u8 0, .bool false, .slice none 0 0] (.slice none 0 0) [] s2 x2) := HZ1.out.rd hr hs HL.out
  clear hr hs C HL HZ1 hY1 q1 f1 xw
  have xw := u32w bd2
  have q2 : x2.cell? ⟨be, 2, none⟩ = some (.int .u32 0) := block_cell HX2.out.y rfl
  have f2 : x2.frozen? ⟨be, 2, none⟩ = false := block_frozen HX2.out.y 2
  obtain ⟨Y2, hY2⟩ : ∃ Y2, (x2.setCell ⟨be, 2, none⟩ (.int .u32 (n : Int))) = Y2 := ⟨_, rfl⟩
  have HZ2 : Hid (Rz 85 B w bx br be #[.int .i64 k, .int .u32 (c : Int), .int .u32 (n : Int), .int .u64 0, .int .u32 0, .int .u64 0, .int .u32 0, .int .u64 0, .int .u32 0, .string ⟨#[]⟩, .int .u8 0, .bool false, .slice none 0 0] (.slice none 0 0) [] s2 Y2) := by
    rw [← hY2]
    exact (HX2.out.put 2 (.int .u32 (n : Int)))
  clear HX2
  have C : Hid (∀ W : World, 1 = 1 → Calls Try.prog 41 #[.int .u16 103, .int .u16 2] W fun r w' => r = .returned (.bool true) ∧ W = w') := fun W _ => has41 103 2 W (by omega) (by omega)
  go_wp2_with fail
  refine (C.out _ (by trivial)).mono ?_
  rintro r wx ⟨rfl, rfl⟩
  clear C hY2 q2 f2 xw
  have HL : Hid (s3.l.length ≤ s2.l.length) := by have := rdStamp_le s2; rw [E3.out] at this; exact this
  have C : Hid (1 = 1 → Calls Try.prog 54 #[.pointer (some ⟨br, 0, none⟩)] Y2 fun r w' => r = .returned (.agg #[.int .u64 (sp : Int), .int .u32 (sq : Int)]) ∧ RdAt 85 br s3 w' ∧ Sole br Y2 w') := fun _ => by
    have := stamp23 br s2 Y2 HZ2.out.r (by have := HZ2.out.len; omega)
    skip
    rw [E3.out] at this
    exact this
  go_wp2_with fail
  refine (C.out (by simp)).mono ?_
  rintro r x3 ⟨rfl, hr, hs⟩
  have HX3 : Hid (Rz 85 B w bx br be #[.int .i64 k, .int .u32 (c : Int), .int .u32 (n : Int), .int .u64 0, .int .u32 0, .int .u64 0, .int .u32 0, .int .u64 0, .int .u32 0, .string ⟨#[]⟩, .int .u8 0, .bool false, .slice none 0 0] (.slice none 0 0) [] s3 x3) := HZ2.out.rd hr hs HL.out
  clear hr hs C HL HZ2 
  have q3 : x3.cell? ⟨be, 3, none⟩ = some (.int .u64 0) := block_cell HX3.out.y rfl
  have f3 : x3.frozen? ⟨be, 3, none⟩ = false := block_frozen HX3.out.y 3
  have q4 : x3.cell? ⟨be, 4, none⟩ = some (.int .u32 0) := block_cell HX3.out.y rfl
  have f4 : x3.frozen? ⟨be, 4, none⟩ = false := block_frozen HX3.out.y 4
  obtain ⟨Y3, hY3⟩ : ∃ Y3, ((x3.setCell ⟨be, 3, none⟩ (.int .u64 (sp : Int))).setCell ⟨be, 4, none⟩ (.int .u32 (sq : Int))) = Y3 := ⟨_, rfl⟩
  have HZ3 : Hid (Rz 85 B w bx br be #[.int .i64 k, .int .u32 (c : Int), .int .u32 (n : Int), .int .u64 (sp : Int), .int .u32 (sq : Int), .int .u64 0, .int .u32 0, .int .u64 0, .int .u32 0, .string ⟨#[]⟩, .int .u8 0, .bool false, .slice none 0 0] (.slice none 0 0) [] s3 Y3) := by
    rw [← hY3]
    exact ((HX3.out.put 3 (.int .u64 (sp : Int))).put 4 (.int .u32 (sq : Int)))
  clear HX3
  have C : Hid (∀ W : World, 1 = 1 → Calls Try.prog 41 #[.int .u16 103, .int .u16 4] W fun r w' => r = .returned (.bool true) ∧ W = w') := fun W _ => has41 103 4 W (by omega) (by omega)
  go_wp2_with fail
  refine (C.out _ (by trivial)).mono ?_
  rintro r wx ⟨rfl, rfl⟩
  clear C hY3 q3 f3 q4 f4
  have HL : Hid (s4.l.length ≤ s3.l.length) := by have := rdStamp_le s3; rw [E4.out] at this; exact this
  have C : Hid (1 = 1 → Calls Try.prog 54 #[.pointer (some ⟨br, 0, none⟩)] Y3 fun r w' => r = .returned (.agg #[.int .u64 (ap : Int), .int .u32 (aq : Int)]) ∧ RdAt 85 br s4 w' ∧ Sole br Y3 w') := fun _ => by
    have := stamp23 br s3 Y3 HZ3.out.r (by have := HZ3.out.len; omega)
    skip
    rw [E4.out] at this
    exact this
  go_wp2_with fail
  refine (C.out (by simp)).mono ?_
  rintro r x4 ⟨rfl, hr, hs⟩
  have HX4 : Hid (Rz 85 B w bx br be #[.int .i64 k, .int .u32 (c : Int), .int .u32 (n : Int), .int .u64 (sp : Int), .int .u32 (sq : Int), .int .u64 0, .int .u32 0, .int .u64 0, .int .u32 0, .string ⟨#[]⟩, .int .u8 0, .bool false, .slice none 0 0] (.slice none 0 0) [] s4 x4) := HZ3.out.rd hr hs HL.out
  clear hr hs C HL HZ3 
  have q5 : x4.cell? ⟨be, 5, none⟩ = some (.int .u64 0) := block_cell HX4.out.y rfl
  have f5 : x4.frozen? ⟨be, 5, none⟩ = false := block_frozen HX4.out.y 5
  have q6 : x4.cell? ⟨be, 6, none⟩ = some (.int .u32 0) := block_cell HX4.out.y rfl
  have f6 : x4.frozen? ⟨be, 6, none⟩ = false := block_frozen HX4.out.y 6
  obtain ⟨Y4, hY4⟩ : ∃ Y4, ((x4.setCell ⟨be, 5, none⟩ (.int .u64 (ap : Int))).setCell ⟨be, 6, none⟩ (.int .u32 (aq : Int))) = Y4 := ⟨_, rfl⟩
  have HZ4 : Hid (Rz 85 B w bx br be #[.int .i64 k, .int .u32 (c : Int), .int .u32 (n : Int), .int .u64 (sp : Int), .int .u32 (sq : Int), .int .u64 (ap : Int), .int .u32 (aq : Int), .int .u64 0, .int .u32 0, .string ⟨#[]⟩, .int .u8 0, .bool false, .slice none 0 0] (.slice none 0 0) [] s4 Y4) := by
    rw [← hY4]
    exact ((HX4.out.put 5 (.int .u64 (ap : Int))).put 6 (.int .u32 (aq : Int)))
  clear HX4
  have C : Hid (∀ W : World, 1 = 1 → Calls Try.prog 41 #[.int .u16 103, .int .u16 8] W fun r w' => r = .returned (.bool false) ∧ W = w') := fun W _ => has41 103 8 W (by omega) (by omega)
  go_wp2_with fail
  refine (C.out _ (by trivial)).mono ?_
  rintro r wx ⟨rfl, rfl⟩
  clear C hY4 q5 f5 q6 f6
  go_wp2_with fail
  go_end0
  exact ⟨rfl, HZ4.out⟩
end Go.Proofs.Ytmgjlpgjjeknpaa
