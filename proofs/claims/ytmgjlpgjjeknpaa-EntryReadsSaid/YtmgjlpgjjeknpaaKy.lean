/-
  The program's takeRest.
-/
import Derived.Test.YtmgjlpgjjeknpaaKa
import Derived.Deep.RegionLaw
namespace Go.Proofs.Ytmgjlpgjjeknpaa
open Go.RowKit Go.Sort

set_option maxHeartbeats 3200000 in
set_option maxRecDepth 100000 in
theorem tr32_0 {B : Nat} {w W : World} {bx br be : Nat} {st : St} {a1 a2 a3 a4 a5 a6 a7 a8 : Value} (k : Int)  (h : Rz 85 B w bx br be #[.int .i64 k, a1, a2, a3, a4, a5, a6, a7, a8, .string ⟨#[]⟩, .int .u8 0, .bool false, .slice none 0 0] (.slice none 0 0) [] st W) :
    Calls Try.prog 32 #[.pointer (some ⟨br, 0, none⟩), .pointer (some ⟨be, 0, none⟩), .int .u16 0] W fun r w' => r = .returned (.tuple #[]) ∧ Rz 85 B w bx br be #[.int .i64 k, a1, a2, a3, a4, a5, a6, a7, a8, .string ⟨#[]⟩, .int .u8 0, .bool false, .slice none 0 0] (.slice none 0 0) [] st w' := by
  have HZ0 : Hid _ := h
  clear h  
  go_enter Try.func32, Try.ntmps32
  have C : Hid (∀ W : World, 1 = 1 → Calls Try.prog 41 #[.int .u16 0, .int .u16 16] W fun r w' => r = .returned (.bool false) ∧ W = w') := fun W _ => has41 0 16 W (by omega) (by omega)
  go_wp2_with fail
  refine (C.out _ (by trivial)).mono ?_
  rintro r wx ⟨rfl, rfl⟩
  clear C 
  have C : Hid (∀ W : World, 1 = 1 → Calls Try.prog 41 #[.int .u16 0, .int .u16 32] W fun r w' => r = .returned (.bool false) ∧ W = w') := fun W _ => has41 0 32 W (by omega) (by omega)
  go_wp2_with fail
  refine (C.out _ (by trivial)).mono ?_
  rintro r wx ⟨rfl, rfl⟩
  clear C 
  have C : Hid (∀ W : World, 1 = 1 → Calls Try.prog 41 #[.int .u16 0, .int .u16 64] W fun r w' => r = .returned (.bool false) ∧ W = w') := fun W _ => has41 0 64 W (by omega) (by omega)
  go_wp2_with fail
  refine (C.out _ (by trivial)).mono ?_
  rintro r wx ⟨rfl, rfl⟩
  clear C 
  have C : Hid (∀ W : World, 1 = 1 → Calls Try.prog 41 #[.int .u16 0, .int .u16 256] W fun r w' => r = .returned (.bool false) ∧ W = w') := fun W _ => has41 0 256 W (by omega) (by omega)
  go_wp2_with fail
  refine (C.out _ (by trivial)).mono ?_
  rintro r wx ⟨rfl, rfl⟩
  clear C 
  have C : Hid (∀ W : World, 1 = 1 → Calls Try.prog 41 #[.int .u16 0, .int .u16 128] W fun r w' => r = .returned (.bool false) ∧ W = w') := fun W _ => has41 0 128 W (by omega) (by omega)
  go_wp2_with fail
  refine (C.out _ (by trivial)).mono ?_
  rintro r wx ⟨rfl, rfl⟩
  clear C 
  go_wp2_with fail
  go_loopw [36] (fun i wr => i = .int .i64 0 ∧ Hid (Rz 85 B w bx br be #[.int .i64 k, a1, a2, a3, a4, a5, a6, a7, a8, .string ⟨#[]⟩, .int .u8 0, .bool false, .slice none 0 0] (.slice none 0 0) [] st wr)) (fun _ _ => 0)
  case atStart => exact ⟨rfl, HZ0.out⟩
  case round =>
    obtain ⟨rfl, HE⟩ := hrel
    clear HZ0
    go_wp2_with fail
    go_end0
    exact ⟨rfl, HE.out⟩
set_option maxHeartbeats 3200000 in
set_option maxRecDepth 100000 in
theorem tr32_1 {B : Nat} {w W : World} {bx br be : Nat} {st : St} {a1 a2 a3 a4 a5 a6 a7 a8 : Value} (k : Int)  (h : Rz 85 B w bx br be #[.int .i64 k, a1, a2, a3, a4, a5, a6, a7, a8, .string ⟨#[]⟩, .int .u8 0, .bool false, .slice none 0 0] (.slice none 0 0) [] st W) :
    Calls Try.prog 32 #[.pointer (some ⟨br, 0, none⟩), .pointer (some ⟨be, 0, none⟩), .int .u16 1] W fun r w' => r = .returned (.tuple #[]) ∧ Rz 85 B w bx br be #[.int .i64 k, a1, a2, a3, a4, a5, a6, a7, a8, .string ⟨#[]⟩, .int .u8 0, .bool false, .slice none 0 0] (.slice none 0 0) [] st w' := by
  have HZ0 : Hid _ := h
  clear h  
  go_enter Try.func32, Try.ntmps32
  have C : Hid (∀ W : World, 1 = 1 → Calls Try.prog 41 #[.int .u16 1, .int .u16 16] W fun r w' => r = .returned (.bool false) ∧ W = w') := fun W _ => has41 1 16 W (by omega) (by omega)
  go_wp2_with fail
  refine (C.out _ (by trivial)).mono ?_
  rintro r wx ⟨rfl, rfl⟩
  clear C 
  have C : Hid (∀ W : World, 1 = 1 → Calls Try.prog 41 #[.int .u16 1, .int .u16 32] W fun r w' => r = .returned (.bool false) ∧ W = w') := fun W _ => has41 1 32 W (by omega) (by omega)
  go_wp2_with fail
  refine (C.out _ (by trivial)).mono ?_
  rintro r wx ⟨rfl, rfl⟩
  clear C 
  have C : Hid (∀ W : World, 1 = 1 → Calls Try.prog 41 #[.int .u16 1, .int .u16 64] W fun r w' => r = .returned (.bool false) ∧ W = w') := fun W _ => has41 1 64 W (by omega) (by omega)
  go_wp2_with fail
  refine (C.out _ (by trivial)).mono ?_
  rintro r wx ⟨rfl, rfl⟩
  clear C 
  have C : Hid (∀ W : World, 1 = 1 → Calls Try.prog 41 #[.int .u16 1, .int .u16 256] W fun r w' => r = .returned (.bool false) ∧ W = w') := fun W _ => has41 1 256 W (by omega) (by omega)
  go_wp2_with fail
  refine (C.out _ (by trivial)).mono ?_
  rintro r wx ⟨rfl, rfl⟩
  clear C 
  have C : Hid (∀ W : World, 1 = 1 → Calls Try.prog 41 #[.int .u16 1, .int .u16 128] W fun r w' => r = .returned (.bool false) ∧ W = w') := fun W _ => has41 1 128 W (by omega) (by omega)
  go_wp2_with fail
  refine (C.out _ (by trivial)).mono ?_
  rintro r wx ⟨rfl, rfl⟩
  clear C 
  go_wp2_with fail
  go_loopw [36] (fun i wr => i = .int .i64 0 ∧ Hid (Rz 85 B w bx br be #[.int .i64 k, a1, a2, a3, a4, a5, a6, a7, a8, .string ⟨#[]⟩, .int .u8 0, .bool false, .slice none 0 0] (.slice none 0 0) [] st wr)) (fun _ _ => 0)
  case atStart => exact ⟨rfl, HZ0.out⟩
  case round =>
    obtain ⟨rfl, HE⟩ := hrel
    clear HZ0
    go_wp2_with fail
    go_end0
    exact ⟨rfl, HE.out⟩
set_option maxHeartbeats 3200000 in
set_option maxRecDepth 100000 in
theorem tr32_3 {B : Nat} {w W : World} {bx br be : Nat} {st : St} {a1 a2 a3 a4 a5 a6 a7 a8 : Value} (k : Int)  (h : Rz 85 B w bx br be #[.int .i64 k, a1, a2, a3, a4, a5, a6, a7, a8, .string ⟨#[]⟩, .int .u8 0, .bool false, .slice none 0 0] (.slice none 0 0) [] st W) :
    Calls Try.prog 32 #[.pointer (some ⟨br, 0, none⟩), .pointer (some ⟨be, 0, none⟩), .int .u16 3] W fun r w' => r = .returned (.tuple #[]) ∧ Rz 85 B w bx br be #[.int .i64 k, a1, a2, a3, a4, a5, a6, a7, a8, .string ⟨#[]⟩, .int .u8 0, .bool false, .slice none 0 0] (.slice none 0 0) [] st w' := by
  have HZ0 : Hid _ := h
  clear h  
  go_enter Try.func32, Try.ntmps32
  have C : Hid (∀ W : World, 1 = 1 → Calls Try.prog 41 #[.int .u16 3, .int .u16 16] W fun r w' => r = .returned (.bool false) ∧ W = w') := fun W _ => has41 3 16 W (by omega) (by omega)
  go_wp2_with fail
  refine (C.out _ (by trivial)).mono ?_
  rintro r wx ⟨rfl, rfl⟩
  clear C 
  have C : Hid (∀ W : World, 1 = 1 → Calls Try.prog 41 #[.int .u16 3, .int .u16 32] W fun r w' => r = .returned (.bool false) ∧ W = w') := fun W _ => has41 3 32 W (by omega) (by omega)
  go_wp2_with fail
  refine (C.out _ (by trivial)).mono ?_
  rintro r wx ⟨rfl, rfl⟩
  clear C 
  have C : Hid (∀ W : World, 1 = 1 → Calls Try.prog 41 #[.int .u16 3, .int .u16 64] W fun r w' => r = .returned (.bool false) ∧ W = w') := fun W _ => has41 3 64 W (by omega) (by omega)
  go_wp2_with fail
  refine (C.out _ (by trivial)).mono ?_
  rintro r wx ⟨rfl, rfl⟩
  clear C 
  have C : Hid (∀ W : World, 1 = 1 → Calls Try.prog 41 #[.int .u16 3, .int .u16 256] W fun r w' => r = .returned (.bool false) ∧ W = w') := fun W _ => has41 3 256 W (by omega) (by omega)
  go_wp2_with fail
  refine (C.out _ (by trivial)).mono ?_
  rintro r wx ⟨rfl, rfl⟩
  clear C 
  have C : Hid (∀ W : World, 1 = 1 → Calls Try.prog 41 #[.int .u16 3, .int .u16 128] W fun r w' => r = .returned (.bool false) ∧ W = w') := fun W _ => has41 3 128 W (by omega) (by omega)
  go_wp2_with fail
  refine (C.out _ (by trivial)).mono ?_
  rintro r wx ⟨rfl, rfl⟩
  clear C 
  go_wp2_with fail
  go_loopw [36] (fun i wr => i = .int .i64 0 ∧ Hid (Rz 85 B w bx br be #[.int .i64 k, a1, a2, a3, a4, a5, a6, a7, a8, .string ⟨#[]⟩, .int .u8 0, .bool false, .slice none 0 0] (.slice none 0 0) [] st wr)) (fun _ _ => 0)
  case atStart => exact ⟨rfl, HZ0.out⟩
  case round =>
    obtain ⟨rfl, HE⟩ := hrel
    clear HZ0
    go_wp2_with fail
    go_end0
    exact ⟨rfl, HE.out⟩
set_option maxHeartbeats 3200000 in
set_option maxRecDepth 100000 in
theorem tr32_4 {B : Nat} {w W : World} {bx br be : Nat} {st : St} {a1 a2 a3 a4 a5 a6 a7 a8 : Value} (k : Int)  (h : Rz 85 B w bx br be #[.int .i64 k, a1, a2, a3, a4, a5, a6, a7, a8, .string ⟨#[]⟩, .int .u8 0, .bool false, .slice none 0 0] (.slice none 0 0) [] st W) :
    Calls Try.prog 32 #[.pointer (some ⟨br, 0, none⟩), .pointer (some ⟨be, 0, none⟩), .int .u16 4] W fun r w' => r = .returned (.tuple #[]) ∧ Rz 85 B w bx br be #[.int .i64 k, a1, a2, a3, a4, a5, a6, a7, a8, .string ⟨#[]⟩, .int .u8 0, .bool false, .slice none 0 0] (.slice none 0 0) [] st w' := by
  have HZ0 : Hid _ := h
  clear h  
  go_enter Try.func32, Try.ntmps32
  have C : Hid (∀ W : World, 1 = 1 → Calls Try.prog 41 #[.int .u16 4, .int .u16 16] W fun r w' => r = .returned (.bool false) ∧ W = w') := fun W _ => has41 4 16 W (by omega) (by omega)
  go_wp2_with fail
  refine (C.out _ (by trivial)).mono ?_
  rintro r wx ⟨rfl, rfl⟩
  clear C 
  have C : Hid (∀ W : World, 1 = 1 → Calls Try.prog 41 #[.int .u16 4, .int .u16 32] W fun r w' => r = .returned (.bool false) ∧ W = w') := fun W _ => has41 4 32 W (by omega) (by omega)
  go_wp2_with fail
  refine (C.out _ (by trivial)).mono ?_
  rintro r wx ⟨rfl, rfl⟩
  clear C 
  have C : Hid (∀ W : World, 1 = 1 → Calls Try.prog 41 #[.int .u16 4, .int .u16 64] W fun r w' => r = .returned (.bool false) ∧ W = w') := fun W _ => has41 4 64 W (by omega) (by omega)
  go_wp2_with fail
  refine (C.out _ (by trivial)).mono ?_
  rintro r wx ⟨rfl, rfl⟩
  clear C 
  have C : Hid (∀ W : World, 1 = 1 → Calls Try.prog 41 #[.int .u16 4, .int .u16 256] W fun r w' => r = .returned (.bool false) ∧ W = w') := fun W _ => has41 4 256 W (by omega) (by omega)
  go_wp2_with fail
  refine (C.out _ (by trivial)).mono ?_
  rintro r wx ⟨rfl, rfl⟩
  clear C 
  have C : Hid (∀ W : World, 1 = 1 → Calls Try.prog 41 #[.int .u16 4, .int .u16 128] W fun r w' => r = .returned (.bool false) ∧ W = w') := fun W _ => has41 4 128 W (by omega) (by omega)
  go_wp2_with fail
  refine (C.out _ (by trivial)).mono ?_
  rintro r wx ⟨rfl, rfl⟩
  clear C 
  go_wp2_with fail
  go_loopw [36] (fun i wr => i = .int .i64 0 ∧ Hid (Rz 85 B w bx br be #[.int .i64 k, a1, a2, a3, a4, a5, a6, a7, a8, .string ⟨#[]⟩, .int .u8 0, .bool false, .slice none 0 0] (.slice none 0 0) [] st wr)) (fun _ _ => 0)
  case atStart => exact ⟨rfl, HZ0.out⟩
  case round =>
    obtain ⟨rfl, HE⟩ := hrel
    clear HZ0
    go_wp2_with fail
    go_end0
    exact ⟨rfl, HE.out⟩
set_option maxHeartbeats 3200000 in
set_option maxRecDepth 100000 in
theorem tr32_517 {B : Nat} {w W : World} {bx br be : Nat} {st : St} {a1 a2 a3 a4 a5 a6 a7 a8 : Value} (k : Int)  (h : Rz 85 B w bx br be #[.int .i64 k, a1, a2, a3, a4, a5, a6, a7, a8, .string ⟨#[]⟩, .int .u8 0, .bool false, .slice none 0 0] (.slice none 0 0) [] st W) :
    Calls Try.prog 32 #[.pointer (some ⟨br, 0, none⟩), .pointer (some ⟨be, 0, none⟩), .int .u16 517] W fun r w' => r = .returned (.tuple #[]) ∧ Rz 85 B w bx br be #[.int .i64 k, a1, a2, a3, a4, a5, a6, a7, a8, .string ⟨#[]⟩, .int .u8 0, .bool false, .slice none 0 0] (.slice none 0 0) [] st w' := by
  have HZ0 : Hid _ := h
  clear h  
  go_enter Try.func32, Try.ntmps32
  have C : Hid (∀ W : World, 1 = 1 → Calls Try.prog 41 #[.int .u16 517, .int .u16 16] W fun r w' => r = .returned (.bool false) ∧ W = w') := fun W _ => has41 517 16 W (by omega) (by omega)
  go_wp2_with fail
  refine (C.out _ (by trivial)).mono ?_
  rintro r wx ⟨rfl, rfl⟩
  clear C 
  have C : Hid (∀ W : World, 1 = 1 → Calls Try.prog 41 #[.int .u16 517, .int .u16 32] W fun r w' => r = .returned (.bool false) ∧ W = w') := fun W _ => has41 517 32 W (by omega) (by omega)
  go_wp2_with fail
  refine (C.out _ (by trivial)).mono ?_
  rintro r wx ⟨rfl, rfl⟩
  clear C 
  have C : Hid (∀ W : World, 1 = 1 → Calls Try.prog 41 #[.int .u16 517, .int .u16 64] W fun r w' => r = .returned (.bool false) ∧ W = w') := fun W _ => has41 517 64 W (by omega) (by omega)
  go_wp2_with fail
  refine (C.out _ (by trivial)).mono ?_
  rintro r wx ⟨rfl, rfl⟩
  clear C 
  have C : Hid (∀ W : World, 1 = 1 → Calls Try.prog 41 #[.int .u16 517, .int .u16 256] W fun r w' => r = .returned (.bool false) ∧ W = w') := fun W _ => has41 517 256 W (by omega) (by omega)
  go_wp2_with fail
  refine (C.out _ (by trivial)).mono ?_
  rintro r wx ⟨rfl, rfl⟩
  clear C 
  have C : Hid (∀ W : World, 1 = 1 → Calls Try.prog 41 #[.int .u16 517, .int .u16 128] W fun r w' => r = .returned (.bool false) ∧ W = w') := fun W _ => has41 517 128 W (by omega) (by omega)
  go_wp2_with fail
  refine (C.out _ (by trivial)).mono ?_
  rintro r wx ⟨rfl, rfl⟩
  clear C 
  go_wp2_with fail
  go_loopw [36] (fun i wr => i = .int .i64 0 ∧ Hid (Rz 85 B w bx br be #[.int .i64 k, a1, a2, a3, a4, a5, a6, a7, a8, .string ⟨#[]⟩, .int .u8 0, .bool false, .slice none 0 0] (.slice none 0 0) [] st wr)) (fun _ _ => 0)
  case atStart => exact ⟨rfl, HZ0.out⟩
  case round =>
    obtain ⟨rfl, HE⟩ := hrel
    clear HZ0
    go_wp2_with fail
    go_end0
    exact ⟨rfl, HE.out⟩
set_option maxHeartbeats 3200000 in
set_option maxRecDepth 100000 in
theorem tr32_551 {B : Nat} {w W : World} {bx br be : Nat} {st : St} {a1 a2 a3 a4 a5 a6 a7 a8 : Value} (k : Int) (pt : Nat) (s1 : St) (e1 : rdNum 255 st = (pt, s1)) (h : Rz 85 B w bx br be #[.int .i64 k, a1, a2, a3, a4, a5, a6, a7, a8, .string ⟨#[]⟩, .int .u8 0, .bool false, .slice none 0 0] (.slice none 0 0) [] st W) :
    Calls Try.prog 32 #[.pointer (some ⟨br, 0, none⟩), .pointer (some ⟨be, 0, none⟩), .int .u16 551] W fun r w' => r = .returned (.tuple #[]) ∧ Rz 85 B w bx br be #[.int .i64 k, a1, a2, a3, a4, a5, a6, a7, a8, .string ⟨#[]⟩, .int .u8 (pt : Int), .bool false, .slice none 0 0] (.slice none 0 0) [] s1 w' := by
  have HZ0 : Hid _ := h
  have E1 : Hid _ := e1
  clear h e1 
  go_enter Try.func32, Try.ntmps32
  have C : Hid (∀ W : World, 1 = 1 → Calls Try.prog 41 #[.int .u16 551, .int .u16 16] W fun r w' => r = .returned (.bool false) ∧ W = w') := fun W _ => has41 551 16 W (by omega) (by omega)
  go_wp2_with fail
  refine (C.out _ (by trivial)).mono ?_
  rintro r wx ⟨rfl, rfl⟩
  clear C 
  have C : Hid (∀ W : World, 1 = 1 → Calls Try.prog 41 #[.int .u16 551, .int .u16 32] W fun r w' => r = .returned (.bool true) ∧ W = w') := fun W _ => has41 551 32 W (by omega) (by omega)
  go_wp2_with fail
  refine (C.out _ (by trivial)).mono ?_
  rintro r wx ⟨rfl, rfl⟩
  clear C 
  have HL : Hid (s1.l.length ≤ st.l.length) := by have := (rdNum_le 255 st).2.1; rw [E1.out] at this; exact this
  have bd1 : pt ≤ 255 := by have := (rdNum_le 255 st).1; rw [E1.out] at this; exact this
  have C : Hid (1 = 1 → Calls Try.prog 30 #[.pointer (some ⟨br, 0, none⟩), .int .u64 255] W fun r w' => r = .returned (.int .u64 (pt : Int)) ∧ RdAt 85 br s1 w' ∧ Sole br W w') := fun _ => by
    have := num20 br st 255 W HZ0.out.r (by have := HZ0.out.len; omega)
    skip
    rw [E1.out] at this
    exact this
  go_wp2_with fail
  refine (C.out (by simp)).mono ?_
  rintro r x1 ⟨rfl, hr, hs⟩
  have HX1 : Hid (Rz 85 B w bx br be #[.int .i64 k, a1, a2, a3, a4, a5, a6, a7, a8, .string ⟨#[]⟩, .int .u8 0, .bool false, .slice none 0 0] (.slice none 0 0) [] s1 x1) := HZ0.out.rd hr hs HL.out
  clear hr hs C HL HZ0 
  have xw := u8w bd1
  have q10 : x1.cell? ⟨be, 10, none⟩ = some (.int .u8 0) := block_cell HX1.out.y rfl
  have f10 : x1.frozen? ⟨be, 10, none⟩ = false := block_frozen HX1.out.y 10
  obtain ⟨Y1, hY1⟩ : ∃ Y1, (x1.setCell ⟨be, 10, none⟩ (.int .u8 (pt : Int))) = Y1 := ⟨_, rfl⟩
  have HZ1 : Hid (Rz 85 B w bx br be #[.int .i64 k, a1, a2, a3, a4, a5, a6, a7, a8, .string ⟨#[]⟩, .int .u8 (pt : Int), .bool false, .slice none 0 0] (.slice none 0 0) [] s1 Y1) := by
    rw [← hY1]
    exact (HX1.out.put 10 (.int .u8 (pt : Int)))
  clear HX1
  have C : Hid (∀ W : World, 1 = 1 → Calls Try.prog 41 #[.int .u16 551, .int .u16 64] W fun r w' => r = .returned (.bool false) ∧ W = w') := fun W _ => has41 551 64 W (by omega) (by omega)
  go_wp2_with fail
  refine (C.out _ (by trivial)).mono ?_
  rintro r wx ⟨rfl, rfl⟩
  clear C hY1 q10 f10 xw
  have C : Hid (∀ W : World, 1 = 1 → Calls Try.prog 41 #[.int .u16 551, .int .u16 256] W fun r w' => r = .returned (.bool false) ∧ W = w') := fun W _ => has41 551 256 W (by omega) (by omega)
  go_wp2_with fail
  refine (C.out _ (by trivial)).mono ?_
  rintro r wx ⟨rfl, rfl⟩
  clear C 
  have C : Hid (∀ W : World, 1 = 1 → Calls Try.prog 41 #[.int .u16 551, .int .u16 128] W fun r w' => r = .returned (.bool false) ∧ W = w') := fun W _ => has41 551 128 W (by omega) (by omega)
  go_wp2_with fail
  refine (C.out _ (by trivial)).mono ?_
  rintro r wx ⟨rfl, rfl⟩
  clear C 
  go_wp2_with fail
  go_loopw [36] (fun i wr => i = .int .i64 0 ∧ Hid (Rz 85 B w bx br be #[.int .i64 k, a1, a2, a3, a4, a5, a6, a7, a8, .string ⟨#[]⟩, .int .u8 (pt : Int), .bool false, .slice none 0 0] (.slice none 0 0) [] s1 wr)) (fun _ _ => 0)
  case atStart => exact ⟨rfl, HZ1.out⟩
  case round =>
    obtain ⟨rfl, HE⟩ := hrel
    clear HZ1
    go_wp2_with fail
    go_end0
    exact ⟨rfl, HE.out⟩
set_option maxHeartbeats 3200000 in
set_option maxRecDepth 100000 in
theorem tr32_103 {B : Nat} {w W : World} {bx br be : Nat} {st : St} {a1 a2 a3 a4 a5 a6 a7 a8 : Value} (k : Int) (pt : Nat) (s1 : St) (e1 : rdNum 255 st = (pt, s1)) (dn : Bool) (s2 : St) (e2 : rdFlag s1 = (dn, s2)) (h : Rz 85 B w bx br be #[.int .i64 k, a1, a2, a3, a4, a5, a6, a7, a8, .string ⟨#[]⟩, .int .u8 0, .bool false, .slice none 0 0] (.slice none 0 0) [] st W) :
    Calls Try.prog 32 #[.pointer (some ⟨br, 0, none⟩), .pointer (some ⟨be, 0, none⟩), .int .u16 103] W fun r w' => r = .returned (.tuple #[]) ∧ Rz 85 B w bx br be #[.int .i64 k, a1, a2, a3, a4, a5, a6, a7, a8, .string ⟨#[]⟩, .int .u8 (pt : Int), .bool dn, .slice none 0 0] (.slice none 0 0) [] s2 w' := by
  have HZ0 : Hid _ := h
  have E1 : Hid _ := e1
  have E2 : Hid _ := e2
  clear h e1 e2 
  go_enter Try.func32, Try.ntmps32
  have C : Hid (∀ W : World, 1 = 1 → Calls Try.prog 41 #[.int .u16 103, .int .u16 16] W fun r w' => r = .returned (.bool false) ∧ W = w') := fun W _ => has41 103 16 W (by omega) (by omega)
  go_wp2_with fail
  refine (C.out _ (by trivial)).mono ?_
  rintro r wx ⟨rfl, rfl⟩
  clear C 
  have C : Hid (∀ W : World, 1 = 1 → Calls Try.prog 41 #[.int .u16 103, .int .u16 32] W fun r w' => r = .returned (.bool true) ∧ W = w') := fun W _ => has41 103 32 W (by omega) (by omega)
  go_wp2_with fail
  refine (C.out _ (by trivial)).mono ?_
  rintro r wx ⟨rfl, rfl⟩
  clear C 
  have HL : Hid (s1.l.length ≤ st.l.length) := by have := (rdNum_le 255 st).2.1; rw [E1.out] at this; exact this
  have bd1 : pt ≤ 255 := by have := (rdNum_le 255 st).1; rw [E1.out] at this; exact this
  have C : Hid (1 = 1 → Calls Try.prog 30 #[.pointer (some ⟨br, 0, none⟩), .int .u64 255] W fun r w' => r = .returned (.int .u64 (pt : Int)) ∧ RdAt 85 br s1 w' ∧ Sole br W w') := fun _ => by
    have := num20 br st 255 W HZ0.out.r (by have := HZ0.out.len; omega)
    skip
    rw [E1.out] at this
    exact this
  go_wp2_with fail
  refine (C.out (by simp)).mono ?_
  rintro r x1 ⟨rfl, hr, hs⟩
  have HX1 : Hid (Rz 85 B w bx br be #[.int .i64 k, a1, a2, a3, a4, a5, a6, a7, a8, .string ⟨#[]⟩, .int .u8 0, .bool false, .slice none 0 0] (.slice none 0 0) [] s1 x1) := HZ0.out.rd hr hs HL.out
  clear hr hs C HL HZ0 
  have xw := u8w bd1
  have q10 : x1.cell? ⟨be, 10, none⟩ = some (.int .u8 0) := block_cell HX1.out.y rfl
  have f10 : x1.frozen? ⟨be, 10, none⟩ = false := block_frozen HX1.out.y 10
  obtain ⟨Y1, hY1⟩ : ∃ Y1, (x1.setCell ⟨be, 10, none⟩ (.int .u8 (pt : Int))) = Y1 := ⟨_, rfl⟩
  have HZ1 : Hid (Rz 85 B w bx br be #[.int .i64 k, a1, a2, a3, a4, a5, a6, a7, a8, .string ⟨#[]⟩, .int .u8 (pt : Int), .bool false, .slice none 0 0] (.slice none 0 0) [] s1 Y1) := by
    rw [← hY1]
    exact (HX1.out.put 10 (.int .u8 (pt : Int)))
  clear HX1
  have C : Hid (∀ W : World, 1 = 1 → Calls Try.prog 41 #[.int .u16 103, .int .u16 64] W fun r w' => r = .returned (.bool true) ∧ W = w') := fun W _ => has41 103 64 W (by omega) (by omega)
  go_wp2_with fail
  refine (C.out _ (by trivial)).mono ?_
  rintro r wx ⟨rfl, rfl⟩
  clear C hY1 q10 f10 xw
  have HL : Hid (s2.l.length ≤ s1.l.length) := by have := rdFlag_le s1; rw [E2.out] at this; exact this
  have C : Hid (1 = 1 → Calls Try.prog 56 #[.pointer (some ⟨br, 0, none⟩)] Y1 fun r w' => r = .returned (.bool dn) ∧ RdAt 85 br s2 w' ∧ Sole br Y1 w') := fun _ => by
    have := flag22 br s1 Y1 HZ1.out.r
    skip
    rw [E2.out] at this
    exact this
  go_wp2_with fail
  refine (C.out (by simp)).mono ?_
  rintro r x2 ⟨rfl, hr, hs⟩
  have HX2 : Hid (Rz 85 B w bx br be #[.int .i64 k, a1, a2, a3, a4, a5, a6, a7, a8, .string ⟨#[]⟩, .int .u8 (pt : Int), .bool false, .slice none 0 0] (.slice none 0 0) [] s2 x2) := HZ1.out.rd hr hs HL.out
  clear hr hs C HL HZ1 
  have q11 : x2.cell? ⟨be, 11, none⟩ = some (.bool false) := block_cell HX2.out.y rfl
  have f11 : x2.frozen? ⟨be, 11, none⟩ = false := block_frozen HX2.out.y 11
  obtain ⟨Y2, hY2⟩ : ∃ Y2, (x2.setCell ⟨be, 11, none⟩ (.bool dn)) = Y2 := ⟨_, rfl⟩
  have HZ2 : Hid (Rz 85 B w bx br be #[.int .i64 k, a1, a2, a3, a4, a5, a6, a7, a8, .string ⟨#[]⟩, .int .u8 (pt : Int), .bool dn, .slice none 0 0] (.slice none 0 0) [] s2 Y2) := by
    rw [← hY2]
    exact (HX2.out.put 11 (.bool dn))
  clear HX2
  have C : Hid (∀ W : World, 1 = 1 → Calls Try.prog 41 #[.int .u16 103, .int .u16 256] W fun r w' => r = .returned (.bool false) ∧ W = w') := fun W _ => has41 103 256 W (by omega) (by omega)
  go_wp2_with fail
  refine (C.out _ (by trivial)).mono ?_
  rintro r wx ⟨rfl, rfl⟩
  clear C hY2 q11 f11
  have C : Hid (∀ W : World, 1 = 1 → Calls Try.prog 41 #[.int .u16 103, .int .u16 128] W fun r w' => r = .returned (.bool false) ∧ W = w') := fun W _ => has41 103 128 W (by omega) (by omega)
  go_wp2_with fail
  refine (C.out _ (by trivial)).mono ?_
  rintro r wx ⟨rfl, rfl⟩
  clear C 
  go_wp2_with fail
  go_loopw [36] (fun i wr => i = .int .i64 0 ∧ Hid (Rz 85 B w bx br be #[.int .i64 k, a1, a2, a3, a4, a5, a6, a7, a8, .string ⟨#[]⟩, .int .u8 (pt : Int), .bool dn, .slice none 0 0] (.slice none 0 0) [] s2 wr)) (fun _ _ => 0)
  case atStart => exact ⟨rfl, HZ2.out⟩
  case round =>
    obtain ⟨rfl, HE⟩ := hrel
    clear HZ2
    go_wp2_with fail
    go_end0
    exact ⟨rfl, HE.out⟩
end Go.Proofs.Ytmgjlpgjjeknpaa

namespace Go.Proofs.Ytmgjlpgjjeknpaa
open Go.RowKit Go.Sort

theorem step_append_rw {P : Program} {base t e size bytes B n m : Nat} {v vx : Value} {xs cs : List Value} {i : TypeInfo} {z : Value} {ops : Array Oper} {o : Oper} {a : Act} {K : Act → World → Prop} {Q : Exit → Act → World → Prop} {E : Prop} {w : World} (H : Ow base e size v n xs B vx m cs w)
    (ht : P.underlying t = some (.slice e)) (hi : P.info? e = some i) (hz : i.zero = some z) (hsize : i.size = size) (hby : i.bytes = bytes) (hzs : z.cells.size = size) (hsz : 0 < size) (hb : bytes ≤ 1000)
    (s x : Operand) (ho : o.op = .call { callee := .builtin .append, args := #[s, x], argTypes := #[t, t] }) (hw : Region.wanted o (yielded ops a.tmps) = true) (hs : a.eval s = v) (hx : a.eval x = vx)
    (h : ∀ v' w', w'.ownsRow base e size v' (n + m) (xs ++ cs) → w.grownBy w' v.ownBlock → (v'.ownBlock = v.ownBlock ∨ v'.ownBlock = some w.heap.size) → K (a.put o.dst v') w') : if Region.wanted o (yielded ops a.tmps) = true then Oper.wp P o a w K Q else E := by
  rw [if_pos hw]
  obtain ⟨v', w', hr, h2, h3, h4⟩ := run_append_rw (ty := o.type) ht hi hz hsize hby hzs hsz hb H
  unfold Oper.wp execOp
  simp only [ho, resolve, invoke, builtin, Sem.run_bind, Sem.run_pure, Result.andThen_ok, List.map_toArray, List.map_cons, List.map_nil, hs, hx, hr]
  exact h v' w' h2 h3 h4

theorem step_call1 {P : Program} {ops : Array Oper} {o : Oper} {a : Act} {w : World} {K : Act → World → Prop} {Q : Exit → Act → World → Prop} {E : Prop} {f : FuncId} {args : Array Value} (hg : o.guard = none) (he : (execOp a.eval o).run P w = .ok (.enter f args) w)
    (h : Calls P f args w fun
      | .returned v, w'' => K (a.put o.dst v) w''
      | .panicked chain, w'' => Q (.panic chain) a w''
      | .outgrown, _ => LetsOut Q) : if Region.wanted o (yielded ops a.tmps) = true then Oper.wp P o a w K Q else E := by
  rw [if_pos (by simp [Region.wanted, hg])]
  unfold Oper.wp
  rw [he]
  exact h
set_option maxHeartbeats 3200000 in
set_option maxRecDepth 100000 in
theorem tr32_389 {B : Nat} {w W : World} {bx br be : Nat} {st : St} {a1 a2 a3 a4 a5 a6 a7 a8 : Value} (k : Int) (ws : List Wr) (tz : St) (ew : rWs 1 st = (ws, tz)) (h : Rz 85 B w bx br be #[.int .i64 k, a1, a2, a3, a4, a5, a6, a7, a8, .string ⟨#[]⟩, .int .u8 0, .bool false, .slice none 0 0] (.slice none 0 0) [] st W) :
    Calls Try.prog 32 #[.pointer (some ⟨br, 0, none⟩), .pointer (some ⟨be, 0, none⟩), .int .u16 389] W fun r w' => r = .returned (.tuple #[]) ∧ ∃ ao cp, Rz 85 B w bx br be #[.int .i64 k, a1, a2, a3, a4, a5, a6, a7, a8, .string ⟨#[]⟩, .int .u8 0, .bool false, .slice ao ws.length cp] (.slice ao ws.length cp) ws tz w' := by
  have HZ0 : Hid _ := h
  have EW : Hid _ := ew
  clear h  ew
  go_enter Try.func32, Try.ntmps32
  have C : Hid (∀ W : World, 1 = 1 → Calls Try.prog 41 #[.int .u16 389, .int .u16 16] W fun r w' => r = .returned (.bool false) ∧ W = w') := fun W _ => has41 389 16 W (by omega) (by omega)
  go_wp2_with fail
  refine (C.out _ (by trivial)).mono ?_
  rintro r wx ⟨rfl, rfl⟩
  clear C 
  have C : Hid (∀ W : World, 1 = 1 → Calls Try.prog 41 #[.int .u16 389, .int .u16 32] W fun r w' => r = .returned (.bool false) ∧ W = w') := fun W _ => has41 389 32 W (by omega) (by omega)
  go_wp2_with fail
  refine (C.out _ (by trivial)).mono ?_
  rintro r wx ⟨rfl, rfl⟩
  clear C 
  have C : Hid (∀ W : World, 1 = 1 → Calls Try.prog 41 #[.int .u16 389, .int .u16 64] W fun r w' => r = .returned (.bool false) ∧ W = w') := fun W _ => has41 389 64 W (by omega) (by omega)
  go_wp2_with fail
  refine (C.out _ (by trivial)).mono ?_
  rintro r wx ⟨rfl, rfl⟩
  clear C 
  have C : Hid (∀ W : World, 1 = 1 → Calls Try.prog 41 #[.int .u16 389, .int .u16 256] W fun r w' => r = .returned (.bool true) ∧ W = w') := fun W _ => has41 389 256 W (by omega) (by omega)
  go_wp2_with fail
  refine (C.out _ (by trivial)).mono ?_
  rintro r wx ⟨rfl, rfl⟩
  clear C 
  go_wp2_with fail
  obtain ⟨i0, hin, hi0, hi1, hi2⟩ := info_parts info53
  skip
  go_loopw [36] (fun i wr => ∃ m : Nat, m ≤ 1 ∧ i = .int .i64 m ∧ Hid (∃ ao cp, Rz 85 B w bx br be #[.int .i64 k, a1, a2, a3, a4, a5, a6, a7, a8, .string ⟨#[]⟩, .int .u8 0, .bool false, .slice ao (rWs m st).1.length cp] (.slice ao (rWs m st).1.length cp) (rWs m st).1 (rWs m st).2 wr)) (fun i _ => 1 - (intOf i).toNat)
  case atStart => exact ⟨0, Nat.zero_le _, rfl, none, 0, HZ0.out⟩
  case round =>
    obtain ⟨m, hm, rfl, HR⟩ := hrel
    obtain ⟨ao, cp, hE⟩ := HR.out
    have hlm := rWs_len m st
    clear HR HZ0
    by_cases hml : m < 1
    · have hml1 : (m : Int) < 1 := by omega
      have HN : Hid (∀ a : Wr × St, rWr (rWs m st).2 = a → rWs (m + 1) st = ((rWs m st).1 ++ [a.1], a.2)) := fun a ha => by rw [← ha]; rfl
      generalize (rWs m st).1 = ws' at *
      generalize (rWs m st).2 = ta at *
      have HE : Hid (Rz 85 B w bx br be #[.int .i64 k, a1, a2, a3, a4, a5, a6, a7, a8, .string ⟨#[]⟩, .int .u8 0, .bool false, .slice ao ws'.length cp] (.slice ao ws'.length cp) ws' ta wr) := hE
      have HQ : Hid (ws'.length = m) := hlm
      clear hE hlm
      obtain ⟨key, tb, hA⟩ : ∃ key tb, rdText 1 32 ta = (key, tb) := ⟨_, _, rfl⟩
      have T1 : Hid (rdText 1 32 ta = (key, tb)) := hA
      clear hA
      obtain ⟨d, tc, hA⟩ : ∃ d tc, rdFlag tb = (d, tc) := ⟨_, _, rfl⟩
      have T2 : Hid (rdFlag tb = (d, tc)) := hA
      clear hA
      obtain ⟨va, td, hA⟩ : ∃ va td, rdText 0 256 tc = (va, td) := ⟨_, _, rfl⟩
      have T3 : Hid (rdText 0 256 tc = (va, td)) := hA
      clear hA
      have HED : Hid (Rz 85 B w bx br be #[.int .i64 k, a1, a2, a3, a4, a5, a6, a7, a8, .string ⟨#[]⟩, .int .u8 0, .bool false, .slice ao ws'.length cp] (.slice ao ws'.length cp) ws' ta wr.drew) := HE.out.on (Below.refl _ _).drew
      have C : Hid (1 = 1 → Calls Try.prog 58 #[.pointer (some ⟨br, 0, none⟩)] wr.drew fun r w' => r = .returned (.agg #[.string (bs key), .string (bs va), .bool d]) ∧ Rz 85 B w bx br be #[.int .i64 k, a1, a2, a3, a4, a5, a6, a7, a8, .string ⟨#[]⟩, .int .u8 0, .bool false, .slice ao ws'.length cp] (.slice ao ws'.length cp) ws' td w') := fun _ => tw58 HED.out T1.out T2.out T3.out
      have HNX : Hid (rWs (m + 1) st = (ws' ++ [⟨key, va, d⟩], td)) := HN.out (⟨key, va, d⟩, td) (by unfold rWr; rw [T1.out]; simp only; rw [T2.out]; simp only; rw [T3.out])
      have HQ1 : Hid (m + 1 ≤ 1) := hml
      have c1 : wr.drew.cell? ⟨be, 12, none⟩ = some (.slice ao ws'.length cp) := block_cell HED.out.y rfl
      clear HN T1 T2 T3
      go_upto_region 13 with fail
      go_region_law (first
        | (refine step_call1 (f := 58) (args := #[.pointer (some ⟨br, 0, none⟩)]) rfl (by go_simp) ?_; refine (C.out (by trivial)).mono ?_; rintro e w6 ⟨rfl, h6⟩; have H6 : Hid (Rz 85 B w bx br be #[.int .i64 k, a1, a2, a3, a4, a5, a6, a7, a8, .string ⟨#[]⟩, .int .u8 0, .bool false, .slice ao ws'.length cp] (.slice ao ws'.length cp) ws' td w6) := h6; have c6 : w6.cell? ⟨be, 12, none⟩ = some (.slice ao ws'.length cp) := block_cell h6.y rfl; have c7 : (w6.alloc (.cells #[.string (bs key), .string (bs va), .bool d] 60)).cell? ⟨be, 12, none⟩ = some (.slice ao ws'.length cp) := block_cell (h6.on (al _)).y rfl; have HOw : Hid (Ow B 60 3 (.slice ao ws'.length cp) ws'.length (rowC wrc ws') (w6.heap.size + 1) (.slice (some ⟨w6.heap.size, 0, none⟩) 1 1) 1 (rowC wrc [⟨key, va, d⟩]) (w6.alloc (.cells #[.string (bs key), .string (bs va), .bool d] 60))) := wr_ow ⟨key, va, d⟩ h6.own h6.big (by have := HQ.out; omega); clear h6; dsimp only)
        | (refine step_append_rw HOw.out Try.underlying28 hin hi0 hi1 hi2 rfl (by decide) (by decide) (.tmp 42) (.tmp 45) (by rfl) (by rfl) (by rfl) (by rfl) ?_; intro v9 w9 hown hg hat; obtain ⟨sa, sc, rfl, -, -, -, -⟩ := rw_own hown; have H9 : Hid (Rz 85 B w bx br be #[.int .i64 k, a1, a2, a3, a4, a5, a6, a7, a8, .string ⟨#[]⟩, .int .u8 0, .bool false, .slice ao ws'.length cp] (.slice sa (ws'.length + 1) sc) (ws' ++ [⟨key, va, d⟩]) td w9) := H6.out.grow ⟨key, va, d⟩ rfl hown hg; have g12 : w9.cell? ⟨be, 12, none⟩ = some (.slice ao ws'.length cp) := block_cell H9.out.y rfl; have f12 : w9.frozen? ⟨be, 12, none⟩ = false := block_frozen H9.out.y 12; clear hown hg hat))
      all_goals
        obtain ⟨y9, hy9⟩ : ∃ y9, w9.setCell ⟨be, 12, none⟩ (.slice sa (ws'.length + 1) sc) = y9 := ⟨_, rfl⟩
        have HY9 : Hid (Rz 85 B w bx br be #[.int .i64 k, a1, a2, a3, a4, a5, a6, a7, a8, .string ⟨#[]⟩, .int .u8 0, .bool false, .slice sa (ws'.length + 1) sc] (.slice sa (ws'.length + 1) sc) (ws' ++ [⟨key, va, d⟩]) td y9) := by rw [← hy9]; exact H9.out.put 12 (.slice sa (ws'.length + 1) sc)
        clear H9 H6 HOw C HE HED c1 c6 c7 g12 f12
        go_wp2_with fail
        go_roundw
        case rel =>
          refine ⟨m + 1, HQ1.out, by go_num, sa, sc, ?_⟩
          rw [HNX.out]
          simp only [List.length_append, List.length_cons, List.length_nil, Nat.zero_add]
          exact HY9.out
        case measure => simp [intOf]; omega
    · have hml1 : ¬ (m : Int) < 1 := by omega
      have hme : m = 1 := by omega
      have HWS : Hid (rWs 1 st = ((rWs m st).1, (rWs m st).2)) := by rw [hme]; rfl
      have HE : Hid (Rz 85 B w bx br be #[.int .i64 k, a1, a2, a3, a4, a5, a6, a7, a8, .string ⟨#[]⟩, .int .u8 0, .bool false, .slice ao (rWs m st).1.length cp] (.slice ao (rWs m st).1.length cp) (rWs m st).1 (rWs m st).2 wr) := hE
      have HX : Hid (ws = (rWs m st).1 ∧ tz = (rWs m st).2) := by
        have := EW.out.symm.trans HWS.out
        exact ⟨congrArg Prod.fst this, congrArg Prod.snd this⟩
      clear hE hlm hme HWS
      go_wp2_with fail
      go_end0
      refine ⟨rfl, ao, cp, ?_⟩
      rw [HX.out.1, HX.out.2]
      exact HE.out
set_option maxHeartbeats 3200000 in
set_option maxRecDepth 100000 in
theorem tr32_155 {B : Nat} {w W : World} {bx br be : Nat} {st : St} {a1 a2 a3 a4 a5 a6 a7 a8 : Value} (k : Int) (prim : List UInt8) (s1 : St) (e1 : rdText 1 32 st = (prim, s1)) (nw : Nat) (s2 : St) (e2 : rdNum 16 s1 = (nw, s2)) (ws : List Wr) (tz : St) (ew : rWs nw s2 = (ws, tz)) (h : Rz 85 B w bx br be #[.int .i64 k, a1, a2, a3, a4, a5, a6, a7, a8, .string ⟨#[]⟩, .int .u8 0, .bool false, .slice none 0 0] (.slice none 0 0) [] st W) :
    Calls Try.prog 32 #[.pointer (some ⟨br, 0, none⟩), .pointer (some ⟨be, 0, none⟩), .int .u16 155] W fun r w' => r = .returned (.tuple #[]) ∧ ∃ ao cp, Rz 85 B w bx br be #[.int .i64 k, a1, a2, a3, a4, a5, a6, a7, a8, .string (bs prim), .int .u8 0, .bool false, .slice ao ws.length cp] (.slice ao ws.length cp) ws tz w' := by
  have HZ0 : Hid _ := h
  have E1 : Hid _ := e1
  have E2 : Hid _ := e2
  have EW : Hid _ := ew
  clear h e1 e2 ew
  go_enter Try.func32, Try.ntmps32
  have C : Hid (∀ W : World, 1 = 1 → Calls Try.prog 41 #[.int .u16 155, .int .u16 16] W fun r w' => r = .returned (.bool true) ∧ W = w') := fun W _ => has41 155 16 W (by omega) (by omega)
  go_wp2_with fail
  refine (C.out _ (by trivial)).mono ?_
  rintro r wx ⟨rfl, rfl⟩
  clear C 
  have HL : Hid (s1.l.length ≤ st.l.length) := by have := rdText_le 1 32 st; rw [E1.out] at this; exact this
  have C : Hid (1 = 1 → Calls Try.prog 55 #[.pointer (some ⟨br, 0, none⟩), .int .i64 1, .int .i64 32] W fun r w' => r = .returned (.string (bs prim)) ∧ RdAt 85 br s1 w' ∧ Sole br W w') := fun _ => by
    have := text21 br st 1 32 W HZ0.out.r (by have := HZ0.out.len; omega) (by omega) (by omega) (by omega) (by omega)
    skip
    rw [E1.out] at this
    exact this
  go_wp2_with fail
  refine (C.out (by simp)).mono ?_
  rintro r x1 ⟨rfl, hr, hs⟩
  have HX1 : Hid (Rz 85 B w bx br be #[.int .i64 k, a1, a2, a3, a4, a5, a6, a7, a8, .string ⟨#[]⟩, .int .u8 0, .bool false, .slice none 0 0] (.slice none 0 0) [] s1 x1) := HZ0.out.rd hr hs HL.out
  clear hr hs C HL HZ0 
  have q9 : x1.cell? ⟨be, 9, none⟩ = some (.string ⟨#[]⟩) := block_cell HX1.out.y rfl
  have f9 : x1.frozen? ⟨be, 9, none⟩ = false := block_frozen HX1.out.y 9
  obtain ⟨Y1, hY1⟩ : ∃ Y1, (x1.setCell ⟨be, 9, none⟩ (.string (bs prim))) = Y1 := ⟨_, rfl⟩
  have HZ1 : Hid (Rz 85 B w bx br be #[.int .i64 k, a1, a2, a3, a4, a5, a6, a7, a8, .string (bs prim), .int .u8 0, .bool false, .slice none 0 0] (.slice none 0 0) [] s1 Y1) := by
    rw [← hY1]
    exact (HX1.out.put 9 (.string (bs prim)))
  clear HX1
  have C : Hid (∀ W : World, 1 = 1 → Calls Try.prog 41 #[.int .u16 155, .int .u16 32] W fun r w' => r = .returned (.bool false) ∧ W = w') := fun W _ => has41 155 32 W (by omega) (by omega)
  go_wp2_with fail
  refine (C.out _ (by trivial)).mono ?_
  rintro r wx ⟨rfl, rfl⟩
  clear C hY1 q9 f9
  have C : Hid (∀ W : World, 1 = 1 → Calls Try.prog 41 #[.int .u16 155, .int .u16 64] W fun r w' => r = .returned (.bool false) ∧ W = w') := fun W _ => has41 155 64 W (by omega) (by omega)
  go_wp2_with fail
  refine (C.out _ (by trivial)).mono ?_
  rintro r wx ⟨rfl, rfl⟩
  clear C 
  have C : Hid (∀ W : World, 1 = 1 → Calls Try.prog 41 #[.int .u16 155, .int .u16 256] W fun r w' => r = .returned (.bool false) ∧ W = w') := fun W _ => has41 155 256 W (by omega) (by omega)
  go_wp2_with fail
  refine (C.out _ (by trivial)).mono ?_
  rintro r wx ⟨rfl, rfl⟩
  clear C 
  have C : Hid (∀ W : World, 1 = 1 → Calls Try.prog 41 #[.int .u16 155, .int .u16 128] W fun r w' => r = .returned (.bool true) ∧ W = w') := fun W _ => has41 155 128 W (by omega) (by omega)
  go_wp2_with fail
  refine (C.out _ (by trivial)).mono ?_
  rintro r wx ⟨rfl, rfl⟩
  clear C 
  have HL : Hid (s2.l.length ≤ s1.l.length) := by have := (rdNum_le 16 s1).2.1; rw [E2.out] at this; exact this
  have bd2 : nw ≤ 16 := by have := (rdNum_le 16 s1).1; rw [E2.out] at this; exact this
  have C : Hid (1 = 1 → Calls Try.prog 57 #[.pointer (some ⟨br, 0, none⟩), .int .i64 16] Y1 fun r w' => r = .returned (.int .i64 (nw : Int)) ∧ RdAt 85 br s2 w' ∧ Sole br Y1 w') := fun _ => by
    have := count30 br s1 16 Y1 HZ1.out.r (by have := HZ1.out.len; omega) (by omega) (by omega)
    rw [show (16 : Int).toNat = 16 from rfl] at this
    rw [E2.out] at this
    exact this
  go_wp2_with fail
  refine (C.out (by simp)).mono ?_
  rintro r x2 ⟨rfl, hr, hs⟩
  have HX2 : Hid (Rz 85 B w bx br be #[.int .i64 k, a1, a2, a3, a4, a5, a6, a7, a8, .string (bs prim), .int .u8 0, .bool false, .slice none 0 0] (.slice none 0 0) [] s2 x2) := HZ1.out.rd hr hs HL.out
  clear hr hs C HL HZ1 
  go_wp2_with fail
  obtain ⟨i0, hin, hi0, hi1, hi2⟩ := info_parts info53
  have hnw : nw ≤ 16 := bd2
  go_loopw [36] (fun i wr => ∃ m : Nat, m ≤ nw ∧ i = .int .i64 m ∧ Hid (∃ ao cp, Rz 85 B w bx br be #[.int .i64 k, a1, a2, a3, a4, a5, a6, a7, a8, .string (bs prim), .int .u8 0, .bool false, .slice ao (rWs m s2).1.length cp] (.slice ao (rWs m s2).1.length cp) (rWs m s2).1 (rWs m s2).2 wr)) (fun i _ => nw - (intOf i).toNat)
  case atStart => exact ⟨0, Nat.zero_le _, rfl, none, 0, HX2.out⟩
  case round =>
    obtain ⟨m, hm, rfl, HR⟩ := hrel
    obtain ⟨ao, cp, hE⟩ := HR.out
    have hlm := rWs_len m s2
    clear HR HX2
    by_cases hml : m < nw
    · have hml1 : (m : Int) < nw := by omega
      have HN : Hid (∀ a : Wr × St, rWr (rWs m s2).2 = a → rWs (m + 1) s2 = ((rWs m s2).1 ++ [a.1], a.2)) := fun a ha => by rw [← ha]; rfl
      generalize (rWs m s2).1 = ws' at *
      generalize (rWs m s2).2 = ta at *
      have HE : Hid (Rz 85 B w bx br be #[.int .i64 k, a1, a2, a3, a4, a5, a6, a7, a8, .string (bs prim), .int .u8 0, .bool false, .slice ao ws'.length cp] (.slice ao ws'.length cp) ws' ta wr) := hE
      have HQ : Hid (ws'.length = m) := hlm
      clear hE hlm
      obtain ⟨key, tb, hA⟩ : ∃ key tb, rdText 1 32 ta = (key, tb) := ⟨_, _, rfl⟩
      have T1 : Hid (rdText 1 32 ta = (key, tb)) := hA
      clear hA
      obtain ⟨d, tc, hA⟩ : ∃ d tc, rdFlag tb = (d, tc) := ⟨_, _, rfl⟩
      have T2 : Hid (rdFlag tb = (d, tc)) := hA
      clear hA
      obtain ⟨va, td, hA⟩ : ∃ va td, rdText 0 256 tc = (va, td) := ⟨_, _, rfl⟩
      have T3 : Hid (rdText 0 256 tc = (va, td)) := hA
      clear hA
      have HED : Hid (Rz 85 B w bx br be #[.int .i64 k, a1, a2, a3, a4, a5, a6, a7, a8, .string (bs prim), .int .u8 0, .bool false, .slice ao ws'.length cp] (.slice ao ws'.length cp) ws' ta wr.drew) := HE.out.on (Below.refl _ _).drew
      have C : Hid (1 = 1 → Calls Try.prog 58 #[.pointer (some ⟨br, 0, none⟩)] wr.drew fun r w' => r = .returned (.agg #[.string (bs key), .string (bs va), .bool d]) ∧ Rz 85 B w bx br be #[.int .i64 k, a1, a2, a3, a4, a5, a6, a7, a8, .string (bs prim), .int .u8 0, .bool false, .slice ao ws'.length cp] (.slice ao ws'.length cp) ws' td w') := fun _ => tw58 HED.out T1.out T2.out T3.out
      have HNX : Hid (rWs (m + 1) s2 = (ws' ++ [⟨key, va, d⟩], td)) := HN.out (⟨key, va, d⟩, td) (by unfold rWr; rw [T1.out]; simp only; rw [T2.out]; simp only; rw [T3.out])
      have HQ1 : Hid (m + 1 ≤ nw) := hml
      have c1 : wr.drew.cell? ⟨be, 12, none⟩ = some (.slice ao ws'.length cp) := block_cell HED.out.y rfl
      clear HN T1 T2 T3
      go_upto_region 13 with fail
      go_region_law (first
        | (refine step_call1 (f := 58) (args := #[.pointer (some ⟨br, 0, none⟩)]) rfl (by go_simp) ?_; refine (C.out (by trivial)).mono ?_; rintro e w6 ⟨rfl, h6⟩; have H6 : Hid (Rz 85 B w bx br be #[.int .i64 k, a1, a2, a3, a4, a5, a6, a7, a8, .string (bs prim), .int .u8 0, .bool false, .slice ao ws'.length cp] (.slice ao ws'.length cp) ws' td w6) := h6; have c6 : w6.cell? ⟨be, 12, none⟩ = some (.slice ao ws'.length cp) := block_cell h6.y rfl; have c7 : (w6.alloc (.cells #[.string (bs key), .string (bs va), .bool d] 60)).cell? ⟨be, 12, none⟩ = some (.slice ao ws'.length cp) := block_cell (h6.on (al _)).y rfl; have HOw : Hid (Ow B 60 3 (.slice ao ws'.length cp) ws'.length (rowC wrc ws') (w6.heap.size + 1) (.slice (some ⟨w6.heap.size, 0, none⟩) 1 1) 1 (rowC wrc [⟨key, va, d⟩]) (w6.alloc (.cells #[.string (bs key), .string (bs va), .bool d] 60))) := wr_ow ⟨key, va, d⟩ h6.own h6.big (by have := HQ.out; omega); clear h6; dsimp only)
        | (refine step_append_rw HOw.out Try.underlying28 hin hi0 hi1 hi2 rfl (by decide) (by decide) (.tmp 42) (.tmp 45) (by rfl) (by rfl) (by rfl) (by rfl) ?_; intro v9 w9 hown hg hat; obtain ⟨sa, sc, rfl, -, -, -, -⟩ := rw_own hown; have H9 : Hid (Rz 85 B w bx br be #[.int .i64 k, a1, a2, a3, a4, a5, a6, a7, a8, .string (bs prim), .int .u8 0, .bool false, .slice ao ws'.length cp] (.slice sa (ws'.length + 1) sc) (ws' ++ [⟨key, va, d⟩]) td w9) := H6.out.grow ⟨key, va, d⟩ rfl hown hg; have g12 : w9.cell? ⟨be, 12, none⟩ = some (.slice ao ws'.length cp) := block_cell H9.out.y rfl; have f12 : w9.frozen? ⟨be, 12, none⟩ = false := block_frozen H9.out.y 12; clear hown hg hat))
      all_goals
        obtain ⟨y9, hy9⟩ : ∃ y9, w9.setCell ⟨be, 12, none⟩ (.slice sa (ws'.length + 1) sc) = y9 := ⟨_, rfl⟩
        have HY9 : Hid (Rz 85 B w bx br be #[.int .i64 k, a1, a2, a3, a4, a5, a6, a7, a8, .string (bs prim), .int .u8 0, .bool false, .slice sa (ws'.length + 1) sc] (.slice sa (ws'.length + 1) sc) (ws' ++ [⟨key, va, d⟩]) td y9) := by rw [← hy9]; exact H9.out.put 12 (.slice sa (ws'.length + 1) sc)
        clear H9 H6 HOw C HE HED c1 c6 c7 g12 f12
        go_wp2_with fail
        go_roundw
        case rel =>
          refine ⟨m + 1, HQ1.out, by go_num, sa, sc, ?_⟩
          rw [HNX.out]
          simp only [List.length_append, List.length_cons, List.length_nil, Nat.zero_add]
          exact HY9.out
        case measure => simp [intOf]; omega
    · have hml1 : ¬ (m : Int) < nw := by omega
      have hme : m = nw := by omega
      have HWS : Hid (rWs nw s2 = ((rWs m s2).1, (rWs m s2).2)) := by rw [hme]; rfl
      have HE : Hid (Rz 85 B w bx br be #[.int .i64 k, a1, a2, a3, a4, a5, a6, a7, a8, .string (bs prim), .int .u8 0, .bool false, .slice ao (rWs m s2).1.length cp] (.slice ao (rWs m s2).1.length cp) (rWs m s2).1 (rWs m s2).2 wr) := hE
      have HX : Hid (ws = (rWs m s2).1 ∧ tz = (rWs m s2).2) := by
        have := EW.out.symm.trans HWS.out
        exact ⟨congrArg Prod.fst this, congrArg Prod.snd this⟩
      clear hE hlm hme HWS
      go_wp2_with fail
      go_end0
      refine ⟨rfl, ao, cp, ?_⟩
      rw [HX.out.1, HX.out.2]
      exact HE.out
end Go.Proofs.Ytmgjlpgjjeknpaa
