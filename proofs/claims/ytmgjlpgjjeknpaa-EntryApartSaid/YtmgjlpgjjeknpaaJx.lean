/-
  The program's Right: no other fields, kinds 1, 2, 3, 4, 7.
-/
import Derived.Test.YtmgjlpgjjeknpaaHb
namespace Go.Proofs.Ytmgjlpgjjeknpaa
open Go.RowKit Go.Sort

set_option maxHeartbeats 3200000 in
set_option maxRecDepth 100000 in
theorem no25_1 (c n sp sq ap aq mp mq : Nat) (prim : List UInt8) (pt : Nat) (dn : Bool) (ws : List Wr) (ao : Option Addr) (cp : Nat) (w : World) (hws : WsAt w.heap.size (.slice ao ws.length cp) ws w) :
    Calls Try.prog 25 #[.agg #[.int .i64 1, .int .u32 (c : Int), .int .u32 (n : Int), .int .u64 (sp : Int), .int .u32 (sq : Int), .int .u64 (ap : Int), .int .u32 (aq : Int), .int .u64 (mp : Int), .int .u32 (mq : Int), .string (bs prim), .int .u8 (pt : Int), .bool dn, .slice ao ws.length cp], .int .u16 4] w fun r w' => r = .returned (.bool (zeroB (En.mk 1 c n sp sq ap aq mp mq prim pt dn ws))) ∧ Below w.heap.size w w' := by
  have H0 : Hid _ := eb_new (e := (En.mk 1 c n sp sq ap aq mp mq prim pt dn ws)) hws
  obtain ⟨W1, hW1⟩ : ∃ W1, w.alloc (.cells #[.int .i64 1, .int .u32 (c : Int), .int .u32 (n : Int), .int .u64 (sp : Int), .int .u32 (sq : Int), .int .u64 (ap : Int), .int .u32 (aq : Int), .int .u64 (mp : Int), .int .u32 (mq : Int), .string (bs prim), .int .u8 (pt : Int), .bool dn, .slice ao ws.length cp] 30) = W1 := ⟨_, rfl⟩
  obtain ⟨b, hb⟩ : ∃ b, w.heap.size = b := ⟨_, rfl⟩
  have H1 : Hid (Eb w b (En.mk 1 c n sp sq ap aq mp mq prim pt dn ws) ao cp W1) := by rw [← hb, ← hW1]; exact H0.out
  clear H0 hws
  obtain ⟨q1, hq1⟩ : ∃ q, (c == 0 && n == 0) = q := ⟨_, rfl⟩
  have E1 : ∀ W : World, (binOp .eql 24 (.agg #[.int .u32 (c : Int), .int .u32 (n : Int)]) (.agg #[.int .u32 0, .int .u32 0])).run Try.prog W = .ok (.bool q1) W := fun W => by rw [← hq1]; exact run_eql24 c n 0 0 W
  have HQ1 : Hid ((c == 0 && n == 0) = q1) := hq1
  clear hq1
  obtain ⟨q2, hq2⟩ : ∃ q, (sp == 0 && sq == 0) = q := ⟨_, rfl⟩
  have E2 : ∀ W : World, (binOp .eql 27 (.agg #[.int .u64 (sp : Int), .int .u32 (sq : Int)]) (.agg #[.int .u64 0, .int .u32 0])).run Try.prog W = .ok (.bool q2) W := fun W => by rw [← hq2]; exact run_eql27 sp sq 0 0 W
  have HQ2 : Hid ((sp == 0 && sq == 0) = q2) := hq2
  clear hq2
  obtain ⟨q8, hq8⟩ : ∃ q, (mp == 0 && mq == 0) = q := ⟨_, rfl⟩
  have E8 : ∀ W : World, (binOp .eql 27 (.agg #[.int .u64 (mp : Int), .int .u32 (mq : Int)]) (.agg #[.int .u64 0, .int .u32 0])).run Try.prog W = .ok (.bool q8) W := fun W => by rw [← hq8]; exact run_eql27 mp mq 0 0 W
  have HQ8 : Hid ((mp == 0 && mq == 0) = q8) := hq8
  clear hq8
  have p1 : W1.cell? ⟨b, 1, none⟩ = some (.int .u32 (c : Int)) := block_cell H1.out.x rfl
  have p2 : W1.cell? ⟨b, 2, none⟩ = some (.int .u32 (n : Int)) := block_cell H1.out.x rfl
  have p3 : W1.cell? ⟨b, 3, none⟩ = some (.int .u64 (sp : Int)) := block_cell H1.out.x rfl
  have p4 : W1.cell? ⟨b, 4, none⟩ = some (.int .u32 (sq : Int)) := block_cell H1.out.x rfl
  have p7 : W1.cell? ⟨b, 7, none⟩ = some (.int .u64 (mp : Int)) := block_cell H1.out.x rfl
  have p8 : W1.cell? ⟨b, 8, none⟩ = some (.int .u32 (mq : Int)) := block_cell H1.out.x rfl
  have p9 : W1.cell? ⟨b, 9, none⟩ = some (.string (bs prim)) := block_cell H1.out.x rfl
  have p10 : W1.cell? ⟨b, 10, none⟩ = some (.int .u8 (pt : Int)) := block_cell H1.out.x rfl
  have p11 : W1.cell? ⟨b, 11, none⟩ = some (.bool dn) := block_cell H1.out.x rfl
  have p12 : W1.cell? ⟨b, 12, none⟩ = some (.slice ao ws.length cp) := block_cell H1.out.x rfl
  have h1 : Hid (∀ W : World, 1 = 1 → Calls Try.prog 41 #[.int .u16 4, .int .u16 1] W fun r w' => r = .returned (.bool false) ∧ W = w') := fun W _ => has41 4 1 W (by omega) (by omega)
  have h2 : Hid (∀ W : World, 1 = 1 → Calls Try.prog 41 #[.int .u16 4, .int .u16 2] W fun r w' => r = .returned (.bool false) ∧ W = w') := fun W _ => has41 4 2 W (by omega) (by omega)
  have h4 : Hid (∀ W : World, 1 = 1 → Calls Try.prog 41 #[.int .u16 4, .int .u16 4] W fun r w' => r = .returned (.bool true) ∧ W = w') := fun W _ => has41 4 4 W (by omega) (by omega)
  have h8 : Hid (∀ W : World, 1 = 1 → Calls Try.prog 41 #[.int .u16 4, .int .u16 8] W fun r w' => r = .returned (.bool false) ∧ W = w') := fun W _ => has41 4 8 W (by omega) (by omega)
  have h16 : Hid (∀ W : World, 1 = 1 → Calls Try.prog 41 #[.int .u16 4, .int .u16 16] W fun r w' => r = .returned (.bool false) ∧ W = w') := fun W _ => has41 4 16 W (by omega) (by omega)
  have h32 : Hid (∀ W : World, 1 = 1 → Calls Try.prog 41 #[.int .u16 4, .int .u16 32] W fun r w' => r = .returned (.bool false) ∧ W = w') := fun W _ => has41 4 32 W (by omega) (by omega)
  have h64 : Hid (∀ W : World, 1 = 1 → Calls Try.prog 41 #[.int .u16 4, .int .u16 64] W fun r w' => r = .returned (.bool false) ∧ W = w') := fun W _ => has41 4 64 W (by omega) (by omega)
  have h128 : Hid (∀ W : World, 1 = 1 → Calls Try.prog 41 #[.int .u16 4, .int .u16 128] W fun r w' => r = .returned (.bool false) ∧ W = w') := fun W _ => has41 4 128 W (by omega) (by omega)
  cases q1
  · skip
    go_enter Try.func25, Try.ntmps25
    simp only [List.append_eq, List.cons_append, List.nil_append]
    go_wp2_with (go_at_call 41; (first | (with_reducible refine (h1.out _ (by trivial)).mono ?_) | (with_reducible refine (h2.out _ (by trivial)).mono ?_) | (with_reducible refine (h4.out _ (by trivial)).mono ?_) | (with_reducible refine (h8.out _ (by trivial)).mono ?_) | (with_reducible refine (h16.out _ (by trivial)).mono ?_) | (with_reducible refine (h32.out _ (by trivial)).mono ?_) | (with_reducible refine (h64.out _ (by trivial)).mono ?_) | (with_reducible refine (h128.out _ (by trivial)).mono ?_)); rintro r wx ⟨rfl, rfl⟩)
    go_ret
    exact ⟨congrArg (fun b => Ending.returned (.bool b)) (show _ = _ from by simp only [zeroB, HQ1.out]; rfl), by first | exact H1.out.bel | exact (Below.refl _ _).alloc (Nat.le_refl _) _⟩
  cases q2
  · skip
    go_enter Try.func25, Try.ntmps25
    simp only [List.append_eq, List.cons_append, List.nil_append]
    go_wp2_with (go_at_call 41; (first | (with_reducible refine (h1.out _ (by trivial)).mono ?_) | (with_reducible refine (h2.out _ (by trivial)).mono ?_) | (with_reducible refine (h4.out _ (by trivial)).mono ?_) | (with_reducible refine (h8.out _ (by trivial)).mono ?_) | (with_reducible refine (h16.out _ (by trivial)).mono ?_) | (with_reducible refine (h32.out _ (by trivial)).mono ?_) | (with_reducible refine (h64.out _ (by trivial)).mono ?_) | (with_reducible refine (h128.out _ (by trivial)).mono ?_)); rintro r wx ⟨rfl, rfl⟩)
    go_ret
    exact ⟨congrArg (fun b => Ending.returned (.bool b)) (show _ = _ from by simp only [zeroB, HQ1.out, HQ2.out]; rfl), by first | exact H1.out.bel | exact (Below.refl _ _).alloc (Nat.le_refl _) _⟩
  cases q8
  · skip
    go_enter Try.func25, Try.ntmps25
    simp only [List.append_eq, List.cons_append, List.nil_append]
    go_wp2_with (go_at_call 41; (first | (with_reducible refine (h1.out _ (by trivial)).mono ?_) | (with_reducible refine (h2.out _ (by trivial)).mono ?_) | (with_reducible refine (h4.out _ (by trivial)).mono ?_) | (with_reducible refine (h8.out _ (by trivial)).mono ?_) | (with_reducible refine (h16.out _ (by trivial)).mono ?_) | (with_reducible refine (h32.out _ (by trivial)).mono ?_) | (with_reducible refine (h64.out _ (by trivial)).mono ?_) | (with_reducible refine (h128.out _ (by trivial)).mono ?_)); rintro r wx ⟨rfl, rfl⟩)
    go_ret
    exact ⟨congrArg (fun b => Ending.returned (.bool b)) (show _ = _ from by simp only [zeroB, HQ1.out, HQ2.out, HQ8.out]; rfl), by first | exact H1.out.bel | exact (Below.refl _ _).alloc (Nat.le_refl _) _⟩
  by_cases t16 : (bs prim).toList = []
  rotate_left
  · have HQ16 : Hid (prim.isEmpty = false) := by show _ = _; rw [bs_list] at t16; simpa using t16
    go_enter Try.func25, Try.ntmps25
    simp only [List.append_eq, List.cons_append, List.nil_append]
    go_wp2_with (go_at_call 41; (first | (with_reducible refine (h1.out _ (by trivial)).mono ?_) | (with_reducible refine (h2.out _ (by trivial)).mono ?_) | (with_reducible refine (h4.out _ (by trivial)).mono ?_) | (with_reducible refine (h8.out _ (by trivial)).mono ?_) | (with_reducible refine (h16.out _ (by trivial)).mono ?_) | (with_reducible refine (h32.out _ (by trivial)).mono ?_) | (with_reducible refine (h64.out _ (by trivial)).mono ?_) | (with_reducible refine (h128.out _ (by trivial)).mono ?_)); rintro r wx ⟨rfl, rfl⟩)
    go_ret
    exact ⟨congrArg (fun b => Ending.returned (.bool b)) (show _ = _ from by simp only [zeroB, HQ1.out, HQ2.out, HQ8.out, HQ16.out]; rfl), by first | exact H1.out.bel | exact (Below.refl _ _).alloc (Nat.le_refl _) _⟩
  have HQ16 : Hid (prim.isEmpty = true) := by show _ = _; rw [bs_list] at t16; simpa using t16
  by_cases t32 : pt = 0
  rotate_left
  · have HQ32 : Hid ((pt == 0) = false) := by show _ = _; simpa using t32
    have u0 : ¬ (pt : Int) = 0 := by omega
    go_enter Try.func25, Try.ntmps25
    simp only [List.append_eq, List.cons_append, List.nil_append]
    go_wp2_with (go_at_call 41; (first | (with_reducible refine (h1.out _ (by trivial)).mono ?_) | (with_reducible refine (h2.out _ (by trivial)).mono ?_) | (with_reducible refine (h4.out _ (by trivial)).mono ?_) | (with_reducible refine (h8.out _ (by trivial)).mono ?_) | (with_reducible refine (h16.out _ (by trivial)).mono ?_) | (with_reducible refine (h32.out _ (by trivial)).mono ?_) | (with_reducible refine (h64.out _ (by trivial)).mono ?_) | (with_reducible refine (h128.out _ (by trivial)).mono ?_)); rintro r wx ⟨rfl, rfl⟩)
    go_ret
    exact ⟨congrArg (fun b => Ending.returned (.bool b)) (show _ = _ from by simp only [zeroB, HQ1.out, HQ2.out, HQ8.out, HQ16.out, HQ32.out]; rfl), by first | exact H1.out.bel | exact (Below.refl _ _).alloc (Nat.le_refl _) _⟩
  have HQ32 : Hid ((pt == 0) = true) := by show _ = _; simpa using t32
  have u320 : (pt : Int) = 0 := by omega
  cases dn
  rotate_left
  · skip
    go_enter Try.func25, Try.ntmps25
    simp only [List.append_eq, List.cons_append, List.nil_append]
    go_wp2_with (go_at_call 41; (first | (with_reducible refine (h1.out _ (by trivial)).mono ?_) | (with_reducible refine (h2.out _ (by trivial)).mono ?_) | (with_reducible refine (h4.out _ (by trivial)).mono ?_) | (with_reducible refine (h8.out _ (by trivial)).mono ?_) | (with_reducible refine (h16.out _ (by trivial)).mono ?_) | (with_reducible refine (h32.out _ (by trivial)).mono ?_) | (with_reducible refine (h64.out _ (by trivial)).mono ?_) | (with_reducible refine (h128.out _ (by trivial)).mono ?_)); rintro r wx ⟨rfl, rfl⟩)
    go_ret
    exact ⟨congrArg (fun b => Ending.returned (.bool b)) (show _ = _ from by simp only [zeroB, HQ1.out, HQ2.out, HQ8.out, HQ16.out, HQ32.out]; rfl), by first | exact H1.out.bel | exact (Below.refl _ _).alloc (Nat.le_refl _) _⟩
  go_enter Try.func25, Try.ntmps25
  simp only [List.append_eq, List.cons_append, List.nil_append]
  go_wp2_with (go_at_call 41; (first | (with_reducible refine (h1.out _ (by trivial)).mono ?_) | (with_reducible refine (h2.out _ (by trivial)).mono ?_) | (with_reducible refine (h4.out _ (by trivial)).mono ?_) | (with_reducible refine (h8.out _ (by trivial)).mono ?_) | (with_reducible refine (h16.out _ (by trivial)).mono ?_) | (with_reducible refine (h32.out _ (by trivial)).mono ?_) | (with_reducible refine (h64.out _ (by trivial)).mono ?_) | (with_reducible refine (h128.out _ (by trivial)).mono ?_)); rintro r wx ⟨rfl, rfl⟩)
  go_ret
  exact ⟨congrArg (fun b => Ending.returned (.bool b)) (show _ = _ from by simp only [zeroB, HQ1.out, HQ2.out, HQ8.out, HQ16.out, HQ32.out]; exact len_emp ws), by first | exact H1.out.bel | exact (Below.refl _ _).alloc (Nat.le_refl _) _⟩
set_option maxHeartbeats 3200000 in
set_option maxRecDepth 100000 in
theorem no25_2 (c n sp sq ap aq mp mq : Nat) (prim : List UInt8) (pt : Nat) (dn : Bool) (ws : List Wr) (ao : Option Addr) (cp : Nat) (w : World) (hws : WsAt w.heap.size (.slice ao ws.length cp) ws w) :
    Calls Try.prog 25 #[.agg #[.int .i64 2, .int .u32 (c : Int), .int .u32 (n : Int), .int .u64 (sp : Int), .int .u32 (sq : Int), .int .u64 (ap : Int), .int .u32 (aq : Int), .int .u64 (mp : Int), .int .u32 (mq : Int), .string (bs prim), .int .u8 (pt : Int), .bool dn, .slice ao ws.length cp], .int .u16 155] w fun r w' => r = .returned (.bool (zeroB (En.mk 2 c n sp sq ap aq mp mq prim pt dn ws))) ∧ Below w.heap.size w w' := by
  have H0 : Hid _ := eb_new (e := (En.mk 2 c n sp sq ap aq mp mq prim pt dn ws)) hws
  obtain ⟨W1, hW1⟩ : ∃ W1, w.alloc (.cells #[.int .i64 2, .int .u32 (c : Int), .int .u32 (n : Int), .int .u64 (sp : Int), .int .u32 (sq : Int), .int .u64 (ap : Int), .int .u32 (aq : Int), .int .u64 (mp : Int), .int .u32 (mq : Int), .string (bs prim), .int .u8 (pt : Int), .bool dn, .slice ao ws.length cp] 30) = W1 := ⟨_, rfl⟩
  obtain ⟨b, hb⟩ : ∃ b, w.heap.size = b := ⟨_, rfl⟩
  have H1 : Hid (Eb w b (En.mk 2 c n sp sq ap aq mp mq prim pt dn ws) ao cp W1) := by rw [← hb, ← hW1]; exact H0.out
  clear H0 hws
  obtain ⟨q4, hq4⟩ : ∃ q, (ap == 0 && aq == 0) = q := ⟨_, rfl⟩
  have E4 : ∀ W : World, (binOp .eql 27 (.agg #[.int .u64 (ap : Int), .int .u32 (aq : Int)]) (.agg #[.int .u64 0, .int .u32 0])).run Try.prog W = .ok (.bool q4) W := fun W => by rw [← hq4]; exact run_eql27 ap aq 0 0 W
  have HQ4 : Hid ((ap == 0 && aq == 0) = q4) := hq4
  clear hq4
  have p5 : W1.cell? ⟨b, 5, none⟩ = some (.int .u64 (ap : Int)) := block_cell H1.out.x rfl
  have p6 : W1.cell? ⟨b, 6, none⟩ = some (.int .u32 (aq : Int)) := block_cell H1.out.x rfl
  have p10 : W1.cell? ⟨b, 10, none⟩ = some (.int .u8 (pt : Int)) := block_cell H1.out.x rfl
  have p11 : W1.cell? ⟨b, 11, none⟩ = some (.bool dn) := block_cell H1.out.x rfl
  have h1 : Hid (∀ W : World, 1 = 1 → Calls Try.prog 41 #[.int .u16 155, .int .u16 1] W fun r w' => r = .returned (.bool true) ∧ W = w') := fun W _ => has41 155 1 W (by omega) (by omega)
  have h2 : Hid (∀ W : World, 1 = 1 → Calls Try.prog 41 #[.int .u16 155, .int .u16 2] W fun r w' => r = .returned (.bool true) ∧ W = w') := fun W _ => has41 155 2 W (by omega) (by omega)
  have h4 : Hid (∀ W : World, 1 = 1 → Calls Try.prog 41 #[.int .u16 155, .int .u16 4] W fun r w' => r = .returned (.bool false) ∧ W = w') := fun W _ => has41 155 4 W (by omega) (by omega)
  have h8 : Hid (∀ W : World, 1 = 1 → Calls Try.prog 41 #[.int .u16 155, .int .u16 8] W fun r w' => r = .returned (.bool true) ∧ W = w') := fun W _ => has41 155 8 W (by omega) (by omega)
  have h16 : Hid (∀ W : World, 1 = 1 → Calls Try.prog 41 #[.int .u16 155, .int .u16 16] W fun r w' => r = .returned (.bool true) ∧ W = w') := fun W _ => has41 155 16 W (by omega) (by omega)
  have h32 : Hid (∀ W : World, 1 = 1 → Calls Try.prog 41 #[.int .u16 155, .int .u16 32] W fun r w' => r = .returned (.bool false) ∧ W = w') := fun W _ => has41 155 32 W (by omega) (by omega)
  have h64 : Hid (∀ W : World, 1 = 1 → Calls Try.prog 41 #[.int .u16 155, .int .u16 64] W fun r w' => r = .returned (.bool false) ∧ W = w') := fun W _ => has41 155 64 W (by omega) (by omega)
  have h128 : Hid (∀ W : World, 1 = 1 → Calls Try.prog 41 #[.int .u16 155, .int .u16 128] W fun r w' => r = .returned (.bool true) ∧ W = w') := fun W _ => has41 155 128 W (by omega) (by omega)
  cases q4
  · skip
    go_enter Try.func25, Try.ntmps25
    simp only [List.append_eq, List.cons_append, List.nil_append]
    go_wp2_with (go_at_call 41; (first | (with_reducible refine (h1.out _ (by trivial)).mono ?_) | (with_reducible refine (h2.out _ (by trivial)).mono ?_) | (with_reducible refine (h4.out _ (by trivial)).mono ?_) | (with_reducible refine (h8.out _ (by trivial)).mono ?_) | (with_reducible refine (h16.out _ (by trivial)).mono ?_) | (with_reducible refine (h32.out _ (by trivial)).mono ?_) | (with_reducible refine (h64.out _ (by trivial)).mono ?_) | (with_reducible refine (h128.out _ (by trivial)).mono ?_)); rintro r wx ⟨rfl, rfl⟩)
    go_ret
    exact ⟨congrArg (fun b => Ending.returned (.bool b)) (show _ = _ from by simp only [zeroB, HQ4.out]; rfl), by first | exact H1.out.bel | exact (Below.refl _ _).alloc (Nat.le_refl _) _⟩
  by_cases t32 : pt = 0
  rotate_left
  · have HQ32 : Hid ((pt == 0) = false) := by show _ = _; simpa using t32
    have u0 : ¬ (pt : Int) = 0 := by omega
    go_enter Try.func25, Try.ntmps25
    simp only [List.append_eq, List.cons_append, List.nil_append]
    go_wp2_with (go_at_call 41; (first | (with_reducible refine (h1.out _ (by trivial)).mono ?_) | (with_reducible refine (h2.out _ (by trivial)).mono ?_) | (with_reducible refine (h4.out _ (by trivial)).mono ?_) | (with_reducible refine (h8.out _ (by trivial)).mono ?_) | (with_reducible refine (h16.out _ (by trivial)).mono ?_) | (with_reducible refine (h32.out _ (by trivial)).mono ?_) | (with_reducible refine (h64.out _ (by trivial)).mono ?_) | (with_reducible refine (h128.out _ (by trivial)).mono ?_)); rintro r wx ⟨rfl, rfl⟩)
    go_ret
    exact ⟨congrArg (fun b => Ending.returned (.bool b)) (show _ = _ from by simp only [zeroB, HQ4.out, HQ32.out]; rfl), by first | exact H1.out.bel | exact (Below.refl _ _).alloc (Nat.le_refl _) _⟩
  have HQ32 : Hid ((pt == 0) = true) := by show _ = _; simpa using t32
  have u320 : (pt : Int) = 0 := by omega
  cases dn
  rotate_left
  · skip
    go_enter Try.func25, Try.ntmps25
    simp only [List.append_eq, List.cons_append, List.nil_append]
    go_wp2_with (go_at_call 41; (first | (with_reducible refine (h1.out _ (by trivial)).mono ?_) | (with_reducible refine (h2.out _ (by trivial)).mono ?_) | (with_reducible refine (h4.out _ (by trivial)).mono ?_) | (with_reducible refine (h8.out _ (by trivial)).mono ?_) | (with_reducible refine (h16.out _ (by trivial)).mono ?_) | (with_reducible refine (h32.out _ (by trivial)).mono ?_) | (with_reducible refine (h64.out _ (by trivial)).mono ?_) | (with_reducible refine (h128.out _ (by trivial)).mono ?_)); rintro r wx ⟨rfl, rfl⟩)
    go_ret
    exact ⟨congrArg (fun b => Ending.returned (.bool b)) (show _ = _ from by simp only [zeroB, HQ4.out, HQ32.out]; rfl), by first | exact H1.out.bel | exact (Below.refl _ _).alloc (Nat.le_refl _) _⟩
  go_enter Try.func25, Try.ntmps25
  simp only [List.append_eq, List.cons_append, List.nil_append]
  go_wp2_with (go_at_call 41; (first | (with_reducible refine (h1.out _ (by trivial)).mono ?_) | (with_reducible refine (h2.out _ (by trivial)).mono ?_) | (with_reducible refine (h4.out _ (by trivial)).mono ?_) | (with_reducible refine (h8.out _ (by trivial)).mono ?_) | (with_reducible refine (h16.out _ (by trivial)).mono ?_) | (with_reducible refine (h32.out _ (by trivial)).mono ?_) | (with_reducible refine (h64.out _ (by trivial)).mono ?_) | (with_reducible refine (h128.out _ (by trivial)).mono ?_)); rintro r wx ⟨rfl, rfl⟩)
  go_ret
  exact ⟨congrArg (fun b => Ending.returned (.bool b)) (show _ = _ from by simp only [zeroB, HQ4.out, HQ32.out]; rfl), by first | exact H1.out.bel | exact (Below.refl _ _).alloc (Nat.le_refl _) _⟩
end Go.Proofs.Ytmgjlpgjjeknpaa

namespace Go.Proofs.Ytmgjlpgjjeknpaa
open Go.RowKit Go.Sort

set_option maxHeartbeats 3200000 in
set_option maxRecDepth 100000 in
theorem no25_3 (c n sp sq ap aq mp mq : Nat) (prim : List UInt8) (pt : Nat) (dn : Bool) (ws : List Wr) (ao : Option Addr) (cp : Nat) (w : World) (hws : WsAt w.heap.size (.slice ao ws.length cp) ws w) :
    Calls Try.prog 25 #[.agg #[.int .i64 3, .int .u32 (c : Int), .int .u32 (n : Int), .int .u64 (sp : Int), .int .u32 (sq : Int), .int .u64 (ap : Int), .int .u32 (aq : Int), .int .u64 (mp : Int), .int .u32 (mq : Int), .string (bs prim), .int .u8 (pt : Int), .bool dn, .slice ao ws.length cp], .int .u16 551] w fun r w' => r = .returned (.bool (zeroB (En.mk 3 c n sp sq ap aq mp mq prim pt dn ws))) ∧ Below w.heap.size w w' := by
  have H0 : Hid _ := eb_new (e := (En.mk 3 c n sp sq ap aq mp mq prim pt dn ws)) hws
  obtain ⟨W1, hW1⟩ : ∃ W1, w.alloc (.cells #[.int .i64 3, .int .u32 (c : Int), .int .u32 (n : Int), .int .u64 (sp : Int), .int .u32 (sq : Int), .int .u64 (ap : Int), .int .u32 (aq : Int), .int .u64 (mp : Int), .int .u32 (mq : Int), .string (bs prim), .int .u8 (pt : Int), .bool dn, .slice ao ws.length cp] 30) = W1 := ⟨_, rfl⟩
  obtain ⟨b, hb⟩ : ∃ b, w.heap.size = b := ⟨_, rfl⟩
  have H1 : Hid (Eb w b (En.mk 3 c n sp sq ap aq mp mq prim pt dn ws) ao cp W1) := by rw [← hb, ← hW1]; exact H0.out
  clear H0 hws
  obtain ⟨q8, hq8⟩ : ∃ q, (mp == 0 && mq == 0) = q := ⟨_, rfl⟩
  have E8 : ∀ W : World, (binOp .eql 27 (.agg #[.int .u64 (mp : Int), .int .u32 (mq : Int)]) (.agg #[.int .u64 0, .int .u32 0])).run Try.prog W = .ok (.bool q8) W := fun W => by rw [← hq8]; exact run_eql27 mp mq 0 0 W
  have HQ8 : Hid ((mp == 0 && mq == 0) = q8) := hq8
  clear hq8
  have p7 : W1.cell? ⟨b, 7, none⟩ = some (.int .u64 (mp : Int)) := block_cell H1.out.x rfl
  have p8 : W1.cell? ⟨b, 8, none⟩ = some (.int .u32 (mq : Int)) := block_cell H1.out.x rfl
  have p9 : W1.cell? ⟨b, 9, none⟩ = some (.string (bs prim)) := block_cell H1.out.x rfl
  have p11 : W1.cell? ⟨b, 11, none⟩ = some (.bool dn) := block_cell H1.out.x rfl
  have p12 : W1.cell? ⟨b, 12, none⟩ = some (.slice ao ws.length cp) := block_cell H1.out.x rfl
  have h1 : Hid (∀ W : World, 1 = 1 → Calls Try.prog 41 #[.int .u16 551, .int .u16 1] W fun r w' => r = .returned (.bool true) ∧ W = w') := fun W _ => has41 551 1 W (by omega) (by omega)
  have h2 : Hid (∀ W : World, 1 = 1 → Calls Try.prog 41 #[.int .u16 551, .int .u16 2] W fun r w' => r = .returned (.bool true) ∧ W = w') := fun W _ => has41 551 2 W (by omega) (by omega)
  have h4 : Hid (∀ W : World, 1 = 1 → Calls Try.prog 41 #[.int .u16 551, .int .u16 4] W fun r w' => r = .returned (.bool true) ∧ W = w') := fun W _ => has41 551 4 W (by omega) (by omega)
  have h8 : Hid (∀ W : World, 1 = 1 → Calls Try.prog 41 #[.int .u16 551, .int .u16 8] W fun r w' => r = .returned (.bool false) ∧ W = w') := fun W _ => has41 551 8 W (by omega) (by omega)
  have h16 : Hid (∀ W : World, 1 = 1 → Calls Try.prog 41 #[.int .u16 551, .int .u16 16] W fun r w' => r = .returned (.bool false) ∧ W = w') := fun W _ => has41 551 16 W (by omega) (by omega)
  have h32 : Hid (∀ W : World, 1 = 1 → Calls Try.prog 41 #[.int .u16 551, .int .u16 32] W fun r w' => r = .returned (.bool true) ∧ W = w') := fun W _ => has41 551 32 W (by omega) (by omega)
  have h64 : Hid (∀ W : World, 1 = 1 → Calls Try.prog 41 #[.int .u16 551, .int .u16 64] W fun r w' => r = .returned (.bool false) ∧ W = w') := fun W _ => has41 551 64 W (by omega) (by omega)
  have h128 : Hid (∀ W : World, 1 = 1 → Calls Try.prog 41 #[.int .u16 551, .int .u16 128] W fun r w' => r = .returned (.bool false) ∧ W = w') := fun W _ => has41 551 128 W (by omega) (by omega)
  cases q8
  · skip
    go_enter Try.func25, Try.ntmps25
    simp only [List.append_eq, List.cons_append, List.nil_append]
    go_wp2_with (go_at_call 41; (first | (with_reducible refine (h1.out _ (by trivial)).mono ?_) | (with_reducible refine (h2.out _ (by trivial)).mono ?_) | (with_reducible refine (h4.out _ (by trivial)).mono ?_) | (with_reducible refine (h8.out _ (by trivial)).mono ?_) | (with_reducible refine (h16.out _ (by trivial)).mono ?_) | (with_reducible refine (h32.out _ (by trivial)).mono ?_) | (with_reducible refine (h64.out _ (by trivial)).mono ?_) | (with_reducible refine (h128.out _ (by trivial)).mono ?_)); rintro r wx ⟨rfl, rfl⟩)
    go_ret
    exact ⟨congrArg (fun b => Ending.returned (.bool b)) (show _ = _ from by simp only [zeroB, HQ8.out]; rfl), by first | exact H1.out.bel | exact (Below.refl _ _).alloc (Nat.le_refl _) _⟩
  by_cases t16 : (bs prim).toList = []
  rotate_left
  · have HQ16 : Hid (prim.isEmpty = false) := by show _ = _; rw [bs_list] at t16; simpa using t16
    go_enter Try.func25, Try.ntmps25
    simp only [List.append_eq, List.cons_append, List.nil_append]
    go_wp2_with (go_at_call 41; (first | (with_reducible refine (h1.out _ (by trivial)).mono ?_) | (with_reducible refine (h2.out _ (by trivial)).mono ?_) | (with_reducible refine (h4.out _ (by trivial)).mono ?_) | (with_reducible refine (h8.out _ (by trivial)).mono ?_) | (with_reducible refine (h16.out _ (by trivial)).mono ?_) | (with_reducible refine (h32.out _ (by trivial)).mono ?_) | (with_reducible refine (h64.out _ (by trivial)).mono ?_) | (with_reducible refine (h128.out _ (by trivial)).mono ?_)); rintro r wx ⟨rfl, rfl⟩)
    go_ret
    exact ⟨congrArg (fun b => Ending.returned (.bool b)) (show _ = _ from by simp only [zeroB, HQ8.out, HQ16.out]; rfl), by first | exact H1.out.bel | exact (Below.refl _ _).alloc (Nat.le_refl _) _⟩
  have HQ16 : Hid (prim.isEmpty = true) := by show _ = _; rw [bs_list] at t16; simpa using t16
  cases dn
  rotate_left
  · skip
    go_enter Try.func25, Try.ntmps25
    simp only [List.append_eq, List.cons_append, List.nil_append]
    go_wp2_with (go_at_call 41; (first | (with_reducible refine (h1.out _ (by trivial)).mono ?_) | (with_reducible refine (h2.out _ (by trivial)).mono ?_) | (with_reducible refine (h4.out _ (by trivial)).mono ?_) | (with_reducible refine (h8.out _ (by trivial)).mono ?_) | (with_reducible refine (h16.out _ (by trivial)).mono ?_) | (with_reducible refine (h32.out _ (by trivial)).mono ?_) | (with_reducible refine (h64.out _ (by trivial)).mono ?_) | (with_reducible refine (h128.out _ (by trivial)).mono ?_)); rintro r wx ⟨rfl, rfl⟩)
    go_ret
    exact ⟨congrArg (fun b => Ending.returned (.bool b)) (show _ = _ from by simp only [zeroB, HQ8.out, HQ16.out]; rfl), by first | exact H1.out.bel | exact (Below.refl _ _).alloc (Nat.le_refl _) _⟩
  go_enter Try.func25, Try.ntmps25
  simp only [List.append_eq, List.cons_append, List.nil_append]
  go_wp2_with (go_at_call 41; (first | (with_reducible refine (h1.out _ (by trivial)).mono ?_) | (with_reducible refine (h2.out _ (by trivial)).mono ?_) | (with_reducible refine (h4.out _ (by trivial)).mono ?_) | (with_reducible refine (h8.out _ (by trivial)).mono ?_) | (with_reducible refine (h16.out _ (by trivial)).mono ?_) | (with_reducible refine (h32.out _ (by trivial)).mono ?_) | (with_reducible refine (h64.out _ (by trivial)).mono ?_) | (with_reducible refine (h128.out _ (by trivial)).mono ?_)); rintro r wx ⟨rfl, rfl⟩)
  go_ret
  exact ⟨congrArg (fun b => Ending.returned (.bool b)) (show _ = _ from by simp only [zeroB, HQ8.out, HQ16.out]; exact len_emp ws), by first | exact H1.out.bel | exact (Below.refl _ _).alloc (Nat.le_refl _) _⟩
set_option maxHeartbeats 3200000 in
set_option maxRecDepth 100000 in
theorem no25_4 (c n sp sq ap aq mp mq : Nat) (prim : List UInt8) (pt : Nat) (dn : Bool) (ws : List Wr) (ao : Option Addr) (cp : Nat) (w : World) (hws : WsAt w.heap.size (.slice ao ws.length cp) ws w) :
    Calls Try.prog 25 #[.agg #[.int .i64 4, .int .u32 (c : Int), .int .u32 (n : Int), .int .u64 (sp : Int), .int .u32 (sq : Int), .int .u64 (ap : Int), .int .u32 (aq : Int), .int .u64 (mp : Int), .int .u32 (mq : Int), .string (bs prim), .int .u8 (pt : Int), .bool dn, .slice ao ws.length cp], .int .u16 517] w fun r w' => r = .returned (.bool (zeroB (En.mk 4 c n sp sq ap aq mp mq prim pt dn ws))) ∧ Below w.heap.size w w' := by
  have H0 : Hid _ := eb_new (e := (En.mk 4 c n sp sq ap aq mp mq prim pt dn ws)) hws
  obtain ⟨W1, hW1⟩ : ∃ W1, w.alloc (.cells #[.int .i64 4, .int .u32 (c : Int), .int .u32 (n : Int), .int .u64 (sp : Int), .int .u32 (sq : Int), .int .u64 (ap : Int), .int .u32 (aq : Int), .int .u64 (mp : Int), .int .u32 (mq : Int), .string (bs prim), .int .u8 (pt : Int), .bool dn, .slice ao ws.length cp] 30) = W1 := ⟨_, rfl⟩
  obtain ⟨b, hb⟩ : ∃ b, w.heap.size = b := ⟨_, rfl⟩
  have H1 : Hid (Eb w b (En.mk 4 c n sp sq ap aq mp mq prim pt dn ws) ao cp W1) := by rw [← hb, ← hW1]; exact H0.out
  clear H0 hws
  obtain ⟨q2, hq2⟩ : ∃ q, (sp == 0 && sq == 0) = q := ⟨_, rfl⟩
  have E2 : ∀ W : World, (binOp .eql 27 (.agg #[.int .u64 (sp : Int), .int .u32 (sq : Int)]) (.agg #[.int .u64 0, .int .u32 0])).run Try.prog W = .ok (.bool q2) W := fun W => by rw [← hq2]; exact run_eql27 sp sq 0 0 W
  have HQ2 : Hid ((sp == 0 && sq == 0) = q2) := hq2
  clear hq2
  obtain ⟨q8, hq8⟩ : ∃ q, (mp == 0 && mq == 0) = q := ⟨_, rfl⟩
  have E8 : ∀ W : World, (binOp .eql 27 (.agg #[.int .u64 (mp : Int), .int .u32 (mq : Int)]) (.agg #[.int .u64 0, .int .u32 0])).run Try.prog W = .ok (.bool q8) W := fun W => by rw [← hq8]; exact run_eql27 mp mq 0 0 W
  have HQ8 : Hid ((mp == 0 && mq == 0) = q8) := hq8
  clear hq8
  have p3 : W1.cell? ⟨b, 3, none⟩ = some (.int .u64 (sp : Int)) := block_cell H1.out.x rfl
  have p4 : W1.cell? ⟨b, 4, none⟩ = some (.int .u32 (sq : Int)) := block_cell H1.out.x rfl
  have p7 : W1.cell? ⟨b, 7, none⟩ = some (.int .u64 (mp : Int)) := block_cell H1.out.x rfl
  have p8 : W1.cell? ⟨b, 8, none⟩ = some (.int .u32 (mq : Int)) := block_cell H1.out.x rfl
  have p9 : W1.cell? ⟨b, 9, none⟩ = some (.string (bs prim)) := block_cell H1.out.x rfl
  have p10 : W1.cell? ⟨b, 10, none⟩ = some (.int .u8 (pt : Int)) := block_cell H1.out.x rfl
  have p11 : W1.cell? ⟨b, 11, none⟩ = some (.bool dn) := block_cell H1.out.x rfl
  have p12 : W1.cell? ⟨b, 12, none⟩ = some (.slice ao ws.length cp) := block_cell H1.out.x rfl
  have h1 : Hid (∀ W : World, 1 = 1 → Calls Try.prog 41 #[.int .u16 517, .int .u16 1] W fun r w' => r = .returned (.bool true) ∧ W = w') := fun W _ => has41 517 1 W (by omega) (by omega)
  have h2 : Hid (∀ W : World, 1 = 1 → Calls Try.prog 41 #[.int .u16 517, .int .u16 2] W fun r w' => r = .returned (.bool false) ∧ W = w') := fun W _ => has41 517 2 W (by omega) (by omega)
  have h4 : Hid (∀ W : World, 1 = 1 → Calls Try.prog 41 #[.int .u16 517, .int .u16 4] W fun r w' => r = .returned (.bool true) ∧ W = w') := fun W _ => has41 517 4 W (by omega) (by omega)
  have h8 : Hid (∀ W : World, 1 = 1 → Calls Try.prog 41 #[.int .u16 517, .int .u16 8] W fun r w' => r = .returned (.bool false) ∧ W = w') := fun W _ => has41 517 8 W (by omega) (by omega)
  have h16 : Hid (∀ W : World, 1 = 1 → Calls Try.prog 41 #[.int .u16 517, .int .u16 16] W fun r w' => r = .returned (.bool false) ∧ W = w') := fun W _ => has41 517 16 W (by omega) (by omega)
  have h32 : Hid (∀ W : World, 1 = 1 → Calls Try.prog 41 #[.int .u16 517, .int .u16 32] W fun r w' => r = .returned (.bool false) ∧ W = w') := fun W _ => has41 517 32 W (by omega) (by omega)
  have h64 : Hid (∀ W : World, 1 = 1 → Calls Try.prog 41 #[.int .u16 517, .int .u16 64] W fun r w' => r = .returned (.bool false) ∧ W = w') := fun W _ => has41 517 64 W (by omega) (by omega)
  have h128 : Hid (∀ W : World, 1 = 1 → Calls Try.prog 41 #[.int .u16 517, .int .u16 128] W fun r w' => r = .returned (.bool false) ∧ W = w') := fun W _ => has41 517 128 W (by omega) (by omega)
  cases q2
  · skip
    go_enter Try.func25, Try.ntmps25
    simp only [List.append_eq, List.cons_append, List.nil_append]
    go_wp2_with (go_at_call 41; (first | (with_reducible refine (h1.out _ (by trivial)).mono ?_) | (with_reducible refine (h2.out _ (by trivial)).mono ?_) | (with_reducible refine (h4.out _ (by trivial)).mono ?_) | (with_reducible refine (h8.out _ (by trivial)).mono ?_) | (with_reducible refine (h16.out _ (by trivial)).mono ?_) | (with_reducible refine (h32.out _ (by trivial)).mono ?_) | (with_reducible refine (h64.out _ (by trivial)).mono ?_) | (with_reducible refine (h128.out _ (by trivial)).mono ?_)); rintro r wx ⟨rfl, rfl⟩)
    go_ret
    exact ⟨congrArg (fun b => Ending.returned (.bool b)) (show _ = _ from by simp only [zeroB, HQ2.out]; rfl), by first | exact H1.out.bel | exact (Below.refl _ _).alloc (Nat.le_refl _) _⟩
  cases q8
  · skip
    go_enter Try.func25, Try.ntmps25
    simp only [List.append_eq, List.cons_append, List.nil_append]
    go_wp2_with (go_at_call 41; (first | (with_reducible refine (h1.out _ (by trivial)).mono ?_) | (with_reducible refine (h2.out _ (by trivial)).mono ?_) | (with_reducible refine (h4.out _ (by trivial)).mono ?_) | (with_reducible refine (h8.out _ (by trivial)).mono ?_) | (with_reducible refine (h16.out _ (by trivial)).mono ?_) | (with_reducible refine (h32.out _ (by trivial)).mono ?_) | (with_reducible refine (h64.out _ (by trivial)).mono ?_) | (with_reducible refine (h128.out _ (by trivial)).mono ?_)); rintro r wx ⟨rfl, rfl⟩)
    go_ret
    exact ⟨congrArg (fun b => Ending.returned (.bool b)) (show _ = _ from by simp only [zeroB, HQ2.out, HQ8.out]; rfl), by first | exact H1.out.bel | exact (Below.refl _ _).alloc (Nat.le_refl _) _⟩
  by_cases t16 : (bs prim).toList = []
  rotate_left
  · have HQ16 : Hid (prim.isEmpty = false) := by show _ = _; rw [bs_list] at t16; simpa using t16
    go_enter Try.func25, Try.ntmps25
    simp only [List.append_eq, List.cons_append, List.nil_append]
    go_wp2_with (go_at_call 41; (first | (with_reducible refine (h1.out _ (by trivial)).mono ?_) | (with_reducible refine (h2.out _ (by trivial)).mono ?_) | (with_reducible refine (h4.out _ (by trivial)).mono ?_) | (with_reducible refine (h8.out _ (by trivial)).mono ?_) | (with_reducible refine (h16.out _ (by trivial)).mono ?_) | (with_reducible refine (h32.out _ (by trivial)).mono ?_) | (with_reducible refine (h64.out _ (by trivial)).mono ?_) | (with_reducible refine (h128.out _ (by trivial)).mono ?_)); rintro r wx ⟨rfl, rfl⟩)
    go_ret
    exact ⟨congrArg (fun b => Ending.returned (.bool b)) (show _ = _ from by simp only [zeroB, HQ2.out, HQ8.out, HQ16.out]; rfl), by first | exact H1.out.bel | exact (Below.refl _ _).alloc (Nat.le_refl _) _⟩
  have HQ16 : Hid (prim.isEmpty = true) := by show _ = _; rw [bs_list] at t16; simpa using t16
  by_cases t32 : pt = 0
  rotate_left
  · have HQ32 : Hid ((pt == 0) = false) := by show _ = _; simpa using t32
    have u0 : ¬ (pt : Int) = 0 := by omega
    go_enter Try.func25, Try.ntmps25
    simp only [List.append_eq, List.cons_append, List.nil_append]
    go_wp2_with (go_at_call 41; (first | (with_reducible refine (h1.out _ (by trivial)).mono ?_) | (with_reducible refine (h2.out _ (by trivial)).mono ?_) | (with_reducible refine (h4.out _ (by trivial)).mono ?_) | (with_reducible refine (h8.out _ (by trivial)).mono ?_) | (with_reducible refine (h16.out _ (by trivial)).mono ?_) | (with_reducible refine (h32.out _ (by trivial)).mono ?_) | (with_reducible refine (h64.out _ (by trivial)).mono ?_) | (with_reducible refine (h128.out _ (by trivial)).mono ?_)); rintro r wx ⟨rfl, rfl⟩)
    go_ret
    exact ⟨congrArg (fun b => Ending.returned (.bool b)) (show _ = _ from by simp only [zeroB, HQ2.out, HQ8.out, HQ16.out, HQ32.out]; rfl), by first | exact H1.out.bel | exact (Below.refl _ _).alloc (Nat.le_refl _) _⟩
  have HQ32 : Hid ((pt == 0) = true) := by show _ = _; simpa using t32
  have u320 : (pt : Int) = 0 := by omega
  cases dn
  rotate_left
  · skip
    go_enter Try.func25, Try.ntmps25
    simp only [List.append_eq, List.cons_append, List.nil_append]
    go_wp2_with (go_at_call 41; (first | (with_reducible refine (h1.out _ (by trivial)).mono ?_) | (with_reducible refine (h2.out _ (by trivial)).mono ?_) | (with_reducible refine (h4.out _ (by trivial)).mono ?_) | (with_reducible refine (h8.out _ (by trivial)).mono ?_) | (with_reducible refine (h16.out _ (by trivial)).mono ?_) | (with_reducible refine (h32.out _ (by trivial)).mono ?_) | (with_reducible refine (h64.out _ (by trivial)).mono ?_) | (with_reducible refine (h128.out _ (by trivial)).mono ?_)); rintro r wx ⟨rfl, rfl⟩)
    go_ret
    exact ⟨congrArg (fun b => Ending.returned (.bool b)) (show _ = _ from by simp only [zeroB, HQ2.out, HQ8.out, HQ16.out, HQ32.out]; rfl), by first | exact H1.out.bel | exact (Below.refl _ _).alloc (Nat.le_refl _) _⟩
  go_enter Try.func25, Try.ntmps25
  simp only [List.append_eq, List.cons_append, List.nil_append]
  go_wp2_with (go_at_call 41; (first | (with_reducible refine (h1.out _ (by trivial)).mono ?_) | (with_reducible refine (h2.out _ (by trivial)).mono ?_) | (with_reducible refine (h4.out _ (by trivial)).mono ?_) | (with_reducible refine (h8.out _ (by trivial)).mono ?_) | (with_reducible refine (h16.out _ (by trivial)).mono ?_) | (with_reducible refine (h32.out _ (by trivial)).mono ?_) | (with_reducible refine (h64.out _ (by trivial)).mono ?_) | (with_reducible refine (h128.out _ (by trivial)).mono ?_)); rintro r wx ⟨rfl, rfl⟩)
  go_ret
  exact ⟨congrArg (fun b => Ending.returned (.bool b)) (show _ = _ from by simp only [zeroB, HQ2.out, HQ8.out, HQ16.out, HQ32.out]; exact len_emp ws), by first | exact H1.out.bel | exact (Below.refl _ _).alloc (Nat.le_refl _) _⟩
end Go.Proofs.Ytmgjlpgjjeknpaa

namespace Go.Proofs.Ytmgjlpgjjeknpaa
open Go.RowKit Go.Sort

set_option maxHeartbeats 3200000 in
set_option maxRecDepth 100000 in
theorem no25_7 (c n sp sq ap aq mp mq : Nat) (prim : List UInt8) (pt : Nat) (dn : Bool) (ws : List Wr) (ao : Option Addr) (cp : Nat) (w : World) (hws : WsAt w.heap.size (.slice ao ws.length cp) ws w) :
    Calls Try.prog 25 #[.agg #[.int .i64 7, .int .u32 (c : Int), .int .u32 (n : Int), .int .u64 (sp : Int), .int .u32 (sq : Int), .int .u64 (ap : Int), .int .u32 (aq : Int), .int .u64 (mp : Int), .int .u32 (mq : Int), .string (bs prim), .int .u8 (pt : Int), .bool dn, .slice ao ws.length cp], .int .u16 1] w fun r w' => r = .returned (.bool (zeroB (En.mk 7 c n sp sq ap aq mp mq prim pt dn ws))) ∧ Below w.heap.size w w' := by
  have H0 : Hid _ := eb_new (e := (En.mk 7 c n sp sq ap aq mp mq prim pt dn ws)) hws
  obtain ⟨W1, hW1⟩ : ∃ W1, w.alloc (.cells #[.int .i64 7, .int .u32 (c : Int), .int .u32 (n : Int), .int .u64 (sp : Int), .int .u32 (sq : Int), .int .u64 (ap : Int), .int .u32 (aq : Int), .int .u64 (mp : Int), .int .u32 (mq : Int), .string (bs prim), .int .u8 (pt : Int), .bool dn, .slice ao ws.length cp] 30) = W1 := ⟨_, rfl⟩
  obtain ⟨b, hb⟩ : ∃ b, w.heap.size = b := ⟨_, rfl⟩
  have H1 : Hid (Eb w b (En.mk 7 c n sp sq ap aq mp mq prim pt dn ws) ao cp W1) := by rw [← hb, ← hW1]; exact H0.out
  clear H0 hws
  obtain ⟨q2, hq2⟩ : ∃ q, (sp == 0 && sq == 0) = q := ⟨_, rfl⟩
  have E2 : ∀ W : World, (binOp .eql 27 (.agg #[.int .u64 (sp : Int), .int .u32 (sq : Int)]) (.agg #[.int .u64 0, .int .u32 0])).run Try.prog W = .ok (.bool q2) W := fun W => by rw [← hq2]; exact run_eql27 sp sq 0 0 W
  have HQ2 : Hid ((sp == 0 && sq == 0) = q2) := hq2
  clear hq2
  obtain ⟨q4, hq4⟩ : ∃ q, (ap == 0 && aq == 0) = q := ⟨_, rfl⟩
  have E4 : ∀ W : World, (binOp .eql 27 (.agg #[.int .u64 (ap : Int), .int .u32 (aq : Int)]) (.agg #[.int .u64 0, .int .u32 0])).run Try.prog W = .ok (.bool q4) W := fun W => by rw [← hq4]; exact run_eql27 ap aq 0 0 W
  have HQ4 : Hid ((ap == 0 && aq == 0) = q4) := hq4
  clear hq4
  obtain ⟨q8, hq8⟩ : ∃ q, (mp == 0 && mq == 0) = q := ⟨_, rfl⟩
  have E8 : ∀ W : World, (binOp .eql 27 (.agg #[.int .u64 (mp : Int), .int .u32 (mq : Int)]) (.agg #[.int .u64 0, .int .u32 0])).run Try.prog W = .ok (.bool q8) W := fun W => by rw [← hq8]; exact run_eql27 mp mq 0 0 W
  have HQ8 : Hid ((mp == 0 && mq == 0) = q8) := hq8
  clear hq8
  have p3 : W1.cell? ⟨b, 3, none⟩ = some (.int .u64 (sp : Int)) := block_cell H1.out.x rfl
  have p4 : W1.cell? ⟨b, 4, none⟩ = some (.int .u32 (sq : Int)) := block_cell H1.out.x rfl
  have p5 : W1.cell? ⟨b, 5, none⟩ = some (.int .u64 (ap : Int)) := block_cell H1.out.x rfl
  have p6 : W1.cell? ⟨b, 6, none⟩ = some (.int .u32 (aq : Int)) := block_cell H1.out.x rfl
  have p7 : W1.cell? ⟨b, 7, none⟩ = some (.int .u64 (mp : Int)) := block_cell H1.out.x rfl
  have p8 : W1.cell? ⟨b, 8, none⟩ = some (.int .u32 (mq : Int)) := block_cell H1.out.x rfl
  have p9 : W1.cell? ⟨b, 9, none⟩ = some (.string (bs prim)) := block_cell H1.out.x rfl
  have p10 : W1.cell? ⟨b, 10, none⟩ = some (.int .u8 (pt : Int)) := block_cell H1.out.x rfl
  have p11 : W1.cell? ⟨b, 11, none⟩ = some (.bool dn) := block_cell H1.out.x rfl
  have p12 : W1.cell? ⟨b, 12, none⟩ = some (.slice ao ws.length cp) := block_cell H1.out.x rfl
  have h1 : Hid (∀ W : World, 1 = 1 → Calls Try.prog 41 #[.int .u16 1, .int .u16 1] W fun r w' => r = .returned (.bool true) ∧ W = w') := fun W _ => has41 1 1 W (by omega) (by omega)
  have h2 : Hid (∀ W : World, 1 = 1 → Calls Try.prog 41 #[.int .u16 1, .int .u16 2] W fun r w' => r = .returned (.bool false) ∧ W = w') := fun W _ => has41 1 2 W (by omega) (by omega)
  have h4 : Hid (∀ W : World, 1 = 1 → Calls Try.prog 41 #[.int .u16 1, .int .u16 4] W fun r w' => r = .returned (.bool false) ∧ W = w') := fun W _ => has41 1 4 W (by omega) (by omega)
  have h8 : Hid (∀ W : World, 1 = 1 → Calls Try.prog 41 #[.int .u16 1, .int .u16 8] W fun r w' => r = .returned (.bool false) ∧ W = w') := fun W _ => has41 1 8 W (by omega) (by omega)
  have h16 : Hid (∀ W : World, 1 = 1 → Calls Try.prog 41 #[.int .u16 1, .int .u16 16] W fun r w' => r = .returned (.bool false) ∧ W = w') := fun W _ => has41 1 16 W (by omega) (by omega)
  have h32 : Hid (∀ W : World, 1 = 1 → Calls Try.prog 41 #[.int .u16 1, .int .u16 32] W fun r w' => r = .returned (.bool false) ∧ W = w') := fun W _ => has41 1 32 W (by omega) (by omega)
  have h64 : Hid (∀ W : World, 1 = 1 → Calls Try.prog 41 #[.int .u16 1, .int .u16 64] W fun r w' => r = .returned (.bool false) ∧ W = w') := fun W _ => has41 1 64 W (by omega) (by omega)
  have h128 : Hid (∀ W : World, 1 = 1 → Calls Try.prog 41 #[.int .u16 1, .int .u16 128] W fun r w' => r = .returned (.bool false) ∧ W = w') := fun W _ => has41 1 128 W (by omega) (by omega)
  cases q2
  · skip
    go_enter Try.func25, Try.ntmps25
    simp only [List.append_eq, List.cons_append, List.nil_append]
    go_wp2_with (go_at_call 41; (first | (with_reducible refine (h1.out _ (by trivial)).mono ?_) | (with_reducible refine (h2.out _ (by trivial)).mono ?_) | (with_reducible refine (h4.out _ (by trivial)).mono ?_) | (with_reducible refine (h8.out _ (by trivial)).mono ?_) | (with_reducible refine (h16.out _ (by trivial)).mono ?_) | (with_reducible refine (h32.out _ (by trivial)).mono ?_) | (with_reducible refine (h64.out _ (by trivial)).mono ?_) | (with_reducible refine (h128.out _ (by trivial)).mono ?_)); rintro r wx ⟨rfl, rfl⟩)
    go_ret
    exact ⟨congrArg (fun b => Ending.returned (.bool b)) (show _ = _ from by simp only [zeroB, HQ2.out]; rfl), by first | exact H1.out.bel | exact (Below.refl _ _).alloc (Nat.le_refl _) _⟩
  cases q4
  · skip
    go_enter Try.func25, Try.ntmps25
    simp only [List.append_eq, List.cons_append, List.nil_append]
    go_wp2_with (go_at_call 41; (first | (with_reducible refine (h1.out _ (by trivial)).mono ?_) | (with_reducible refine (h2.out _ (by trivial)).mono ?_) | (with_reducible refine (h4.out _ (by trivial)).mono ?_) | (with_reducible refine (h8.out _ (by trivial)).mono ?_) | (with_reducible refine (h16.out _ (by trivial)).mono ?_) | (with_reducible refine (h32.out _ (by trivial)).mono ?_) | (with_reducible refine (h64.out _ (by trivial)).mono ?_) | (with_reducible refine (h128.out _ (by trivial)).mono ?_)); rintro r wx ⟨rfl, rfl⟩)
    go_ret
    exact ⟨congrArg (fun b => Ending.returned (.bool b)) (show _ = _ from by simp only [zeroB, HQ2.out, HQ4.out]; rfl), by first | exact H1.out.bel | exact (Below.refl _ _).alloc (Nat.le_refl _) _⟩
  cases q8
  · skip
    go_enter Try.func25, Try.ntmps25
    simp only [List.append_eq, List.cons_append, List.nil_append]
    go_wp2_with (go_at_call 41; (first | (with_reducible refine (h1.out _ (by trivial)).mono ?_) | (with_reducible refine (h2.out _ (by trivial)).mono ?_) | (with_reducible refine (h4.out _ (by trivial)).mono ?_) | (with_reducible refine (h8.out _ (by trivial)).mono ?_) | (with_reducible refine (h16.out _ (by trivial)).mono ?_) | (with_reducible refine (h32.out _ (by trivial)).mono ?_) | (with_reducible refine (h64.out _ (by trivial)).mono ?_) | (with_reducible refine (h128.out _ (by trivial)).mono ?_)); rintro r wx ⟨rfl, rfl⟩)
    go_ret
    exact ⟨congrArg (fun b => Ending.returned (.bool b)) (show _ = _ from by simp only [zeroB, HQ2.out, HQ4.out, HQ8.out]; rfl), by first | exact H1.out.bel | exact (Below.refl _ _).alloc (Nat.le_refl _) _⟩
  by_cases t16 : (bs prim).toList = []
  rotate_left
  · have HQ16 : Hid (prim.isEmpty = false) := by show _ = _; rw [bs_list] at t16; simpa using t16
    go_enter Try.func25, Try.ntmps25
    simp only [List.append_eq, List.cons_append, List.nil_append]
    go_wp2_with (go_at_call 41; (first | (with_reducible refine (h1.out _ (by trivial)).mono ?_) | (with_reducible refine (h2.out _ (by trivial)).mono ?_) | (with_reducible refine (h4.out _ (by trivial)).mono ?_) | (with_reducible refine (h8.out _ (by trivial)).mono ?_) | (with_reducible refine (h16.out _ (by trivial)).mono ?_) | (with_reducible refine (h32.out _ (by trivial)).mono ?_) | (with_reducible refine (h64.out _ (by trivial)).mono ?_) | (with_reducible refine (h128.out _ (by trivial)).mono ?_)); rintro r wx ⟨rfl, rfl⟩)
    go_ret
    exact ⟨congrArg (fun b => Ending.returned (.bool b)) (show _ = _ from by simp only [zeroB, HQ2.out, HQ4.out, HQ8.out, HQ16.out]; rfl), by first | exact H1.out.bel | exact (Below.refl _ _).alloc (Nat.le_refl _) _⟩
  have HQ16 : Hid (prim.isEmpty = true) := by show _ = _; rw [bs_list] at t16; simpa using t16
  by_cases t32 : pt = 0
  rotate_left
  · have HQ32 : Hid ((pt == 0) = false) := by show _ = _; simpa using t32
    have u0 : ¬ (pt : Int) = 0 := by omega
    go_enter Try.func25, Try.ntmps25
    simp only [List.append_eq, List.cons_append, List.nil_append]
    go_wp2_with (go_at_call 41; (first | (with_reducible refine (h1.out _ (by trivial)).mono ?_) | (with_reducible refine (h2.out _ (by trivial)).mono ?_) | (with_reducible refine (h4.out _ (by trivial)).mono ?_) | (with_reducible refine (h8.out _ (by trivial)).mono ?_) | (with_reducible refine (h16.out _ (by trivial)).mono ?_) | (with_reducible refine (h32.out _ (by trivial)).mono ?_) | (with_reducible refine (h64.out _ (by trivial)).mono ?_) | (with_reducible refine (h128.out _ (by trivial)).mono ?_)); rintro r wx ⟨rfl, rfl⟩)
    go_ret
    exact ⟨congrArg (fun b => Ending.returned (.bool b)) (show _ = _ from by simp only [zeroB, HQ2.out, HQ4.out, HQ8.out, HQ16.out, HQ32.out]; rfl), by first | exact H1.out.bel | exact (Below.refl _ _).alloc (Nat.le_refl _) _⟩
  have HQ32 : Hid ((pt == 0) = true) := by show _ = _; simpa using t32
  have u320 : (pt : Int) = 0 := by omega
  cases dn
  rotate_left
  · skip
    go_enter Try.func25, Try.ntmps25
    simp only [List.append_eq, List.cons_append, List.nil_append]
    go_wp2_with (go_at_call 41; (first | (with_reducible refine (h1.out _ (by trivial)).mono ?_) | (with_reducible refine (h2.out _ (by trivial)).mono ?_) | (with_reducible refine (h4.out _ (by trivial)).mono ?_) | (with_reducible refine (h8.out _ (by trivial)).mono ?_) | (with_reducible refine (h16.out _ (by trivial)).mono ?_) | (with_reducible refine (h32.out _ (by trivial)).mono ?_) | (with_reducible refine (h64.out _ (by trivial)).mono ?_) | (with_reducible refine (h128.out _ (by trivial)).mono ?_)); rintro r wx ⟨rfl, rfl⟩)
    go_ret
    exact ⟨congrArg (fun b => Ending.returned (.bool b)) (show _ = _ from by simp only [zeroB, HQ2.out, HQ4.out, HQ8.out, HQ16.out, HQ32.out]; rfl), by first | exact H1.out.bel | exact (Below.refl _ _).alloc (Nat.le_refl _) _⟩
  go_enter Try.func25, Try.ntmps25
  simp only [List.append_eq, List.cons_append, List.nil_append]
  go_wp2_with (go_at_call 41; (first | (with_reducible refine (h1.out _ (by trivial)).mono ?_) | (with_reducible refine (h2.out _ (by trivial)).mono ?_) | (with_reducible refine (h4.out _ (by trivial)).mono ?_) | (with_reducible refine (h8.out _ (by trivial)).mono ?_) | (with_reducible refine (h16.out _ (by trivial)).mono ?_) | (with_reducible refine (h32.out _ (by trivial)).mono ?_) | (with_reducible refine (h64.out _ (by trivial)).mono ?_) | (with_reducible refine (h128.out _ (by trivial)).mono ?_)); rintro r wx ⟨rfl, rfl⟩)
  go_ret
  exact ⟨congrArg (fun b => Ending.returned (.bool b)) (show _ = _ from by simp only [zeroB, HQ2.out, HQ4.out, HQ8.out, HQ16.out, HQ32.out]; exact len_emp ws), by first | exact H1.out.bel | exact (Below.refl _ _).alloc (Nat.le_refl _) _⟩
end Go.Proofs.Ytmgjlpgjjeknpaa
