import Derived.Test.YtajjnmdomabmkaaGreatWay
set_option maxHeartbeats 4000000
set_option maxRecDepth 100000
set_option linter.unusedVariables false
namespace Go.Proofs.YtajjnmdomabmkaaGreat.Ent
open Go.RowKit Go.Sort
theorem no25_3 (c n sp sq ap aq mp mq : Nat) (prim : List UInt8) (pt : Nat) (dn : Bool) (ws : List Wr) (ao : Option Addr) (cp : Nat) (w : World) (hws : WsAt w.heap.size (.slice ao ws.length cp) ws w) :
  Calls Tryz.prog 161 #[.agg #[.int .i64 3, .int .u32 (c : Int), .int .u32 (n : Int), .int .u64 (sp : Int), .int .u32 (sq : Int), .int .u64 (ap : Int), .int .u32 (aq : Int), .int .u64 (mp : Int), .int .u32 (mq : Int), .string (bs prim), .int .u8 (pt : Int), .bool dn, .slice ao ws.length cp], .int .u16 551] w fun r w' => r = .returned (.bool (zeroB (En.mk 3 c n sp sq ap aq mp mq prim pt dn ws))) ∧ Below w.heap.size w w' := by
 have H0 : Hid _ := eb_new (e := (En.mk 3 c n sp sq ap aq mp mq prim pt dn ws)) hws
 obtain ⟨W1, hW1⟩ : ∃ W1, w.alloc (.cells #[.int .i64 3, .int .u32 (c : Int), .int .u32 (n : Int), .int .u64 (sp : Int), .int .u32 (sq : Int), .int .u64 (ap : Int), .int .u32 (aq : Int), .int .u64 (mp : Int), .int .u32 (mq : Int), .string (bs prim), .int .u8 (pt : Int), .bool dn, .slice ao ws.length cp] 124) = W1 := ⟨_, rfl⟩
 obtain ⟨b, hb⟩ : ∃ b, w.heap.size = b := ⟨_, rfl⟩
 have H1 : Hid (Eb w b (En.mk 3 c n sp sq ap aq mp mq prim pt dn ws) ao cp W1) := by rw [← hb, ← hW1]; exact H0.out
 clear H0 hws
 obtain ⟨q8, hq8⟩ : ∃ q, (mp == 0 && mq == 0) = q := ⟨_, rfl⟩
 have E8 : ∀ W : World, (binOp .eql 32 (.agg #[.int .u64 (mp : Int), .int .u32 (mq : Int)]) (.agg #[.int .u64 0, .int .u32 0])).run Tryz.prog W = .ok (.bool q8) W := fun W => by rw [← hq8]; exact run_eql27 mp mq 0 0 W
 have HQ8 : Hid ((mp == 0 && mq == 0) = q8) := hq8
 clear hq8
 have p7 := block_cell (j := 7) H1.out.x rfl
 have p8 := block_cell (j := 8) H1.out.x rfl
 have p9 := block_cell (j := 9) H1.out.x rfl
 have p11 := block_cell (j := 11) H1.out.x rfl
 have p12 := block_cell (j := 12) H1.out.x rfl
 have h1 : Hid (∀ W : World, 1 = 1 → Calls Tryz.prog 155 #[.int .u16 551, .int .u16 1] W fun r w' => r = .returned (.bool true) ∧ W = w') := fun W _ => has41 551 1 W (by omega) (by omega)
 have h2 : Hid (∀ W : World, 1 = 1 → Calls Tryz.prog 155 #[.int .u16 551, .int .u16 2] W fun r w' => r = .returned (.bool true) ∧ W = w') := fun W _ => has41 551 2 W (by omega) (by omega)
 have h4 : Hid (∀ W : World, 1 = 1 → Calls Tryz.prog 155 #[.int .u16 551, .int .u16 4] W fun r w' => r = .returned (.bool true) ∧ W = w') := fun W _ => has41 551 4 W (by omega) (by omega)
 have h8 : Hid (∀ W : World, 1 = 1 → Calls Tryz.prog 155 #[.int .u16 551, .int .u16 8] W fun r w' => r = .returned (.bool false) ∧ W = w') := fun W _ => has41 551 8 W (by omega) (by omega)
 have h16 : Hid (∀ W : World, 1 = 1 → Calls Tryz.prog 155 #[.int .u16 551, .int .u16 16] W fun r w' => r = .returned (.bool false) ∧ W = w') := fun W _ => has41 551 16 W (by omega) (by omega)
 have h32 : Hid (∀ W : World, 1 = 1 → Calls Tryz.prog 155 #[.int .u16 551, .int .u16 32] W fun r w' => r = .returned (.bool true) ∧ W = w') := fun W _ => has41 551 32 W (by omega) (by omega)
 have h64 : Hid (∀ W : World, 1 = 1 → Calls Tryz.prog 155 #[.int .u16 551, .int .u16 64] W fun r w' => r = .returned (.bool false) ∧ W = w') := fun W _ => has41 551 64 W (by omega) (by omega)
 have h128 : Hid (∀ W : World, 1 = 1 → Calls Tryz.prog 155 #[.int .u16 551, .int .u16 128] W fun r w' => r = .returned (.bool false) ∧ W = w') := fun W _ => has41 551 128 W (by omega) (by omega)
 cases q8
 ·skip
  go_enter Tryz.func161, Tryz.ntmps161
  simp only [List.append_eq, List.cons_append, List.nil_append]
  go_wp2_with (go_at_call 155; (first | (with_reducible refine (h1.out _ (by trivial)).mono ?_) | (with_reducible refine (h2.out _ (by trivial)).mono ?_) | (with_reducible refine (h4.out _ (by trivial)).mono ?_) | (with_reducible refine (h8.out _ (by trivial)).mono ?_) | (with_reducible refine (h16.out _ (by trivial)).mono ?_) | (with_reducible refine (h32.out _ (by trivial)).mono ?_) | (with_reducible refine (h64.out _ (by trivial)).mono ?_) | (with_reducible refine (h128.out _ (by trivial)).mono ?_)); rintro r wx ⟨rfl, rfl⟩)
  go_ret
  exact ⟨congrArg (fun b => Ending.returned (.bool b)) (show _ = _ from by simp only [zeroB, HQ8.out]; rfl), by first | exact H1.out.bel | exact (Below.refl _ _).alloc (Nat.le_refl _) _⟩
 by_cases t16 : (bs prim).toList = []
 rotate_left
 ·have HQ16 : Hid (prim.isEmpty = false) := by show _ = _; rw [bs_list] at t16; simpa using t16
  go_enter Tryz.func161, Tryz.ntmps161
  simp only [List.append_eq, List.cons_append, List.nil_append]
  go_wp2_with (go_at_call 155; (first | (with_reducible refine (h1.out _ (by trivial)).mono ?_) | (with_reducible refine (h2.out _ (by trivial)).mono ?_) | (with_reducible refine (h4.out _ (by trivial)).mono ?_) | (with_reducible refine (h8.out _ (by trivial)).mono ?_) | (with_reducible refine (h16.out _ (by trivial)).mono ?_) | (with_reducible refine (h32.out _ (by trivial)).mono ?_) | (with_reducible refine (h64.out _ (by trivial)).mono ?_) | (with_reducible refine (h128.out _ (by trivial)).mono ?_)); rintro r wx ⟨rfl, rfl⟩)
  go_ret
  exact ⟨congrArg (fun b => Ending.returned (.bool b)) (show _ = _ from by simp only [zeroB, HQ8.out, HQ16.out]; rfl), by first | exact H1.out.bel | exact (Below.refl _ _).alloc (Nat.le_refl _) _⟩
 have HQ16 : Hid (prim.isEmpty = true) := by show _ = _; rw [bs_list] at t16; simpa using t16
 cases dn
 rotate_left
 ·skip
  go_enter Tryz.func161, Tryz.ntmps161
  simp only [List.append_eq, List.cons_append, List.nil_append]
  go_wp2_with (go_at_call 155; (first | (with_reducible refine (h1.out _ (by trivial)).mono ?_) | (with_reducible refine (h2.out _ (by trivial)).mono ?_) | (with_reducible refine (h4.out _ (by trivial)).mono ?_) | (with_reducible refine (h8.out _ (by trivial)).mono ?_) | (with_reducible refine (h16.out _ (by trivial)).mono ?_) | (with_reducible refine (h32.out _ (by trivial)).mono ?_) | (with_reducible refine (h64.out _ (by trivial)).mono ?_) | (with_reducible refine (h128.out _ (by trivial)).mono ?_)); rintro r wx ⟨rfl, rfl⟩)
  go_ret
  exact ⟨congrArg (fun b => Ending.returned (.bool b)) (show _ = _ from by simp only [zeroB, HQ8.out, HQ16.out]; rfl), by first | exact H1.out.bel | exact (Below.refl _ _).alloc (Nat.le_refl _) _⟩
 go_enter Tryz.func161, Tryz.ntmps161
 simp only [List.append_eq, List.cons_append, List.nil_append]
 go_wp2_with (go_at_call 155; (first | (with_reducible refine (h1.out _ (by trivial)).mono ?_) | (with_reducible refine (h2.out _ (by trivial)).mono ?_) | (with_reducible refine (h4.out _ (by trivial)).mono ?_) | (with_reducible refine (h8.out _ (by trivial)).mono ?_) | (with_reducible refine (h16.out _ (by trivial)).mono ?_) | (with_reducible refine (h32.out _ (by trivial)).mono ?_) | (with_reducible refine (h64.out _ (by trivial)).mono ?_) | (with_reducible refine (h128.out _ (by trivial)).mono ?_)); rintro r wx ⟨rfl, rfl⟩)
 go_ret
 exact ⟨congrArg (fun b => Ending.returned (.bool b)) (show _ = _ from by simp only [zeroB, HQ8.out, HQ16.out]; exact len_emp ws), by first | exact H1.out.bel | exact (Below.refl _ _).alloc (Nat.le_refl _) _⟩
end Go.Proofs.YtajjnmdomabmkaaGreat.Ent
namespace Go.Proofs.YtajjnmdomabmkaaGreat.Ent
open Go.RowKit Go.Sort
theorem rt10 (m : Nat) (z1 z2 z3 z4 : Bool) (e : En) (ao : Option Addr) (cp : Nat) (w : World) (hws : WsAt w.heap.size (.slice ao e.ws.length cp) e.ws w) (hm : mask e.k = m) (hm0 : ¬ m = 0) (c25 : (∀ W : World, WsAt W.heap.size (.slice ao e.ws.length cp) e.ws W → Calls Tryz.prog 161 #[.agg #[.int .i64 e.k, .int .u32 (e.c : Int), .int .u32 (e.n : Int), .int .u64 (e.sp : Int), .int .u32 (e.sl : Int), .int .u64 (e.ap : Int), .int .u32 (e.al : Int), .int .u64 (e.mp : Int), .int .u32 (e.ml : Int), .string (bs e.prim), .int .u8 (e.pt : Int), .bool e.dn, .slice ao e.ws.length cp], .int .u16 (m : Int)] W fun r w' => r = .returned (.bool z1) ∧ Below W.heap.size W w')) (c26 : (∀ W : World, WsAt W.heap.size (.slice ao e.ws.length cp) e.ws W → Calls Tryz.prog 162 #[.agg #[.int .i64 e.k, .int .u32 (e.c : Int), .int .u32 (e.n : Int), .int .u64 (e.sp : Int), .int .u32 (e.sl : Int), .int .u64 (e.ap : Int), .int .u32 (e.al : Int), .int .u64 (e.mp : Int), .int .u32 (e.ml : Int), .string (bs e.prim), .int .u8 (e.pt : Int), .bool e.dn, .slice ao e.ws.length cp], .int .u16 (m : Int)] W fun r w' => r = .returned (.bool z2) ∧ Below W.heap.size W w')) (c27 : (∀ W : World, WsAt W.heap.size (.slice ao e.ws.length cp) e.ws W → Calls Tryz.prog 163 #[.agg #[.int .i64 e.k, .int .u32 (e.c : Int), .int .u32 (e.n : Int), .int .u64 (e.sp : Int), .int .u32 (e.sl : Int), .int .u64 (e.ap : Int), .int .u32 (e.al : Int), .int .u64 (e.mp : Int), .int .u32 (e.ml : Int), .string (bs e.prim), .int .u8 (e.pt : Int), .bool e.dn, .slice ao e.ws.length cp]] W fun r w' => r = .returned (.bool z3) ∧ Below W.heap.size W w')) (c28 : (∀ W : World, WsAt W.heap.size (.slice ao e.ws.length cp) e.ws W → Calls Tryz.prog 164 #[.agg #[.int .i64 e.k, .int .u32 (e.c : Int), .int .u32 (e.n : Int), .int .u64 (e.sp : Int), .int .u32 (e.sl : Int), .int .u64 (e.ap : Int), .int .u32 (e.al : Int), .int .u64 (e.mp : Int), .int .u32 (e.ml : Int), .string (bs e.prim), .int .u8 (e.pt : Int), .bool e.dn, .slice ao e.ws.length cp], .int .u16 (m : Int)] W fun r w' => r = .returned (.bool z4) ∧ Below W.heap.size W w')) :
  Calls Tryz.prog 79 #[.agg #[.int .i64 e.k, .int .u32 (e.c : Int), .int .u32 (e.n : Int), .int .u64 (e.sp : Int), .int .u32 (e.sl : Int), .int .u64 (e.ap : Int), .int .u32 (e.al : Int), .int .u64 (e.mp : Int), .int .u32 (e.ml : Int), .string (bs e.prim), .int .u8 (e.pt : Int), .bool e.dn, .slice ao e.ws.length cp]] w fun r w' => r = .returned (.bool (z1 && z2 && z3 && z4)) ∧ Below w.heap.size w w' := by
 have H0 : Hid _ := eb_new (e := e) hws
 obtain ⟨W1, hW1⟩ : ∃ W1, w.alloc (.cells #[.int .i64 e.k, .int .u32 (e.c : Int), .int .u32 (e.n : Int), .int .u64 (e.sp : Int), .int .u32 (e.sl : Int), .int .u64 (e.ap : Int), .int .u32 (e.al : Int), .int .u64 (e.mp : Int), .int .u32 (e.ml : Int), .string (bs e.prim), .int .u8 (e.pt : Int), .bool e.dn, .slice ao e.ws.length cp] 124) = W1 := ⟨_, rfl⟩
 obtain ⟨b, hb⟩ : ∃ b, w.heap.size = b := ⟨_, rfl⟩
 have H1 : Hid (Eb w b e ao cp W1) := by rw [← hb, ← hW1]; exact H0.out
 clear H0 hws
 have C : Hid (1 = 1 → Calls Tryz.prog 75 #[.int .i64 e.k] W1 fun r w' => r = .returned (.int .u16 (m : Int)) ∧ W1 = w') := fun _ => by
  have := fields15 e.k W1
  rw [hm] at this
  exact this
 have C1 : Hid (∀ W, Eb w b e ao cp W → Calls Tryz.prog 161 #[.agg #[.int .i64 e.k, .int .u32 (e.c : Int), .int .u32 (e.n : Int), .int .u64 (e.sp : Int), .int .u32 (e.sl : Int), .int .u64 (e.ap : Int), .int .u32 (e.al : Int), .int .u64 (e.mp : Int), .int .u32 (e.ml : Int), .string (bs e.prim), .int .u8 (e.pt : Int), .bool e.dn, .slice ao e.ws.length cp], .int .u16 (m : Int)] W fun r w' => r = .returned (.bool z1) ∧ Below W.heap.size W w') := fun W h => c25 W h.wsx
 have C2 : Hid (∀ W, Eb w b e ao cp W → Calls Tryz.prog 162 #[.agg #[.int .i64 e.k, .int .u32 (e.c : Int), .int .u32 (e.n : Int), .int .u64 (e.sp : Int), .int .u32 (e.sl : Int), .int .u64 (e.ap : Int), .int .u32 (e.al : Int), .int .u64 (e.mp : Int), .int .u32 (e.ml : Int), .string (bs e.prim), .int .u8 (e.pt : Int), .bool e.dn, .slice ao e.ws.length cp], .int .u16 (m : Int)] W fun r w' => r = .returned (.bool z2) ∧ Below W.heap.size W w') := fun W h => c26 W h.wsx
 have C3 : Hid (∀ W, Eb w b e ao cp W → Calls Tryz.prog 163 #[.agg #[.int .i64 e.k, .int .u32 (e.c : Int), .int .u32 (e.n : Int), .int .u64 (e.sp : Int), .int .u32 (e.sl : Int), .int .u64 (e.ap : Int), .int .u32 (e.al : Int), .int .u64 (e.mp : Int), .int .u32 (e.ml : Int), .string (bs e.prim), .int .u8 (e.pt : Int), .bool e.dn, .slice ao e.ws.length cp]] W fun r w' => r = .returned (.bool z3) ∧ Below W.heap.size W w') := fun W h => c27 W h.wsx
 have C4 : Hid (∀ W, Eb w b e ao cp W → Calls Tryz.prog 164 #[.agg #[.int .i64 e.k, .int .u32 (e.c : Int), .int .u32 (e.n : Int), .int .u64 (e.sp : Int), .int .u32 (e.sl : Int), .int .u64 (e.ap : Int), .int .u32 (e.al : Int), .int .u64 (e.mp : Int), .int .u32 (e.ml : Int), .string (bs e.prim), .int .u8 (e.pt : Int), .bool e.dn, .slice ao e.ws.length cp], .int .u16 (m : Int)] W fun r w' => r = .returned (.bool z4) ∧ Below W.heap.size W w') := fun W h => c28 W h.wsx
 have HM : Hid (((m : Int) != 0) = true) := by show _ = _; simp only [bne_iff_ne, ne_eq]; omega
 clear hm c25 c26 c27 c28
 have p0 := block_cell (j := 0) H1.out.x rfl
 go_enter Tryz.func79, Tryz.ntmps79
 go_wp2_with fail
 refine (C.out (by trivial)).mono ?_
 rintro r wx ⟨rfl, rfl⟩
 clear C p0 hb hW1
 have p0 := block_cell (j := 0) H1.out.x rfl
 have p1 := block_cell (j := 1) H1.out.x rfl
 have p2 := block_cell (j := 2) H1.out.x rfl
 have p3 := block_cell (j := 3) H1.out.x rfl
 have p4 := block_cell (j := 4) H1.out.x rfl
 have p5 := block_cell (j := 5) H1.out.x rfl
 have p6 := block_cell (j := 6) H1.out.x rfl
 have p7 := block_cell (j := 7) H1.out.x rfl
 have p8 := block_cell (j := 8) H1.out.x rfl
 have p9 := block_cell (j := 9) H1.out.x rfl
 have p10 := block_cell (j := 10) H1.out.x rfl
 have p11 := block_cell (j := 11) H1.out.x rfl
 have p12 := block_cell (j := 12) H1.out.x rfl
 go_wp2_with fail
 refine (C1.out W1 H1.out).mono ?_
 rintro r w2 ⟨rfl, hbx⟩
 have H2 : Hid (Eb w b e ao cp w2) := H1.out.on hbx
 clear hbx C1 H1 p0 p1 p2 p3 p4 p5 p6 p7 p8 p9 p10 p11 p12
 cases z1
 ·go_wp2_with fail
  go_ret
  exact ⟨rfl, H2.out.bel⟩
 have p0 := block_cell (j := 0) H2.out.x rfl
 have p1 := block_cell (j := 1) H2.out.x rfl
 have p2 := block_cell (j := 2) H2.out.x rfl
 have p3 := block_cell (j := 3) H2.out.x rfl
 have p4 := block_cell (j := 4) H2.out.x rfl
 have p5 := block_cell (j := 5) H2.out.x rfl
 have p6 := block_cell (j := 6) H2.out.x rfl
 have p7 := block_cell (j := 7) H2.out.x rfl
 have p8 := block_cell (j := 8) H2.out.x rfl
 have p9 := block_cell (j := 9) H2.out.x rfl
 have p10 := block_cell (j := 10) H2.out.x rfl
 have p11 := block_cell (j := 11) H2.out.x rfl
 have p12 := block_cell (j := 12) H2.out.x rfl
 go_wp2_with fail
 refine (C2.out w2 H2.out).mono ?_
 rintro r w3 ⟨rfl, hbx⟩
 have H3 : Hid (Eb w b e ao cp w3) := H2.out.on hbx
 clear hbx C2 H2 p0 p1 p2 p3 p4 p5 p6 p7 p8 p9 p10 p11 p12
 cases z2
 ·go_wp2_with fail
  go_ret
  exact ⟨rfl, H3.out.bel⟩
 have p0 := block_cell (j := 0) H3.out.x rfl
 have p1 := block_cell (j := 1) H3.out.x rfl
 have p2 := block_cell (j := 2) H3.out.x rfl
 have p3 := block_cell (j := 3) H3.out.x rfl
 have p4 := block_cell (j := 4) H3.out.x rfl
 have p5 := block_cell (j := 5) H3.out.x rfl
 have p6 := block_cell (j := 6) H3.out.x rfl
 have p7 := block_cell (j := 7) H3.out.x rfl
 have p8 := block_cell (j := 8) H3.out.x rfl
 have p9 := block_cell (j := 9) H3.out.x rfl
 have p10 := block_cell (j := 10) H3.out.x rfl
 have p11 := block_cell (j := 11) H3.out.x rfl
 have p12 := block_cell (j := 12) H3.out.x rfl
 go_wp2_with fail
 refine (C3.out w3 H3.out).mono ?_
 rintro r w4 ⟨rfl, hbx⟩
 have H4 : Hid (Eb w b e ao cp w4) := H3.out.on hbx
 clear hbx C3 H3 p0 p1 p2 p3 p4 p5 p6 p7 p8 p9 p10 p11 p12
 cases z3
 ·go_wp2_with fail
  go_ret
  exact ⟨rfl, H4.out.bel⟩
 have p0 := block_cell (j := 0) H4.out.x rfl
 have p1 := block_cell (j := 1) H4.out.x rfl
 have p2 := block_cell (j := 2) H4.out.x rfl
 have p3 := block_cell (j := 3) H4.out.x rfl
 have p4 := block_cell (j := 4) H4.out.x rfl
 have p5 := block_cell (j := 5) H4.out.x rfl
 have p6 := block_cell (j := 6) H4.out.x rfl
 have p7 := block_cell (j := 7) H4.out.x rfl
 have p8 := block_cell (j := 8) H4.out.x rfl
 have p9 := block_cell (j := 9) H4.out.x rfl
 have p10 := block_cell (j := 10) H4.out.x rfl
 have p11 := block_cell (j := 11) H4.out.x rfl
 have p12 := block_cell (j := 12) H4.out.x rfl
 go_wp2_with fail
 refine (C4.out w4 H4.out).mono ?_
 rintro r w5 ⟨rfl, hbx⟩
 have H5 : Hid (Eb w b e ao cp w5) := H4.out.on hbx
 clear hbx C4 H4 p0 p1 p2 p3 p4 p5 p6 p7 p8 p9 p10 p11 p12
 go_wp2_with fail
 go_ret
 exact ⟨congrArg (fun b => Ending.returned (.bool b)) (show (((m : Int) != 0) && z4) = z4 from by rw [HM.out]; rfl), H5.out.bel⟩
theorem rt10_1 (c n sp sq ap aq mp mq : Nat) (prim : List UInt8) (pt : Nat) (dn : Bool) (ws : List Wr) (ao : Option Addr) (cp : Nat) (w : World) (hws : WsAt w.heap.size (.slice ao ws.length cp) ws w) :
  Calls Tryz.prog 79 #[.agg #[.int .i64 1, .int .u32 (c : Int), .int .u32 (n : Int), .int .u64 (sp : Int), .int .u32 (sq : Int), .int .u64 (ap : Int), .int .u32 (aq : Int), .int .u64 (mp : Int), .int .u32 (mq : Int), .string (bs prim), .int .u8 (pt : Int), .bool dn, .slice ao ws.length cp]] w fun r w' => r = .returned (.bool (rightE (En.mk 1 c n sp sq ap aq mp mq prim pt dn ws))) ∧ Below w.heap.size w w' := by
 have hR : rightE (En.mk 1 c n sp sq ap aq mp mq prim pt dn ws) = (zeroB (En.mk 1 c n sp sq ap aq mp mq prim pt dn ws) && (!(false && noneAt (En.mk 1 c n sp sq ap aq mp mq prim pt dn ws)) && (rightS sp sq && rightS ap aq && rightS mp mq)) && (!((1 : Int) == 9) || !noneAt (En.mk 1 c n sp sq ap aq mp mq prim pt dn ws) || (pt == 0 && !dn)) && true) := by
  rw [right_plain]
  generalize zeroB (En.mk 1 c n sp sq ap aq mp mq prim pt dn ws) = a
  simp only [kindOk, noneAt]
  generalize (rightS sp sq && rightS ap aq && rightS mp mq) = s
  skip
  skip
  skip
  skip
  cases a <;> cases s <;> rfl
 rw [hR]
 exact rt10 4 (zeroB (En.mk 1 c n sp sq ap aq mp mq prim pt dn ws)) (!(false && noneAt (En.mk 1 c n sp sq ap aq mp mq prim pt dn ws)) && (rightS sp sq && rightS ap aq && rightS mp mq)) (!((1 : Int) == 9) || !noneAt (En.mk 1 c n sp sq ap aq mp mq prim pt dn ws) || (pt == 0 && !dn)) true (En.mk 1 c n sp sq ap aq mp mq prim pt dn ws) ao cp w hws rfl (by decide) (fun W h => no25_1 c n sp sq ap aq mp mq prim pt dn ws ao cp W h) (fun W h => st26 4 false (En.mk 1 c n sp sq ap aq mp mq prim pt dn ws) ao cp W h (fun W _ => has41 4 512 W (by omega) (by omega))) (fun W h => vd27 (En.mk 1 c n sp sq ap aq mp mq prim pt dn ws) ao cp W h) (fun W h => aw28_none 4 (En.mk 1 c n sp sq ap aq mp mq prim pt dn ws) ao cp W h (fun W _ => has41 4 16 W (by omega) (by omega)) (fun W _ => has41 4 256 W (by omega) (by omega)) (fun W _ => has41 4 128 W (by omega) (by omega)))
theorem rt10_2 (c n sp sq ap aq mp mq : Nat) (prim : List UInt8) (pt : Nat) (dn : Bool) (ws : List Wr) (ao : Option Addr) (cp : Nat) (w : World) (hws : WsAt w.heap.size (.slice ao ws.length cp) ws w) :
  Calls Tryz.prog 79 #[.agg #[.int .i64 2, .int .u32 (c : Int), .int .u32 (n : Int), .int .u64 (sp : Int), .int .u32 (sq : Int), .int .u64 (ap : Int), .int .u32 (aq : Int), .int .u64 (mp : Int), .int .u32 (mq : Int), .string (bs prim), .int .u8 (pt : Int), .bool dn, .slice ao ws.length cp]] w fun r w' => r = .returned (.bool (rightE (En.mk 2 c n sp sq ap aq mp mq prim pt dn ws))) ∧ Below w.heap.size w w' := by
 have hR : rightE (En.mk 2 c n sp sq ap aq mp mq prim pt dn ws) = (zeroB (En.mk 2 c n sp sq ap aq mp mq prim pt dn ws) && (!(false && noneAt (En.mk 2 c n sp sq ap aq mp mq prim pt dn ws)) && (rightS sp sq && rightS ap aq && rightS mp mq)) && (!((2 : Int) == 9) || !noneAt (En.mk 2 c n sp sq ap aq mp mq prim pt dn ws) || (pt == 0 && !dn)) && (kOk prim && rightW ws)) := by
  rw [right_plain]
  generalize zeroB (En.mk 2 c n sp sq ap aq mp mq prim pt dn ws) = a
  simp only [kindOk, noneAt]
  generalize (rightS sp sq && rightS ap aq && rightS mp mq) = s
  generalize rightW ws = u
  generalize kOk prim = v
  skip
  skip
  cases a <;> cases s <;> cases u <;> cases v <;> rfl
 rw [hR]
 exact rt10 155 (zeroB (En.mk 2 c n sp sq ap aq mp mq prim pt dn ws)) (!(false && noneAt (En.mk 2 c n sp sq ap aq mp mq prim pt dn ws)) && (rightS sp sq && rightS ap aq && rightS mp mq)) (!((2 : Int) == 9) || !noneAt (En.mk 2 c n sp sq ap aq mp mq prim pt dn ws) || (pt == 0 && !dn)) (kOk prim && rightW ws) (En.mk 2 c n sp sq ap aq mp mq prim pt dn ws) ao cp w hws rfl (by decide) (fun W h => no25_2 c n sp sq ap aq mp mq prim pt dn ws ao cp W h) (fun W h => st26 155 false (En.mk 2 c n sp sq ap aq mp mq prim pt dn ws) ao cp W h (fun W _ => has41 155 512 W (by omega) (by omega))) (fun W h => vd27 (En.mk 2 c n sp sq ap aq mp mq prim pt dn ws) ao cp W h) (fun W h => aw28_lay 155 (En.mk 2 c n sp sq ap aq mp mq prim pt dn ws) ao cp W h (fun W _ => has41 155 16 W (by omega) (by omega)) (fun W _ => has41 155 256 W (by omega) (by omega)) (fun W _ => has41 155 128 W (by omega) (by omega)))
theorem rt10_3 (c n sp sq ap aq mp mq : Nat) (prim : List UInt8) (pt : Nat) (dn : Bool) (ws : List Wr) (ao : Option Addr) (cp : Nat) (w : World) (hws : WsAt w.heap.size (.slice ao ws.length cp) ws w) :
  Calls Tryz.prog 79 #[.agg #[.int .i64 3, .int .u32 (c : Int), .int .u32 (n : Int), .int .u64 (sp : Int), .int .u32 (sq : Int), .int .u64 (ap : Int), .int .u32 (aq : Int), .int .u64 (mp : Int), .int .u32 (mq : Int), .string (bs prim), .int .u8 (pt : Int), .bool dn, .slice ao ws.length cp]] w fun r w' => r = .returned (.bool (rightE (En.mk 3 c n sp sq ap aq mp mq prim pt dn ws))) ∧ Below w.heap.size w w' := by
 have hR : rightE (En.mk 3 c n sp sq ap aq mp mq prim pt dn ws) = (zeroB (En.mk 3 c n sp sq ap aq mp mq prim pt dn ws) && (!(true && noneAt (En.mk 3 c n sp sq ap aq mp mq prim pt dn ws)) && (rightS sp sq && rightS ap aq && rightS mp mq)) && (!((3 : Int) == 9) || !noneAt (En.mk 3 c n sp sq ap aq mp mq prim pt dn ws) || (pt == 0 && !dn)) && true) := by
  rw [right_plain]
  generalize zeroB (En.mk 3 c n sp sq ap aq mp mq prim pt dn ws) = a
  simp only [kindOk, noneAt]
  generalize (rightS sp sq && rightS ap aq && rightS mp mq) = s
  skip
  skip
  generalize (ap == 0 && aq == 0) = o
  skip
  cases a <;> cases s <;> cases o <;> rfl
 rw [hR]
 exact rt10 551 (zeroB (En.mk 3 c n sp sq ap aq mp mq prim pt dn ws)) (!(true && noneAt (En.mk 3 c n sp sq ap aq mp mq prim pt dn ws)) && (rightS sp sq && rightS ap aq && rightS mp mq)) (!((3 : Int) == 9) || !noneAt (En.mk 3 c n sp sq ap aq mp mq prim pt dn ws) || (pt == 0 && !dn)) true (En.mk 3 c n sp sq ap aq mp mq prim pt dn ws) ao cp w hws rfl (by decide) (fun W h => no25_3 c n sp sq ap aq mp mq prim pt dn ws ao cp W h) (fun W h => st26 551 true (En.mk 3 c n sp sq ap aq mp mq prim pt dn ws) ao cp W h (fun W _ => has41 551 512 W (by omega) (by omega))) (fun W h => vd27 (En.mk 3 c n sp sq ap aq mp mq prim pt dn ws) ao cp W h) (fun W h => aw28_none 551 (En.mk 3 c n sp sq ap aq mp mq prim pt dn ws) ao cp W h (fun W _ => has41 551 16 W (by omega) (by omega)) (fun W _ => has41 551 256 W (by omega) (by omega)) (fun W _ => has41 551 128 W (by omega) (by omega)))
theorem right10 : R10 := by
 intro e ao cp w h3 _ _ hws
 obtain ⟨k, c, n, sp, sq, ap, aq, mp, mq, prim, pt, dn, ws⟩ := e
 have hcase : k = 1 ∨ k = 2 ∨ k = 3 := h3
 rcases hcase with rfl | rfl | rfl
 ·exact rt10_1 c n sp sq ap aq mp mq prim pt dn ws ao cp w hws
 ·exact rt10_2 c n sp sq ap aq mp mq prim pt dn ws ao cp w hws
 ·exact rt10_3 c n sp sq ap aq mp mq prim pt dn ws ao cp w hws
end Go.Proofs.YtajjnmdomabmkaaGreat.Ent
namespace Go.Proofs.YtajjnmdomabmkaaGreat.Ent
open Go.RowKit Go.Sort
theorem entryIfe : Ife where
 wr := fun e ao cp w h3 hok hl hws => wp8 right10 e ao cp w h3 hok hl hws
end Go.Proofs.YtajjnmdomabmkaaGreat.Ent
