/-
  The program's Right: nothing where nothing should be.
-/
import Derived.Test.YtmldgfepnmencaaLd
namespace Go.Proofs.Ytmldgfepnmencaa
open Go.RowKit Go.Sort

theorem no_bool {x : Bool} (h : x = true → False) : x = false := by
  cases x with
  | false => rfl
  | true => exact absurd rfl h
theorem q_zero {q : Rq} (g0 : (q.k == 0) = true) (g1 : (q.c == 0 && q.n == 0) = true) (g2 : (q.sp == 0 && q.sl == 0) = true) (g3 : (q.ap == 0 && q.al == 0) = true) (g4 : (bs q.key).toList.isEmpty = true) (g5 : (bs q.to).toList.isEmpty = true) (g6 : (q.lim == 0) = true) (g7 : ((q.pt : Int) == 0) = true) (g8 : ((q.ws.length : Int) == 0) = true) (g9 : ((q.sk.length : Int) == 0) = true) : sameQ q zQ = true := by
  obtain ⟨k, c, n, sp, sl, ap, al, key, tt, lim, pt, ws, sk⟩ := q
  simp only [bs_list, List.isEmpty_iff, Bool.and_eq_true, beq_iff_eq] at g0 g1 g2 g3 g4 g5 g6 g7 g8 g9
  have h8 : ws = [] := List.eq_nil_of_length_eq_zero (by omega)
  have h9 : sk = [] := List.eq_nil_of_length_eq_zero (by omega)
  have h7 : pt = 0 := by omega
  rw [sameQ_iff, zQ, g0, g1.1, g1.2, g2.1, g2.2, g3.1, g3.2, g4, g5, g6, h7, h8, h9]
theorem r_zero {r : Rp} (g0 : (r.k == 0) = true) (g1 : (r.er == 0) = true) (g2 : r.fd = false) (g3 : (bs r.val).toList.isEmpty = true) (g4 : ((r.ps.length : Int) == 0) = true) (g5 : (r.c == 0 && r.n == 0) = true) (g6 : (r.sp == 0 && r.sl == 0) = true) (g7 : (r.ap == 0 && r.al == 0) = true) (g8 : (bs r.prim).toList.isEmpty = true) (g9 : (r.np == 0 && r.nl == 0) = true) : sameR r zR = true := by
  obtain ⟨k, er, fd, val, ps, c, n, sp, sl, ap, al, prim, np, nl⟩ := r
  simp only [bs_list, List.isEmpty_iff, Bool.and_eq_true, beq_iff_eq] at g0 g1 g2 g3 g4 g5 g6 g7 g8 g9
  have h4 : ps = [] := List.eq_nil_of_length_eq_zero (by omega)
  rw [sameR_iff, zR, g0, g1, g2, g3, h4, g5.1, g5.2, g6.1, g6.2, g7.1, g7.2, g8, g9.1, g9.2]
set_option maxHeartbeats 3200000 in
set_option maxRecDepth 100000 in
theorem noask24 (q : Rq) (wa sa : Option Addr) (wc sc : Nat) (w : World) :
    Calls Try.prog 24 #[.agg #[.int .i64 q.k, .int .u32 (q.c : Int), .int .u32 (q.n : Int), .int .u64 (q.sp : Int), .int .u32 (q.sl : Int), .int .u64 (q.ap : Int), .int .u32 (q.al : Int), .string (bs q.key), .string (bs q.to), .int .i64 q.lim, .int .u8 (q.pt : Int), .slice wa q.ws.length wc, .slice sa q.sk.length sc]] w fun e w' => e = .returned (.bool (sameQ q zQ)) ∧ Below w.heap.size w w' := by
  have H0 : Hid _ := bx_new w #[.int .i64 q.k, .int .u32 (q.c : Int), .int .u32 (q.n : Int), .int .u64 (q.sp : Int), .int .u32 (q.sl : Int), .int .u64 (q.ap : Int), .int .u32 (q.al : Int), .string (bs q.key), .string (bs q.to), .int .i64 q.lim, .int .u8 (q.pt : Int), .slice wa q.ws.length wc, .slice sa q.sk.length sc] 31
  obtain ⟨W1, hW1⟩ : ∃ W1, w.alloc (.cells #[.int .i64 q.k, .int .u32 (q.c : Int), .int .u32 (q.n : Int), .int .u64 (q.sp : Int), .int .u32 (q.sl : Int), .int .u64 (q.ap : Int), .int .u32 (q.al : Int), .string (bs q.key), .string (bs q.to), .int .i64 q.lim, .int .u8 (q.pt : Int), .slice wa q.ws.length wc, .slice sa q.sk.length sc] 31) = W1 := ⟨_, rfl⟩
  obtain ⟨b, hb⟩ : ∃ b, w.heap.size = b := ⟨_, rfl⟩
  have H1 : Hid (Bx w b #[.int .i64 q.k, .int .u32 (q.c : Int), .int .u32 (q.n : Int), .int .u64 (q.sp : Int), .int .u32 (q.sl : Int), .int .u64 (q.ap : Int), .int .u32 (q.al : Int), .string (bs q.key), .string (bs q.to), .int .i64 q.lim, .int .u8 (q.pt : Int), .slice wa q.ws.length wc, .slice sa q.sk.length sc] 31 W1) := by rw [← hb, ← hW1]; exact H0.out
  clear H0
  have p0 : W1.cell? ⟨b, 0, none⟩ = some (.int .i64 q.k) := block_cell H1.out.x rfl
  have p1 : W1.cell? ⟨b, 1, none⟩ = some (.int .u32 (q.c : Int)) := block_cell H1.out.x rfl
  have p2 : W1.cell? ⟨b, 2, none⟩ = some (.int .u32 (q.n : Int)) := block_cell H1.out.x rfl
  have p3 : W1.cell? ⟨b, 3, none⟩ = some (.int .u64 (q.sp : Int)) := block_cell H1.out.x rfl
  have p4 : W1.cell? ⟨b, 4, none⟩ = some (.int .u32 (q.sl : Int)) := block_cell H1.out.x rfl
  have p5 : W1.cell? ⟨b, 5, none⟩ = some (.int .u64 (q.ap : Int)) := block_cell H1.out.x rfl
  have p6 : W1.cell? ⟨b, 6, none⟩ = some (.int .u32 (q.al : Int)) := block_cell H1.out.x rfl
  have p7 : W1.cell? ⟨b, 7, none⟩ = some (.string (bs q.key)) := block_cell H1.out.x rfl
  have p8 : W1.cell? ⟨b, 8, none⟩ = some (.string (bs q.to)) := block_cell H1.out.x rfl
  have p9 : W1.cell? ⟨b, 9, none⟩ = some (.int .i64 q.lim) := block_cell H1.out.x rfl
  have p10 : W1.cell? ⟨b, 10, none⟩ = some (.int .u8 (q.pt : Int)) := block_cell H1.out.x rfl
  have p11 : W1.cell? ⟨b, 11, none⟩ = some (.slice wa q.ws.length wc) := block_cell H1.out.x rfl
  have p12 : W1.cell? ⟨b, 12, none⟩ = some (.slice sa q.sk.length sc) := block_cell H1.out.x rfl
  obtain ⟨q0, hq0⟩ : ∃ x, (q.k == 0) = x := ⟨_, rfl⟩
  have HQ0 : Hid ((q.k == 0) = q0) := hq0
  cases q0
  · skip
    go_enter Try.func24, Try.ntmps24
    (try simp only [List.append_eq, List.cons_append, List.nil_append])
    go_wp2_with fail
    go_ret
    exact ⟨ret_bool ((no_bool (fun h => by have h := sameQ_iff.1 h; have g := HQ0.out; rw [h] at g; revert g; first | decide | simp [zQ, bs_nil_empty])).symm), by first | exact H1.out.bel | exact al _⟩
  obtain ⟨q1, hq1⟩ : ∃ x, (q.c == 0 && q.n == 0) = x := ⟨_, rfl⟩
  have E1 : ∀ W : World, (binOp .eql 24 (.agg #[.int .u32 (q.c : Int), .int .u32 (q.n : Int)]) (.agg #[.int .u32 0, .int .u32 0])).run Try.prog W = .ok (.bool q1) W := fun W => by rw [← hq1]; exact run_eql24 q.c q.n 0 0 W
  have HQ1 : Hid ((q.c == 0 && q.n == 0) = q1) := hq1
  clear hq1
  cases q1
  · skip
    go_enter Try.func24, Try.ntmps24
    (try simp only [List.append_eq, List.cons_append, List.nil_append])
    go_wp2_with fail
    go_ret
    exact ⟨ret_bool ((no_bool (fun h => by have h := sameQ_iff.1 h; have g := HQ1.out; rw [h] at g; revert g; first | decide | simp [zQ, bs_nil_empty])).symm), by first | exact H1.out.bel | exact al _⟩
  obtain ⟨q2, hq2⟩ : ∃ x, (q.sp == 0 && q.sl == 0) = x := ⟨_, rfl⟩
  have E2 : ∀ W : World, (binOp .eql 27 (.agg #[.int .u64 (q.sp : Int), .int .u32 (q.sl : Int)]) (.agg #[.int .u64 0, .int .u32 0])).run Try.prog W = .ok (.bool q2) W := fun W => by rw [← hq2]; exact run_eql27 q.sp q.sl 0 0 W
  have HQ2 : Hid ((q.sp == 0 && q.sl == 0) = q2) := hq2
  clear hq2
  cases q2
  · skip
    go_enter Try.func24, Try.ntmps24
    (try simp only [List.append_eq, List.cons_append, List.nil_append])
    go_wp2_with fail
    go_ret
    exact ⟨ret_bool ((no_bool (fun h => by have h := sameQ_iff.1 h; have g := HQ2.out; rw [h] at g; revert g; first | decide | simp [zQ, bs_nil_empty])).symm), by first | exact H1.out.bel | exact al _⟩
  obtain ⟨q3, hq3⟩ : ∃ x, (q.ap == 0 && q.al == 0) = x := ⟨_, rfl⟩
  have E3 : ∀ W : World, (binOp .eql 27 (.agg #[.int .u64 (q.ap : Int), .int .u32 (q.al : Int)]) (.agg #[.int .u64 0, .int .u32 0])).run Try.prog W = .ok (.bool q3) W := fun W => by rw [← hq3]; exact run_eql27 q.ap q.al 0 0 W
  have HQ3 : Hid ((q.ap == 0 && q.al == 0) = q3) := hq3
  clear hq3
  cases q3
  · skip
    go_enter Try.func24, Try.ntmps24
    (try simp only [List.append_eq, List.cons_append, List.nil_append])
    go_wp2_with fail
    go_ret
    exact ⟨ret_bool ((no_bool (fun h => by have h := sameQ_iff.1 h; have g := HQ3.out; rw [h] at g; revert g; first | decide | simp [zQ, bs_nil_empty])).symm), by first | exact H1.out.bel | exact al _⟩
  obtain ⟨q4, hq4⟩ : ∃ x, (bs q.key).toList.isEmpty = x := ⟨_, rfl⟩
  have HQ4 : Hid ((bs q.key).toList.isEmpty = q4) := hq4
  cases q4
  · skip
    go_enter Try.func24, Try.ntmps24
    (try simp only [List.append_eq, List.cons_append, List.nil_append])
    go_wp2_with fail
    go_ret
    exact ⟨ret_bool ((no_bool (fun h => by have h := sameQ_iff.1 h; have g := HQ4.out; rw [h] at g; revert g; first | decide | simp [zQ, bs_nil_empty])).symm), by first | exact H1.out.bel | exact al _⟩
  obtain ⟨q5, hq5⟩ : ∃ x, (bs q.to).toList.isEmpty = x := ⟨_, rfl⟩
  have HQ5 : Hid ((bs q.to).toList.isEmpty = q5) := hq5
  cases q5
  · skip
    go_enter Try.func24, Try.ntmps24
    (try simp only [List.append_eq, List.cons_append, List.nil_append])
    go_wp2_with fail
    go_ret
    exact ⟨ret_bool ((no_bool (fun h => by have h := sameQ_iff.1 h; have g := HQ5.out; rw [h] at g; revert g; first | decide | simp [zQ, bs_nil_empty])).symm), by first | exact H1.out.bel | exact al _⟩
  obtain ⟨q6, hq6⟩ : ∃ x, (q.lim == 0) = x := ⟨_, rfl⟩
  have HQ6 : Hid ((q.lim == 0) = q6) := hq6
  cases q6
  · skip
    go_enter Try.func24, Try.ntmps24
    (try simp only [List.append_eq, List.cons_append, List.nil_append])
    go_wp2_with fail
    go_ret
    exact ⟨ret_bool ((no_bool (fun h => by have h := sameQ_iff.1 h; have g := HQ6.out; rw [h] at g; revert g; first | decide | simp [zQ, bs_nil_empty])).symm), by first | exact H1.out.bel | exact al _⟩
  obtain ⟨q7, hq7⟩ : ∃ x, ((q.pt : Int) == 0) = x := ⟨_, rfl⟩
  have HQ7 : Hid (((q.pt : Int) == 0) = q7) := hq7
  cases q7
  · skip
    go_enter Try.func24, Try.ntmps24
    (try simp only [List.append_eq, List.cons_append, List.nil_append])
    go_wp2_with fail
    go_ret
    exact ⟨ret_bool ((no_bool (fun h => by have h := sameQ_iff.1 h; have g := HQ7.out; rw [h] at g; revert g; first | decide | simp [zQ, bs_nil_empty])).symm), by first | exact H1.out.bel | exact al _⟩
  obtain ⟨q8, hq8⟩ : ∃ x, ((q.ws.length : Int) == 0) = x := ⟨_, rfl⟩
  have HQ8 : Hid (((q.ws.length : Int) == 0) = q8) := hq8
  cases q8
  · skip
    go_enter Try.func24, Try.ntmps24
    (try simp only [List.append_eq, List.cons_append, List.nil_append])
    go_wp2_with fail
    go_ret
    exact ⟨ret_bool ((no_bool (fun h => by have h := sameQ_iff.1 h; have g := HQ8.out; rw [h] at g; revert g; first | decide | simp [zQ, bs_nil_empty])).symm), by first | exact H1.out.bel | exact al _⟩
  obtain ⟨q9, hq9⟩ : ∃ x, ((q.sk.length : Int) == 0) = x := ⟨_, rfl⟩
  have HQ9 : Hid (((q.sk.length : Int) == 0) = q9) := hq9
  cases q9
  · skip
    go_enter Try.func24, Try.ntmps24
    (try simp only [List.append_eq, List.cons_append, List.nil_append])
    go_wp2_with fail
    go_ret
    exact ⟨ret_bool ((no_bool (fun h => by have h := sameQ_iff.1 h; have g := HQ9.out; rw [h] at g; revert g; first | decide | simp [zQ, bs_nil_empty])).symm), by first | exact H1.out.bel | exact al _⟩
  go_enter Try.func24, Try.ntmps24
  (try simp only [List.append_eq, List.cons_append, List.nil_append])
  go_wp2_with fail
  go_ret
  exact ⟨ret_bool ((q_zero HQ0.out HQ1.out HQ2.out HQ3.out HQ4.out HQ5.out HQ6.out HQ7.out HQ8.out HQ9.out).symm), by first | exact H1.out.bel | exact al _⟩
set_option maxHeartbeats 3200000 in
set_option maxRecDepth 100000 in
theorem noreply26 (r : Rp) (pa : Option Addr) (pc : Nat) (w : World) :
    Calls Try.prog 26 #[.agg #[.int .i64 r.k, .int .i64 r.er, .bool r.fd, .string (bs r.val), .slice pa r.ps.length pc, .int .u32 (r.c : Int), .int .u32 (r.n : Int), .int .u64 (r.sp : Int), .int .u32 (r.sl : Int), .int .u64 (r.ap : Int), .int .u32 (r.al : Int), .string (bs r.prim), .int .u64 (r.np : Int), .int .u32 (r.nl : Int)]] w fun e w' => e = .returned (.bool (sameR r zR)) ∧ Below w.heap.size w w' := by
  have H0 : Hid _ := bx_new w #[.int .i64 r.k, .int .i64 r.er, .bool r.fd, .string (bs r.val), .slice pa r.ps.length pc, .int .u32 (r.c : Int), .int .u32 (r.n : Int), .int .u64 (r.sp : Int), .int .u32 (r.sl : Int), .int .u64 (r.ap : Int), .int .u32 (r.al : Int), .string (bs r.prim), .int .u64 (r.np : Int), .int .u32 (r.nl : Int)] 35
  obtain ⟨W1, hW1⟩ : ∃ W1, w.alloc (.cells #[.int .i64 r.k, .int .i64 r.er, .bool r.fd, .string (bs r.val), .slice pa r.ps.length pc, .int .u32 (r.c : Int), .int .u32 (r.n : Int), .int .u64 (r.sp : Int), .int .u32 (r.sl : Int), .int .u64 (r.ap : Int), .int .u32 (r.al : Int), .string (bs r.prim), .int .u64 (r.np : Int), .int .u32 (r.nl : Int)] 35) = W1 := ⟨_, rfl⟩
  obtain ⟨b, hb⟩ : ∃ b, w.heap.size = b := ⟨_, rfl⟩
  have H1 : Hid (Bx w b #[.int .i64 r.k, .int .i64 r.er, .bool r.fd, .string (bs r.val), .slice pa r.ps.length pc, .int .u32 (r.c : Int), .int .u32 (r.n : Int), .int .u64 (r.sp : Int), .int .u32 (r.sl : Int), .int .u64 (r.ap : Int), .int .u32 (r.al : Int), .string (bs r.prim), .int .u64 (r.np : Int), .int .u32 (r.nl : Int)] 35 W1) := by rw [← hb, ← hW1]; exact H0.out
  clear H0
  have p0 : W1.cell? ⟨b, 0, none⟩ = some (.int .i64 r.k) := block_cell H1.out.x rfl
  have p1 : W1.cell? ⟨b, 1, none⟩ = some (.int .i64 r.er) := block_cell H1.out.x rfl
  have p2 : W1.cell? ⟨b, 2, none⟩ = some (.bool r.fd) := block_cell H1.out.x rfl
  have p3 : W1.cell? ⟨b, 3, none⟩ = some (.string (bs r.val)) := block_cell H1.out.x rfl
  have p4 : W1.cell? ⟨b, 4, none⟩ = some (.slice pa r.ps.length pc) := block_cell H1.out.x rfl
  have p5 : W1.cell? ⟨b, 5, none⟩ = some (.int .u32 (r.c : Int)) := block_cell H1.out.x rfl
  have p6 : W1.cell? ⟨b, 6, none⟩ = some (.int .u32 (r.n : Int)) := block_cell H1.out.x rfl
  have p7 : W1.cell? ⟨b, 7, none⟩ = some (.int .u64 (r.sp : Int)) := block_cell H1.out.x rfl
  have p8 : W1.cell? ⟨b, 8, none⟩ = some (.int .u32 (r.sl : Int)) := block_cell H1.out.x rfl
  have p9 : W1.cell? ⟨b, 9, none⟩ = some (.int .u64 (r.ap : Int)) := block_cell H1.out.x rfl
  have p10 : W1.cell? ⟨b, 10, none⟩ = some (.int .u32 (r.al : Int)) := block_cell H1.out.x rfl
  have p11 : W1.cell? ⟨b, 11, none⟩ = some (.string (bs r.prim)) := block_cell H1.out.x rfl
  have p12 : W1.cell? ⟨b, 12, none⟩ = some (.int .u64 (r.np : Int)) := block_cell H1.out.x rfl
  have p13 : W1.cell? ⟨b, 13, none⟩ = some (.int .u32 (r.nl : Int)) := block_cell H1.out.x rfl
  obtain ⟨q0, hq0⟩ : ∃ x, (r.k == 0) = x := ⟨_, rfl⟩
  have HQ0 : Hid ((r.k == 0) = q0) := hq0
  cases q0
  · skip
    go_enter Try.func26, Try.ntmps26
    (try simp only [List.append_eq, List.cons_append, List.nil_append])
    go_wp2_with fail
    go_ret
    exact ⟨ret_bool ((no_bool (fun h => by have h := sameR_iff.1 h; have g := HQ0.out; rw [h] at g; revert g; first | decide | simp [zR, bs_nil_empty])).symm), by first | exact H1.out.bel | exact al _⟩
  obtain ⟨q1, hq1⟩ : ∃ x, (r.er == 0) = x := ⟨_, rfl⟩
  have HQ1 : Hid ((r.er == 0) = q1) := hq1
  cases q1
  · skip
    go_enter Try.func26, Try.ntmps26
    (try simp only [List.append_eq, List.cons_append, List.nil_append])
    go_wp2_with fail
    go_ret
    exact ⟨ret_bool ((no_bool (fun h => by have h := sameR_iff.1 h; have g := HQ1.out; rw [h] at g; revert g; first | decide | simp [zR, bs_nil_empty])).symm), by first | exact H1.out.bel | exact al _⟩
  obtain ⟨q2, hq2⟩ : ∃ x, r.fd = x := ⟨_, rfl⟩
  have HQ2 : Hid (r.fd = q2) := hq2
  cases q2
  rotate_left
  · skip
    go_enter Try.func26, Try.ntmps26
    (try simp only [List.append_eq, List.cons_append, List.nil_append])
    go_wp2_with fail
    go_ret
    exact ⟨ret_bool ((no_bool (fun h => by have h := sameR_iff.1 h; have g := HQ2.out; rw [h] at g; revert g; first | decide | simp [zR, bs_nil_empty])).symm), by first | exact H1.out.bel | exact al _⟩
  obtain ⟨q3, hq3⟩ : ∃ x, (bs r.val).toList.isEmpty = x := ⟨_, rfl⟩
  have HQ3 : Hid ((bs r.val).toList.isEmpty = q3) := hq3
  cases q3
  · skip
    go_enter Try.func26, Try.ntmps26
    (try simp only [List.append_eq, List.cons_append, List.nil_append])
    go_wp2_with fail
    go_ret
    exact ⟨ret_bool ((no_bool (fun h => by have h := sameR_iff.1 h; have g := HQ3.out; rw [h] at g; revert g; first | decide | simp [zR, bs_nil_empty])).symm), by first | exact H1.out.bel | exact al _⟩
  obtain ⟨q4, hq4⟩ : ∃ x, ((r.ps.length : Int) == 0) = x := ⟨_, rfl⟩
  have HQ4 : Hid (((r.ps.length : Int) == 0) = q4) := hq4
  cases q4
  · skip
    go_enter Try.func26, Try.ntmps26
    (try simp only [List.append_eq, List.cons_append, List.nil_append])
    go_wp2_with fail
    go_ret
    exact ⟨ret_bool ((no_bool (fun h => by have h := sameR_iff.1 h; have g := HQ4.out; rw [h] at g; revert g; first | decide | simp [zR, bs_nil_empty])).symm), by first | exact H1.out.bel | exact al _⟩
  obtain ⟨q5, hq5⟩ : ∃ x, (r.c == 0 && r.n == 0) = x := ⟨_, rfl⟩
  have E5 : ∀ W : World, (binOp .eql 24 (.agg #[.int .u32 (r.c : Int), .int .u32 (r.n : Int)]) (.agg #[.int .u32 0, .int .u32 0])).run Try.prog W = .ok (.bool q5) W := fun W => by rw [← hq5]; exact run_eql24 r.c r.n 0 0 W
  have HQ5 : Hid ((r.c == 0 && r.n == 0) = q5) := hq5
  clear hq5
  cases q5
  · skip
    go_enter Try.func26, Try.ntmps26
    (try simp only [List.append_eq, List.cons_append, List.nil_append])
    go_wp2_with fail
    go_ret
    exact ⟨ret_bool ((no_bool (fun h => by have h := sameR_iff.1 h; have g := HQ5.out; rw [h] at g; revert g; first | decide | simp [zR, bs_nil_empty])).symm), by first | exact H1.out.bel | exact al _⟩
  obtain ⟨q6, hq6⟩ : ∃ x, (r.sp == 0 && r.sl == 0) = x := ⟨_, rfl⟩
  have E6 : ∀ W : World, (binOp .eql 27 (.agg #[.int .u64 (r.sp : Int), .int .u32 (r.sl : Int)]) (.agg #[.int .u64 0, .int .u32 0])).run Try.prog W = .ok (.bool q6) W := fun W => by rw [← hq6]; exact run_eql27 r.sp r.sl 0 0 W
  have HQ6 : Hid ((r.sp == 0 && r.sl == 0) = q6) := hq6
  clear hq6
  cases q6
  · skip
    go_enter Try.func26, Try.ntmps26
    (try simp only [List.append_eq, List.cons_append, List.nil_append])
    go_wp2_with fail
    go_ret
    exact ⟨ret_bool ((no_bool (fun h => by have h := sameR_iff.1 h; have g := HQ6.out; rw [h] at g; revert g; first | decide | simp [zR, bs_nil_empty])).symm), by first | exact H1.out.bel | exact al _⟩
  obtain ⟨q7, hq7⟩ : ∃ x, (r.ap == 0 && r.al == 0) = x := ⟨_, rfl⟩
  have E7 : ∀ W : World, (binOp .eql 27 (.agg #[.int .u64 (r.ap : Int), .int .u32 (r.al : Int)]) (.agg #[.int .u64 0, .int .u32 0])).run Try.prog W = .ok (.bool q7) W := fun W => by rw [← hq7]; exact run_eql27 r.ap r.al 0 0 W
  have HQ7 : Hid ((r.ap == 0 && r.al == 0) = q7) := hq7
  clear hq7
  cases q7
  · skip
    go_enter Try.func26, Try.ntmps26
    (try simp only [List.append_eq, List.cons_append, List.nil_append])
    go_wp2_with fail
    go_ret
    exact ⟨ret_bool ((no_bool (fun h => by have h := sameR_iff.1 h; have g := HQ7.out; rw [h] at g; revert g; first | decide | simp [zR, bs_nil_empty])).symm), by first | exact H1.out.bel | exact al _⟩
  obtain ⟨q8, hq8⟩ : ∃ x, (bs r.prim).toList.isEmpty = x := ⟨_, rfl⟩
  have HQ8 : Hid ((bs r.prim).toList.isEmpty = q8) := hq8
  cases q8
  · skip
    go_enter Try.func26, Try.ntmps26
    (try simp only [List.append_eq, List.cons_append, List.nil_append])
    go_wp2_with fail
    go_ret
    exact ⟨ret_bool ((no_bool (fun h => by have h := sameR_iff.1 h; have g := HQ8.out; rw [h] at g; revert g; first | decide | simp [zR, bs_nil_empty])).symm), by first | exact H1.out.bel | exact al _⟩
  obtain ⟨q9, hq9⟩ : ∃ x, (r.np == 0 && r.nl == 0) = x := ⟨_, rfl⟩
  have E9 : ∀ W : World, (binOp .eql 27 (.agg #[.int .u64 (r.np : Int), .int .u32 (r.nl : Int)]) (.agg #[.int .u64 0, .int .u32 0])).run Try.prog W = .ok (.bool q9) W := fun W => by rw [← hq9]; exact run_eql27 r.np r.nl 0 0 W
  have HQ9 : Hid ((r.np == 0 && r.nl == 0) = q9) := hq9
  clear hq9
  cases q9
  · skip
    go_enter Try.func26, Try.ntmps26
    (try simp only [List.append_eq, List.cons_append, List.nil_append])
    go_wp2_with fail
    go_ret
    exact ⟨ret_bool ((no_bool (fun h => by have h := sameR_iff.1 h; have g := HQ9.out; rw [h] at g; revert g; first | decide | simp [zR, bs_nil_empty])).symm), by first | exact H1.out.bel | exact al _⟩
  go_enter Try.func26, Try.ntmps26
  (try simp only [List.append_eq, List.cons_append, List.nil_append])
  go_wp2_with fail
  go_ret
  exact ⟨ret_bool ((r_zero HQ0.out HQ1.out HQ2.out HQ3.out HQ4.out HQ5.out HQ6.out HQ7.out HQ8.out HQ9.out).symm), by first | exact H1.out.bel | exact al _⟩
end Go.Proofs.Ytmldgfepnmencaa
