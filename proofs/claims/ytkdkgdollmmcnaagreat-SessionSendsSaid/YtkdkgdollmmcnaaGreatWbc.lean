import Derived.Test.YtkdkgdollmmcnaaGreatWae
set_option maxHeartbeats 4000000
set_option maxRecDepth 100000
set_option linter.unusedVariables false
set_option linter.unusedSimpArgs false
namespace Go.Proofs.YtkdkgdollmmcnaaGreat
theorem bs_nil_empty : bs [] = ⟨#[]⟩ := rfl
open Go.RowKit Go.Sort
theorem no_bool {x : Bool} (h : x = true → False) : x = false := by
 cases x with
 | false => rfl
 | true => exact absurd rfl h
theorem q_zero {q : Rq} (g0 : (q.k == 0) = true) (g1 : (q.c == 0 && q.n == 0) = true) (g2 : (q.sp == 0 && q.sl == 0) = true) (g3 : (q.ap == 0 && q.al == 0) = true) (g4 : (bs q.key).toList.isEmpty = true) (g5 : (bs q.to).toList.isEmpty = true) (g6 : (q.lim == 0) = true) (g7 : ((q.pt : Int) == 0) = true) (g8 : ((q.ws.length : Int) == 0) = true) (g9 : ((q.sk.length : Int) == 0) = true) : sameQ q zQ = true := by
 obtain ⟨k, c, n, sp, sl, ap, al, key, tt, lim, pt, ws, sk⟩ := q
 simp only [bs_list, List.isEmpty_iff, Bool.and_eq_true, beq_iff_eq] at g0 g1 g2 g3 g4 g5 g6 g7 g8 g9
 have h8 : ws = [] := List.eq_nil_of_length_eq_zero (by omega)
 have h9 : sk = [] := List.eq_nil_of_length_eq_zero (by omega)
 have h7 : pt = 0 := by omega
 rw [sameQ_iff, zQ, g0, g1.1, g1.2, g2.1, g2.2, g3.1, g3.2, g4, g5, g6, h7, h8, h9]
theorem r_zero {r : Rp} (g0 : (r.k == 0) = true) (g1 : (r.er == 0) = true) (g2 : r.fd = false) (g3 : (bs r.val).toList.isEmpty = true) (g4 : ((r.ps.length : Int) == 0) = true) (g5 : (r.c == 0 && r.n == 0) = true) (g6 : (r.sp == 0 && r.sl == 0) = true) (g7 : (r.ap == 0 && r.al == 0) = true) (g8 : (bs r.prim).toList.isEmpty = true) (g9 : (r.np == 0 && r.nl == 0) = true) : sameR r zR = true := by
 obtain ⟨k, er, fd, val, ps, c, n, sp, sl, ap, al, prim, np, nl⟩ := r
 simp only [bs_list, List.isEmpty_iff, Bool.and_eq_true, beq_iff_eq] at g0 g1 g2 g3 g4 g5 g6 g7 g8 g9
 have h4 : ps = [] := List.eq_nil_of_length_eq_zero (by omega)
 rw [sameR_iff, zR, g0, g1, g2, g3, h4, g5.1, g5.2, g6.1, g6.2, g7.1, g7.2, g8, g9.1, g9.2]
theorem noask24 (q : Rq) (wa sa : Option Addr) (wc sc : Nat) (w : World) :
  Calls Tryz.prog 68 #[.agg #[iw q.k, uu q.c, uu q.n, uw q.sp, uu q.sl, uw q.ap, uu q.al, sd q.key, sd q.to, iw q.lim, .int .u8 (q.pt : Int), .slice wa q.ws.length wc, .slice sa q.sk.length sc]] w fun e w' => e = .returned (.bool (sameQ q zQ)) ∧ Below w.heap.size w w' := by
 have H0 : Hid _ := bx_new w #[iw q.k, uu q.c, uu q.n, uw q.sp, uu q.sl, uw q.ap, uu q.al, sd q.key, sd q.to, iw q.lim, .int .u8 (q.pt : Int), .slice wa q.ws.length wc, .slice sa q.sk.length sc] 53
 obtain ⟨W1, hW1⟩ := xj (w.alloc (.cells #[iw q.k, uu q.c, uu q.n, uw q.sp, uu q.sl, uw q.ap, uu q.al, sd q.key, sd q.to, iw q.lim, .int .u8 (q.pt : Int), .slice wa q.ws.length wc, .slice sa q.sk.length sc] 53))
 obtain ⟨b, hb⟩ := xj w.heap.size
 have H1 : Hid (Bx w b #[iw q.k, uu q.c, uu q.n, uw q.sp, uu q.sl, uw q.ap, uu q.al, sd q.key, sd q.to, iw q.lim, .int .u8 (q.pt : Int), .slice wa q.ws.length wc, .slice sa q.sk.length sc] 53 W1) := by rw [← hb, ← hW1]; exact H0.out
 clear H0
 have p0 : W1.cell? ⟨b, 0, none⟩ = some (iw q.k) := block_cell H1.out.x rfl
 have p1 : W1.cell? ⟨b, 1, none⟩ = some (uu q.c) := block_cell H1.out.x rfl
 have p2 : W1.cell? ⟨b, 2, none⟩ = some (uu q.n) := block_cell H1.out.x rfl
 have p3 : W1.cell? ⟨b, 3, none⟩ = some (uw q.sp) := block_cell H1.out.x rfl
 have p4 : W1.cell? ⟨b, 4, none⟩ = some (uu q.sl) := block_cell H1.out.x rfl
 have p5 : W1.cell? ⟨b, 5, none⟩ = some (uw q.ap) := block_cell H1.out.x rfl
 have p6 : W1.cell? ⟨b, 6, none⟩ = some (uu q.al) := block_cell H1.out.x rfl
 have p7 : W1.cell? ⟨b, 7, none⟩ = some (sd q.key) := block_cell H1.out.x rfl
 have p8 : W1.cell? ⟨b, 8, none⟩ = some (sd q.to) := block_cell H1.out.x rfl
 have p9 : W1.cell? ⟨b, 9, none⟩ = some (iw q.lim) := block_cell H1.out.x rfl
 have p10 : W1.cell? ⟨b, 10, none⟩ = some (.int .u8 (q.pt : Int)) := block_cell H1.out.x rfl
 have p11 : W1.cell? ⟨b, 11, none⟩ = some (.slice wa q.ws.length wc) := block_cell H1.out.x rfl
 have p12 : W1.cell? ⟨b, 12, none⟩ = some (.slice sa q.sk.length sc) := block_cell H1.out.x rfl
 obtain ⟨q0, hq0⟩ := xj (q.k == 0)
 have HQ0 : Hid ((q.k == 0) = q0) := hq0
 cases q0
 ·skip
  go_enter Tryz.func68, Tryz.ntmps68
  (try simp only [List.append_eq, List.cons_append, List.nil_append])
  go_wp2_with fail
  go_ret
  exact ⟨ret_bool ((no_bool (fun h => by have h := sameQ_iff.1 h; have g := HQ0.out; rw [h] at g; revert g; first | decide | simp [zQ, bs_nil_empty])).symm), by first | exact H1.out.bel | exact al _⟩
 obtain ⟨q1, hq1⟩ := xj (q.c == 0 && q.n == 0)
 have E1 : ∀ W : World, (binOp .eql 38 (.agg #[uu q.c, uu q.n]) (.agg #[.int .u32 0, .int .u32 0])).run Tryz.prog W = .ok (.bool q1) W := fun W => by rw [← hq1]; exact run_eql24 q.c q.n 0 0 W
 have HQ1 : Hid ((q.c == 0 && q.n == 0) = q1) := hq1
 clear hq1
 cases q1
 ·skip
  go_enter Tryz.func68, Tryz.ntmps68
  (try simp only [List.append_eq, List.cons_append, List.nil_append])
  go_wp2_with fail
  go_ret
  exact ⟨ret_bool ((no_bool (fun h => by have h := sameQ_iff.1 h; have g := HQ1.out; rw [h] at g; revert g; first | decide | simp [zQ, bs_nil_empty])).symm), by first | exact H1.out.bel | exact al _⟩
 obtain ⟨q2, hq2⟩ := xj (q.sp == 0 && q.sl == 0)
 have E2 : ∀ W : World, (binOp .eql 34 (.agg #[uw q.sp, uu q.sl]) (.agg #[.int .u64 0, .int .u32 0])).run Tryz.prog W = .ok (.bool q2) W := fun W => by rw [← hq2]; exact run_eql27 q.sp q.sl 0 0 W
 have HQ2 : Hid ((q.sp == 0 && q.sl == 0) = q2) := hq2
 clear hq2
 cases q2
 ·skip
  go_enter Tryz.func68, Tryz.ntmps68
  (try simp only [List.append_eq, List.cons_append, List.nil_append])
  go_wp2_with fail
  go_ret
  exact ⟨ret_bool ((no_bool (fun h => by have h := sameQ_iff.1 h; have g := HQ2.out; rw [h] at g; revert g; first | decide | simp [zQ, bs_nil_empty])).symm), by first | exact H1.out.bel | exact al _⟩
 obtain ⟨q3, hq3⟩ := xj (q.ap == 0 && q.al == 0)
 have E3 : ∀ W : World, (binOp .eql 34 (.agg #[uw q.ap, uu q.al]) (.agg #[.int .u64 0, .int .u32 0])).run Tryz.prog W = .ok (.bool q3) W := fun W => by rw [← hq3]; exact run_eql27 q.ap q.al 0 0 W
 have HQ3 : Hid ((q.ap == 0 && q.al == 0) = q3) := hq3
 clear hq3
 cases q3
 ·skip
  go_enter Tryz.func68, Tryz.ntmps68
  (try simp only [List.append_eq, List.cons_append, List.nil_append])
  go_wp2_with fail
  go_ret
  exact ⟨ret_bool ((no_bool (fun h => by have h := sameQ_iff.1 h; have g := HQ3.out; rw [h] at g; revert g; first | decide | simp [zQ, bs_nil_empty])).symm), by first | exact H1.out.bel | exact al _⟩
 obtain ⟨q4, hq4⟩ := xj (bs q.key).toList.isEmpty
 have HQ4 : Hid ((bs q.key).toList.isEmpty = q4) := hq4
 cases q4
 ·skip
  go_enter Tryz.func68, Tryz.ntmps68
  (try simp only [List.append_eq, List.cons_append, List.nil_append])
  go_wp2_with fail
  go_ret
  exact ⟨ret_bool ((no_bool (fun h => by have h := sameQ_iff.1 h; have g := HQ4.out; rw [h] at g; revert g; first | decide | simp [zQ, bs_nil_empty])).symm), by first | exact H1.out.bel | exact al _⟩
 obtain ⟨q5, hq5⟩ := xj (bs q.to).toList.isEmpty
 have HQ5 : Hid ((bs q.to).toList.isEmpty = q5) := hq5
 cases q5
 ·skip
  go_enter Tryz.func68, Tryz.ntmps68
  (try simp only [List.append_eq, List.cons_append, List.nil_append])
  go_wp2_with fail
  go_ret
  exact ⟨ret_bool ((no_bool (fun h => by have h := sameQ_iff.1 h; have g := HQ5.out; rw [h] at g; revert g; first | decide | simp [zQ, bs_nil_empty])).symm), by first | exact H1.out.bel | exact al _⟩
 obtain ⟨q6, hq6⟩ := xj (q.lim == 0)
 have HQ6 : Hid ((q.lim == 0) = q6) := hq6
 cases q6
 ·skip
  go_enter Tryz.func68, Tryz.ntmps68
  (try simp only [List.append_eq, List.cons_append, List.nil_append])
  go_wp2_with fail
  go_ret
  exact ⟨ret_bool ((no_bool (fun h => by have h := sameQ_iff.1 h; have g := HQ6.out; rw [h] at g; revert g; first | decide | simp [zQ, bs_nil_empty])).symm), by first | exact H1.out.bel | exact al _⟩
 obtain ⟨q7, hq7⟩ := xj ((q.pt : Int) == 0)
 have HQ7 : Hid (((q.pt : Int) == 0) = q7) := hq7
 cases q7
 ·skip
  go_enter Tryz.func68, Tryz.ntmps68
  (try simp only [List.append_eq, List.cons_append, List.nil_append])
  go_wp2_with fail
  go_ret
  exact ⟨ret_bool ((no_bool (fun h => by have h := sameQ_iff.1 h; have g := HQ7.out; rw [h] at g; revert g; first | decide | simp [zQ, bs_nil_empty])).symm), by first | exact H1.out.bel | exact al _⟩
 obtain ⟨q8, hq8⟩ := xj ((q.ws.length : Int) == 0)
 have HQ8 : Hid (((q.ws.length : Int) == 0) = q8) := hq8
 cases q8
 ·skip
  go_enter Tryz.func68, Tryz.ntmps68
  (try simp only [List.append_eq, List.cons_append, List.nil_append])
  go_wp2_with fail
  go_ret
  exact ⟨ret_bool ((no_bool (fun h => by have h := sameQ_iff.1 h; have g := HQ8.out; rw [h] at g; revert g; first | decide | simp [zQ, bs_nil_empty])).symm), by first | exact H1.out.bel | exact al _⟩
 obtain ⟨q9, hq9⟩ := xj ((q.sk.length : Int) == 0)
 have HQ9 : Hid (((q.sk.length : Int) == 0) = q9) := hq9
 cases q9
 ·skip
  go_enter Tryz.func68, Tryz.ntmps68
  (try simp only [List.append_eq, List.cons_append, List.nil_append])
  go_wp2_with fail
  go_ret
  exact ⟨ret_bool ((no_bool (fun h => by have h := sameQ_iff.1 h; have g := HQ9.out; rw [h] at g; revert g; first | decide | simp [zQ, bs_nil_empty])).symm), by first | exact H1.out.bel | exact al _⟩
 go_enter Tryz.func68, Tryz.ntmps68
 (try simp only [List.append_eq, List.cons_append, List.nil_append])
 go_wp2_with fail
 go_ret
 exact ⟨ret_bool ((q_zero HQ0.out HQ1.out HQ2.out HQ3.out HQ4.out HQ5.out HQ6.out HQ7.out HQ8.out HQ9.out).symm), by first | exact H1.out.bel | exact al _⟩
theorem noreply26 (r : Rp) (pa : Option Addr) (pc : Nat) (w : World) :
  Calls Tryz.prog 70 #[.agg #[iw r.k, iw r.er, .bool r.fd, sd r.val, .slice pa r.ps.length pc, uu r.c, uu r.n, uw r.sp, uu r.sl, uw r.ap, uu r.al, sd r.prim, uw r.np, uu r.nl]] w fun e w' => e = .returned (.bool (sameR r zR)) ∧ Below w.heap.size w w' := by
 have H0 : Hid _ := bx_new w #[iw r.k, iw r.er, .bool r.fd, sd r.val, .slice pa r.ps.length pc, uu r.c, uu r.n, uw r.sp, uu r.sl, uw r.ap, uu r.al, sd r.prim, uw r.np, uu r.nl] 49
 obtain ⟨W1, hW1⟩ := xj (w.alloc (.cells #[iw r.k, iw r.er, .bool r.fd, sd r.val, .slice pa r.ps.length pc, uu r.c, uu r.n, uw r.sp, uu r.sl, uw r.ap, uu r.al, sd r.prim, uw r.np, uu r.nl] 49))
 obtain ⟨b, hb⟩ := xj w.heap.size
 have H1 : Hid (Bx w b #[iw r.k, iw r.er, .bool r.fd, sd r.val, .slice pa r.ps.length pc, uu r.c, uu r.n, uw r.sp, uu r.sl, uw r.ap, uu r.al, sd r.prim, uw r.np, uu r.nl] 49 W1) := by rw [← hb, ← hW1]; exact H0.out
 clear H0
 have p0 : W1.cell? ⟨b, 0, none⟩ = some (iw r.k) := block_cell H1.out.x rfl
 have p1 : W1.cell? ⟨b, 1, none⟩ = some (iw r.er) := block_cell H1.out.x rfl
 have p2 : W1.cell? ⟨b, 2, none⟩ = some (.bool r.fd) := block_cell H1.out.x rfl
 have p3 : W1.cell? ⟨b, 3, none⟩ = some (sd r.val) := block_cell H1.out.x rfl
 have p4 : W1.cell? ⟨b, 4, none⟩ = some (.slice pa r.ps.length pc) := block_cell H1.out.x rfl
 have p5 : W1.cell? ⟨b, 5, none⟩ = some (uu r.c) := block_cell H1.out.x rfl
 have p6 : W1.cell? ⟨b, 6, none⟩ = some (uu r.n) := block_cell H1.out.x rfl
 have p7 : W1.cell? ⟨b, 7, none⟩ = some (uw r.sp) := block_cell H1.out.x rfl
 have p8 : W1.cell? ⟨b, 8, none⟩ = some (uu r.sl) := block_cell H1.out.x rfl
 have p9 : W1.cell? ⟨b, 9, none⟩ = some (uw r.ap) := block_cell H1.out.x rfl
 have p10 : W1.cell? ⟨b, 10, none⟩ = some (uu r.al) := block_cell H1.out.x rfl
 have p11 : W1.cell? ⟨b, 11, none⟩ = some (sd r.prim) := block_cell H1.out.x rfl
 have p12 : W1.cell? ⟨b, 12, none⟩ = some (uw r.np) := block_cell H1.out.x rfl
 have p13 : W1.cell? ⟨b, 13, none⟩ = some (uu r.nl) := block_cell H1.out.x rfl
 obtain ⟨q0, hq0⟩ := xj (r.k == 0)
 have HQ0 : Hid ((r.k == 0) = q0) := hq0
 cases q0
 ·skip
  go_enter Tryz.func70, Tryz.ntmps70
  (try simp only [List.append_eq, List.cons_append, List.nil_append])
  go_wp2_with fail
  go_ret
  exact ⟨ret_bool ((no_bool (fun h => by have h := sameR_iff.1 h; have g := HQ0.out; rw [h] at g; revert g; first | decide | simp [zR, bs_nil_empty])).symm), by first | exact H1.out.bel | exact al _⟩
 obtain ⟨q1, hq1⟩ := xj (r.er == 0)
 have HQ1 : Hid ((r.er == 0) = q1) := hq1
 cases q1
 ·skip
  go_enter Tryz.func70, Tryz.ntmps70
  (try simp only [List.append_eq, List.cons_append, List.nil_append])
  go_wp2_with fail
  go_ret
  exact ⟨ret_bool ((no_bool (fun h => by have h := sameR_iff.1 h; have g := HQ1.out; rw [h] at g; revert g; first | decide | simp [zR, bs_nil_empty])).symm), by first | exact H1.out.bel | exact al _⟩
 obtain ⟨q2, hq2⟩ := xj r.fd
 have HQ2 : Hid (r.fd = q2) := hq2
 cases q2
 rotate_left
 ·skip
  go_enter Tryz.func70, Tryz.ntmps70
  (try simp only [List.append_eq, List.cons_append, List.nil_append])
  go_wp2_with fail
  go_ret
  exact ⟨ret_bool ((no_bool (fun h => by have h := sameR_iff.1 h; have g := HQ2.out; rw [h] at g; revert g; first | decide | simp [zR, bs_nil_empty])).symm), by first | exact H1.out.bel | exact al _⟩
 obtain ⟨q3, hq3⟩ := xj (bs r.val).toList.isEmpty
 have HQ3 : Hid ((bs r.val).toList.isEmpty = q3) := hq3
 cases q3
 ·skip
  go_enter Tryz.func70, Tryz.ntmps70
  (try simp only [List.append_eq, List.cons_append, List.nil_append])
  go_wp2_with fail
  go_ret
  exact ⟨ret_bool ((no_bool (fun h => by have h := sameR_iff.1 h; have g := HQ3.out; rw [h] at g; revert g; first | decide | simp [zR, bs_nil_empty])).symm), by first | exact H1.out.bel | exact al _⟩
 obtain ⟨q4, hq4⟩ := xj ((r.ps.length : Int) == 0)
 have HQ4 : Hid (((r.ps.length : Int) == 0) = q4) := hq4
 cases q4
 ·skip
  go_enter Tryz.func70, Tryz.ntmps70
  (try simp only [List.append_eq, List.cons_append, List.nil_append])
  go_wp2_with fail
  go_ret
  exact ⟨ret_bool ((no_bool (fun h => by have h := sameR_iff.1 h; have g := HQ4.out; rw [h] at g; revert g; first | decide | simp [zR, bs_nil_empty])).symm), by first | exact H1.out.bel | exact al _⟩
 obtain ⟨q5, hq5⟩ := xj (r.c == 0 && r.n == 0)
 have E5 : ∀ W : World, (binOp .eql 38 (.agg #[uu r.c, uu r.n]) (.agg #[.int .u32 0, .int .u32 0])).run Tryz.prog W = .ok (.bool q5) W := fun W => by rw [← hq5]; exact run_eql24 r.c r.n 0 0 W
 have HQ5 : Hid ((r.c == 0 && r.n == 0) = q5) := hq5
 clear hq5
 cases q5
 ·skip
  go_enter Tryz.func70, Tryz.ntmps70
  (try simp only [List.append_eq, List.cons_append, List.nil_append])
  go_wp2_with fail
  go_ret
  exact ⟨ret_bool ((no_bool (fun h => by have h := sameR_iff.1 h; have g := HQ5.out; rw [h] at g; revert g; first | decide | simp [zR, bs_nil_empty])).symm), by first | exact H1.out.bel | exact al _⟩
 obtain ⟨q6, hq6⟩ := xj (r.sp == 0 && r.sl == 0)
 have E6 : ∀ W : World, (binOp .eql 34 (.agg #[uw r.sp, uu r.sl]) (.agg #[.int .u64 0, .int .u32 0])).run Tryz.prog W = .ok (.bool q6) W := fun W => by rw [← hq6]; exact run_eql27 r.sp r.sl 0 0 W
 have HQ6 : Hid ((r.sp == 0 && r.sl == 0) = q6) := hq6
 clear hq6
 cases q6
 ·skip
  go_enter Tryz.func70, Tryz.ntmps70
  (try simp only [List.append_eq, List.cons_append, List.nil_append])
  go_wp2_with fail
  go_ret
  exact ⟨ret_bool ((no_bool (fun h => by have h := sameR_iff.1 h; have g := HQ6.out; rw [h] at g; revert g; first | decide | simp [zR, bs_nil_empty])).symm), by first | exact H1.out.bel | exact al _⟩
 obtain ⟨q7, hq7⟩ := xj (r.ap == 0 && r.al == 0)
 have E7 : ∀ W : World, (binOp .eql 34 (.agg #[uw r.ap, uu r.al]) (.agg #[.int .u64 0, .int .u32 0])).run Tryz.prog W = .ok (.bool q7) W := fun W => by rw [← hq7]; exact run_eql27 r.ap r.al 0 0 W
 have HQ7 : Hid ((r.ap == 0 && r.al == 0) = q7) := hq7
 clear hq7
 cases q7
 ·skip
  go_enter Tryz.func70, Tryz.ntmps70
  (try simp only [List.append_eq, List.cons_append, List.nil_append])
  go_wp2_with fail
  go_ret
  exact ⟨ret_bool ((no_bool (fun h => by have h := sameR_iff.1 h; have g := HQ7.out; rw [h] at g; revert g; first | decide | simp [zR, bs_nil_empty])).symm), by first | exact H1.out.bel | exact al _⟩
 obtain ⟨q8, hq8⟩ := xj (bs r.prim).toList.isEmpty
 have HQ8 : Hid ((bs r.prim).toList.isEmpty = q8) := hq8
 cases q8
 ·skip
  go_enter Tryz.func70, Tryz.ntmps70
  (try simp only [List.append_eq, List.cons_append, List.nil_append])
  go_wp2_with fail
  go_ret
  exact ⟨ret_bool ((no_bool (fun h => by have h := sameR_iff.1 h; have g := HQ8.out; rw [h] at g; revert g; first | decide | simp [zR, bs_nil_empty])).symm), by first | exact H1.out.bel | exact al _⟩
 obtain ⟨q9, hq9⟩ := xj (r.np == 0 && r.nl == 0)
 have E9 : ∀ W : World, (binOp .eql 34 (.agg #[uw r.np, uu r.nl]) (.agg #[.int .u64 0, .int .u32 0])).run Tryz.prog W = .ok (.bool q9) W := fun W => by rw [← hq9]; exact run_eql27 r.np r.nl 0 0 W
 have HQ9 : Hid ((r.np == 0 && r.nl == 0) = q9) := hq9
 clear hq9
 cases q9
 ·skip
  go_enter Tryz.func70, Tryz.ntmps70
  (try simp only [List.append_eq, List.cons_append, List.nil_append])
  go_wp2_with fail
  go_ret
  exact ⟨ret_bool ((no_bool (fun h => by have h := sameR_iff.1 h; have g := HQ9.out; rw [h] at g; revert g; first | decide | simp [zR, bs_nil_empty])).symm), by first | exact H1.out.bel | exact al _⟩
 go_enter Tryz.func70, Tryz.ntmps70
 (try simp only [List.append_eq, List.cons_append, List.nil_append])
 go_wp2_with fail
 go_ret
 exact ⟨ret_bool ((r_zero HQ0.out HQ1.out HQ2.out HQ3.out HQ4.out HQ5.out HQ6.out HQ7.out HQ8.out HQ9.out).symm), by first | exact H1.out.bel | exact al _⟩
end Go.Proofs.YtkdkgdollmmcnaaGreat
