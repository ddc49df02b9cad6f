import Derived.Test.YtkdkgdollmmcnaaGreatWax
set_option maxHeartbeats 4000000
set_option maxRecDepth 100000
set_option linter.unusedVariables false
set_option linter.unusedSimpArgs false
namespace Go.Proofs.YtkdkgdollmmcnaaGreat
open Go.RowKit Go.Sort
theorem ask27 (q : Rq) (wa sa : Option Addr) (wc sc : Nat) (w : World) (hq : QAt w.heap.size q (.slice wa q.ws.length wc) (.slice sa q.sk.length sc) w) :
  Calls Tryz.prog 71 #[.agg #[iw q.k, uu q.c, uu q.n, uw q.sp, uu q.sl, uw q.ap, uu q.al, sd q.key, sd q.to, iw q.lim, .int .u8 (q.pt : Int), .slice wa q.ws.length wc, .slice sa q.sk.length sc]] w fun e w' => e = .returned (.bool (okQ q)) ∧ Below w.heap.size w w' := by
 have HQ : Hid (QAt w.heap.size q (.slice wa q.ws.length wc) (.slice sa q.sk.length sc) w) := hq
 clear hq
 have CK : Hid (∀ W : World, 1 = 1 → Calls Tryz.prog 108 #[sd q.key, su] W fun e w' => e = .returned (.bool (fitB q.key [])) ∧ W = w') := fun W _ => fits53 q.key [] W
 have CT : Hid (∀ W : World, 1 = 1 → Calls Tryz.prog 108 #[sd q.to, su] W fun e w' => e = .returned (.bool (fitB q.to [])) ∧ W = w') := fun W _ => fits53 q.to [] W
 have H0 : Hid _ := bx_new w #[iw q.k, uu q.c, uu q.n, uw q.sp, uu q.sl, uw q.ap, uu q.al, sd q.key, sd q.to, iw q.lim, .int .u8 (q.pt : Int), .slice wa q.ws.length wc, .slice sa q.sk.length sc] 53
 obtain ⟨W1, hW1⟩ := xj (w.alloc (.cells #[iw q.k, uu q.c, uu q.n, uw q.sp, uu q.sl, uw q.ap, uu q.al, sd q.key, sd q.to, iw q.lim, .int .u8 (q.pt : Int), .slice wa q.ws.length wc, .slice sa q.sk.length sc] 53))
 obtain ⟨b, hb⟩ := xj w.heap.size
 have B1 : Hid (Bx w b #[iw q.k, uu q.c, uu q.n, uw q.sp, uu q.sl, uw q.ap, uu q.al, sd q.key, sd q.to, iw q.lim, .int .u8 (q.pt : Int), .slice wa q.ws.length wc, .slice sa q.sk.length sc] 53 W1) := by rw [← hb, ← hW1]; exact H0.out
 clear H0
 have p0 : W1.cell? ⟨b, 0, none⟩ = some (iw q.k) := block_cell B1.out.x rfl
 have p1 : W1.cell? ⟨b, 1, none⟩ = some (uu q.c) := block_cell B1.out.x rfl
 have p2 : W1.cell? ⟨b, 2, none⟩ = some (uu q.n) := block_cell B1.out.x rfl
 have p3 : W1.cell? ⟨b, 3, none⟩ = some (uw q.sp) := block_cell B1.out.x rfl
 have p4 : W1.cell? ⟨b, 4, none⟩ = some (uu q.sl) := block_cell B1.out.x rfl
 have p5 : W1.cell? ⟨b, 5, none⟩ = some (uw q.ap) := block_cell B1.out.x rfl
 have p6 : W1.cell? ⟨b, 6, none⟩ = some (uu q.al) := block_cell B1.out.x rfl
 have p7 : W1.cell? ⟨b, 7, none⟩ = some (sd q.key) := block_cell B1.out.x rfl
 have p8 : W1.cell? ⟨b, 8, none⟩ = some (sd q.to) := block_cell B1.out.x rfl
 have p9 : W1.cell? ⟨b, 9, none⟩ = some (iw q.lim) := block_cell B1.out.x rfl
 have p10 : W1.cell? ⟨b, 10, none⟩ = some (.int .u8 (q.pt : Int)) := block_cell B1.out.x rfl
 have p11 : W1.cell? ⟨b, 11, none⟩ = some (.slice wa q.ws.length wc) := block_cell B1.out.x rfl
 have p12 : W1.cell? ⟨b, 12, none⟩ = some (.slice sa q.sk.length sc) := block_cell B1.out.x rfl
 by_cases d0 : 1 ≤ q.k
 rotate_left
 ·go_enter Tryz.func71, Tryz.ntmps71
  (try simp only [List.append_eq, List.cons_append, List.nil_append])
  go_wp2_with fail
  go_ret
  exact ⟨ret_bool (no_bool (fun h => by have h := okQ_iff.1 h; have := h.k.1; omega)).symm, (by first | exact B1.out.bel | exact below_of hb B1.out.bel)⟩
 by_cases d1 : q.k ≤ 9
 rotate_left
 ·go_enter Tryz.func71, Tryz.ntmps71
  (try simp only [List.append_eq, List.cons_append, List.nil_append])
  go_wp2_with fail
  go_ret
  exact ⟨ret_bool (no_bool (fun h => by have h := okQ_iff.1 h; have := h.k.2; omega)).symm, (by first | exact B1.out.bel | exact below_of hb B1.out.bel)⟩
 go_enter Tryz.func71, Tryz.ntmps71
 (try simp only [List.append_eq, List.cons_append, List.nil_append])
 go_wp2_with fail
 refine (rightP q.sp q.sl _).mono ?_
 rintro e w2 ⟨rfl, hb2⟩
 have B2 : Hid (Bx w b #[iw q.k, uu q.c, uu q.n, uw q.sp, uu q.sl, uw q.ap, uu q.al, sd q.key, sd q.to, iw q.lim, .int .u8 (q.pt : Int), .slice wa q.ws.length wc, .slice sa q.sk.length sc] 53 w2) := B1.out.on hb2
 clear hb2 p0 p1 p2 p3 p4 p5 p6 p7 p8 p9 p10 p11 p12
 have p0 : w2.cell? ⟨b, 0, none⟩ = some (iw q.k) := block_cell B2.out.x rfl
 have p1 : w2.cell? ⟨b, 1, none⟩ = some (uu q.c) := block_cell B2.out.x rfl
 have p2 : w2.cell? ⟨b, 2, none⟩ = some (uu q.n) := block_cell B2.out.x rfl
 have p3 : w2.cell? ⟨b, 3, none⟩ = some (uw q.sp) := block_cell B2.out.x rfl
 have p4 : w2.cell? ⟨b, 4, none⟩ = some (uu q.sl) := block_cell B2.out.x rfl
 have p5 : w2.cell? ⟨b, 5, none⟩ = some (uw q.ap) := block_cell B2.out.x rfl
 have p6 : w2.cell? ⟨b, 6, none⟩ = some (uu q.al) := block_cell B2.out.x rfl
 have p7 : w2.cell? ⟨b, 7, none⟩ = some (sd q.key) := block_cell B2.out.x rfl
 have p8 : w2.cell? ⟨b, 8, none⟩ = some (sd q.to) := block_cell B2.out.x rfl
 have p9 : w2.cell? ⟨b, 9, none⟩ = some (iw q.lim) := block_cell B2.out.x rfl
 have p10 : w2.cell? ⟨b, 10, none⟩ = some (.int .u8 (q.pt : Int)) := block_cell B2.out.x rfl
 have p11 : w2.cell? ⟨b, 11, none⟩ = some (.slice wa q.ws.length wc) := block_cell B2.out.x rfl
 have p12 : w2.cell? ⟨b, 12, none⟩ = some (.slice sa q.sk.length sc) := block_cell B2.out.x rfl
 obtain ⟨z2, hz2⟩ := xj (rightB q.sp q.sl)
 rw [hz2]
 have Z2 : Hid (rightB q.sp q.sl = z2) := hz2
 clear hz2
 cases z2
 ·go_wp2_with fail
  go_ret
  exact ⟨ret_bool (no_bool (fun h => by have h := okQ_iff.1 h; have g := Z2.out; rw [rightB_S, rightS_iff.2 h.st] at g; cases g)).symm, (by first | exact B2.out.bel | exact below_of hb B2.out.bel)⟩
 go_wp2_with fail
 refine (rightP q.ap q.al _).mono ?_
 rintro e w3 ⟨rfl, hb3⟩
 have B3 : Hid (Bx w b #[iw q.k, uu q.c, uu q.n, uw q.sp, uu q.sl, uw q.ap, uu q.al, sd q.key, sd q.to, iw q.lim, .int .u8 (q.pt : Int), .slice wa q.ws.length wc, .slice sa q.sk.length sc] 53 w3) := B2.out.on hb3
 clear hb3 p0 p1 p2 p3 p4 p5 p6 p7 p8 p9 p10 p11 p12
 have p0 : w3.cell? ⟨b, 0, none⟩ = some (iw q.k) := block_cell B3.out.x rfl
 have p1 : w3.cell? ⟨b, 1, none⟩ = some (uu q.c) := block_cell B3.out.x rfl
 have p2 : w3.cell? ⟨b, 2, none⟩ = some (uu q.n) := block_cell B3.out.x rfl
 have p3 : w3.cell? ⟨b, 3, none⟩ = some (uw q.sp) := block_cell B3.out.x rfl
 have p4 : w3.cell? ⟨b, 4, none⟩ = some (uu q.sl) := block_cell B3.out.x rfl
 have p5 : w3.cell? ⟨b, 5, none⟩ = some (uw q.ap) := block_cell B3.out.x rfl
 have p6 : w3.cell? ⟨b, 6, none⟩ = some (uu q.al) := block_cell B3.out.x rfl
 have p7 : w3.cell? ⟨b, 7, none⟩ = some (sd q.key) := block_cell B3.out.x rfl
 have p8 : w3.cell? ⟨b, 8, none⟩ = some (sd q.to) := block_cell B3.out.x rfl
 have p9 : w3.cell? ⟨b, 9, none⟩ = some (iw q.lim) := block_cell B3.out.x rfl
 have p10 : w3.cell? ⟨b, 10, none⟩ = some (.int .u8 (q.pt : Int)) := block_cell B3.out.x rfl
 have p11 : w3.cell? ⟨b, 11, none⟩ = some (.slice wa q.ws.length wc) := block_cell B3.out.x rfl
 have p12 : w3.cell? ⟨b, 12, none⟩ = some (.slice sa q.sk.length sc) := block_cell B3.out.x rfl
 obtain ⟨z3, hz3⟩ := xj (rightB q.ap q.al)
 rw [hz3]
 have Z3 : Hid (rightB q.ap q.al = z3) := hz3
 clear hz3
 cases z3
 ·go_wp2_with fail
  go_ret
  exact ⟨ret_bool (no_bool (fun h => by have h := okQ_iff.1 h; have g := Z3.out; rw [rightB_S, rightS_iff.2 h.at_] at g; cases g)).symm, (by first | exact B3.out.bel | exact below_of hb B3.out.bel)⟩
 go_wp2_with fail
 refine (CK.out _ (by trivial)).mono ?_
 rintro e w4 ⟨rfl, rfl⟩
 obtain ⟨z4, hz4⟩ := xj (fitB q.key [])
 rw [hz4]
 have Z4 : Hid (fitB q.key [] = z4) := hz4
 clear hz4
 cases z4
 ·go_wp2_with fail
  go_ret
  exact ⟨ret_bool (no_bool (fun h => by have h := okQ_iff.1 h; have g := Z4.out; rw [fitB_iff.2 ⟨h.key, by decide⟩] at g; cases g)).symm, (by first | exact B3.out.bel | exact below_of hb B3.out.bel)⟩
 go_wp2_with fail
 refine (CT.out _ (by trivial)).mono ?_
 rintro e w4 ⟨rfl, rfl⟩
 obtain ⟨z5, hz5⟩ := xj (fitB q.to [])
 rw [hz5]
 have Z5 : Hid (fitB q.to [] = z5) := hz5
 clear hz5
 cases z5
 ·go_wp2_with fail
  go_ret
  exact ⟨ret_bool (no_bool (fun h => by have h := okQ_iff.1 h; have g := Z5.out; rw [fitB_iff.2 ⟨h.to, by decide⟩] at g; cases g)).symm, (by first | exact B3.out.bel | exact below_of hb B3.out.bel)⟩
 by_cases d6 : 0 ≤ q.lim
 rotate_left
 ·go_wp2_with fail
  go_ret
  exact ⟨ret_bool (no_bool (fun h => by have h := okQ_iff.1 h; have := h.lim.1; omega)).symm, (by first | exact B3.out.bel | exact below_of hb B3.out.bel)⟩
 by_cases d7 : q.lim ≤ 32
 rotate_left
 ·go_wp2_with fail
  go_ret
  exact ⟨ret_bool (no_bool (fun h => by have h := okQ_iff.1 h; have := h.lim.2; omega)).symm, (by first | exact B3.out.bel | exact below_of hb B3.out.bel)⟩
 go_wp2_with fail
 refine (writes56 q.ws wa wc _ ((HQ.out.up B3.out.bel).ws)).mono ?_
 rintro e w4 ⟨rfl, hb4⟩
 have B4 : Hid (Bx w b #[iw q.k, uu q.c, uu q.n, uw q.sp, uu q.sl, uw q.ap, uu q.al, sd q.key, sd q.to, iw q.lim, .int .u8 (q.pt : Int), .slice wa q.ws.length wc, .slice sa q.sk.length sc] 53 w4) := B3.out.on hb4
 clear hb4 p0 p1 p2 p3 p4 p5 p6 p7 p8 p9 p10 p11 p12
 have p0 : w4.cell? ⟨b, 0, none⟩ = some (iw q.k) := block_cell B4.out.x rfl
 have p1 : w4.cell? ⟨b, 1, none⟩ = some (uu q.c) := block_cell B4.out.x rfl
 have p2 : w4.cell? ⟨b, 2, none⟩ = some (uu q.n) := block_cell B4.out.x rfl
 have p3 : w4.cell? ⟨b, 3, none⟩ = some (uw q.sp) := block_cell B4.out.x rfl
 have p4 : w4.cell? ⟨b, 4, none⟩ = some (uu q.sl) := block_cell B4.out.x rfl
 have p5 : w4.cell? ⟨b, 5, none⟩ = some (uw q.ap) := block_cell B4.out.x rfl
 have p6 : w4.cell? ⟨b, 6, none⟩ = some (uu q.al) := block_cell B4.out.x rfl
 have p7 : w4.cell? ⟨b, 7, none⟩ = some (sd q.key) := block_cell B4.out.x rfl
 have p8 : w4.cell? ⟨b, 8, none⟩ = some (sd q.to) := block_cell B4.out.x rfl
 have p9 : w4.cell? ⟨b, 9, none⟩ = some (iw q.lim) := block_cell B4.out.x rfl
 have p10 : w4.cell? ⟨b, 10, none⟩ = some (.int .u8 (q.pt : Int)) := block_cell B4.out.x rfl
 have p11 : w4.cell? ⟨b, 11, none⟩ = some (.slice wa q.ws.length wc) := block_cell B4.out.x rfl
 have p12 : w4.cell? ⟨b, 12, none⟩ = some (.slice sa q.sk.length sc) := block_cell B4.out.x rfl
 obtain ⟨z8, hz8⟩ := xj (decide (q.ws.length ≤ 16) && q.ws.all fun x => fitB x.key x.val)
 rw [hz8]
 have Z8 : Hid ((decide (q.ws.length ≤ 16) && q.ws.all fun x => fitB x.key x.val) = z8) := hz8
 clear hz8
 cases z8
 ·go_wp2_with fail
  go_ret
  exact ⟨ret_bool (no_bool (fun h => by have h := okQ_iff.1 h; have g := Z8.out; rw [show decide (q.ws.length ≤ 16) = true from by simp [h.wl], show (q.ws.all fun x => fitB x.key x.val) = true from by rw [List.all_eq_true]; exact fun x hx => fitB_iff.2 (h.ws x hx)] at g; cases g)).symm, (by first | exact B4.out.bel | exact below_of hb B4.out.bel)⟩
 go_wp2_with fail
 go_ret
 exact ⟨ret_bool (Bool.eq_iff_iff.2 (by rw [okQ_iff, decide_eq_true_eq]; exact ⟨fun d9 => ⟨fun x hx => by (have g := Z8.out; simp only [Bool.and_eq_true, List.all_eq_true] at g; exact fitB_iff.1 (g.2 x hx)), ⟨d0, d1⟩, rightS_iff.1 (by rw [← rightB_S]; exact Z2.out), rightS_iff.1 (by rw [← rightB_S]; exact Z3.out), (fitB_iff.1 Z4.out).1, (fitB_iff.1 Z5.out).1, ⟨d6, d7⟩, by (have g := Z8.out; simp only [Bool.and_eq_true, decide_eq_true_eq] at g; exact g.1), by omega⟩, fun h => by have := h.sk; omega⟩)), (by first | exact B4.out.bel | exact below_of hb B4.out.bel)⟩
theorem reply25 (r : Rp) (pa : Option Addr) (pc : Nat) (w : World) (hp : PsAt w.heap.size (.slice pa r.ps.length pc) r.ps w) :
  Calls Tryz.prog 69 #[.agg #[iw r.k, iw r.er, .bool r.fd, sd r.val, .slice pa r.ps.length pc, uu r.c, uu r.n, uw r.sp, uu r.sl, uw r.ap, uu r.al, sd r.prim, uw r.np, uu r.nl]] w fun e w' => e = .returned (.bool (okR r)) ∧ Below w.heap.size w w' := by
 have HP : Hid (PsAt w.heap.size (.slice pa r.ps.length pc) r.ps w) := hp
 clear hp
 have H0 : Hid _ := bx_new w #[iw r.k, iw r.er, .bool r.fd, sd r.val, .slice pa r.ps.length pc, uu r.c, uu r.n, uw r.sp, uu r.sl, uw r.ap, uu r.al, sd r.prim, uw r.np, uu r.nl] 49
 obtain ⟨W1, hW1⟩ := xj (w.alloc (.cells #[iw r.k, iw r.er, .bool r.fd, sd r.val, .slice pa r.ps.length pc, uu r.c, uu r.n, uw r.sp, uu r.sl, uw r.ap, uu r.al, sd r.prim, uw r.np, uu r.nl] 49))
 obtain ⟨b, hb⟩ := xj w.heap.size
 have B1 : Hid (Bx w b #[iw r.k, iw r.er, .bool r.fd, sd r.val, .slice pa r.ps.length pc, uu r.c, uu r.n, uw r.sp, uu r.sl, uw r.ap, uu r.al, sd r.prim, uw r.np, uu r.nl] 49 W1) := by rw [← hb, ← hW1]; exact H0.out
 clear H0
 have p0 : W1.cell? ⟨b, 0, none⟩ = some (iw r.k) := block_cell B1.out.x rfl
 have p1 : W1.cell? ⟨b, 1, none⟩ = some (iw r.er) := block_cell B1.out.x rfl
 have p2 : W1.cell? ⟨b, 2, none⟩ = some (.bool r.fd) := block_cell B1.out.x rfl
 have p3 : W1.cell? ⟨b, 3, none⟩ = some (sd r.val) := block_cell B1.out.x rfl
 have p4 : W1.cell? ⟨b, 4, none⟩ = some (.slice pa r.ps.length pc) := block_cell B1.out.x rfl
 have p5 : W1.cell? ⟨b, 5, none⟩ = some (uu r.c) := block_cell B1.out.x rfl
 have p6 : W1.cell? ⟨b, 6, none⟩ = some (uu r.n) := block_cell B1.out.x rfl
 have p7 : W1.cell? ⟨b, 7, none⟩ = some (uw r.sp) := block_cell B1.out.x rfl
 have p8 : W1.cell? ⟨b, 8, none⟩ = some (uu r.sl) := block_cell B1.out.x rfl
 have p9 : W1.cell? ⟨b, 9, none⟩ = some (uw r.ap) := block_cell B1.out.x rfl
 have p10 : W1.cell? ⟨b, 10, none⟩ = some (uu r.al) := block_cell B1.out.x rfl
 have p11 : W1.cell? ⟨b, 11, none⟩ = some (sd r.prim) := block_cell B1.out.x rfl
 have p12 : W1.cell? ⟨b, 12, none⟩ = some (uw r.np) := block_cell B1.out.x rfl
 have p13 : W1.cell? ⟨b, 13, none⟩ = some (uu r.nl) := block_cell B1.out.x rfl
 by_cases d0 : 0 ≤ r.k
 rotate_left
 ·go_enter Tryz.func69, Tryz.ntmps69
  (try simp only [List.append_eq, List.cons_append, List.nil_append])
  go_wp2_with fail
  go_ret
  exact ⟨ret_bool (no_bool (fun h => by have h := okR_iff.1 h; have := h.k.1; omega)).symm, (by first | exact B1.out.bel | exact below_of hb B1.out.bel)⟩
 by_cases d1 : r.k ≤ 10
 rotate_left
 ·go_enter Tryz.func69, Tryz.ntmps69
  (try simp only [List.append_eq, List.cons_append, List.nil_append])
  go_wp2_with fail
  go_ret
  exact ⟨ret_bool (no_bool (fun h => by have h := okR_iff.1 h; have := h.k.2; omega)).symm, (by first | exact B1.out.bel | exact below_of hb B1.out.bel)⟩
 by_cases d2 : 0 ≤ r.er
 rotate_left
 ·go_enter Tryz.func69, Tryz.ntmps69
  (try simp only [List.append_eq, List.cons_append, List.nil_append])
  go_wp2_with fail
  go_ret
  exact ⟨ret_bool (no_bool (fun h => by have h := okR_iff.1 h; have := h.er.1; omega)).symm, (by first | exact B1.out.bel | exact below_of hb B1.out.bel)⟩
 by_cases d3 : r.er ≤ 255
 rotate_left
 ·go_enter Tryz.func69, Tryz.ntmps69
  (try simp only [List.append_eq, List.cons_append, List.nil_append])
  go_wp2_with fail
  go_ret
  exact ⟨ret_bool (no_bool (fun h => by have h := okR_iff.1 h; have := h.er.2; omega)).symm, (by first | exact B1.out.bel | exact below_of hb B1.out.bel)⟩
 go_enter Tryz.func69, Tryz.ntmps69
 (try simp only [List.append_eq, List.cons_append, List.nil_append])
 go_wp2_with fail
 refine (fits53 r.prim r.val _).mono ?_
 rintro e w2 ⟨rfl, rfl⟩
 obtain ⟨z4, hz4⟩ := xj (fitB r.prim r.val)
 rw [hz4]
 have Z4 : Hid (fitB r.prim r.val = z4) := hz4
 clear hz4
 cases z4
 ·go_wp2_with fail
  go_ret
  exact ⟨ret_bool (no_bool (fun h => by have h := okR_iff.1 h; have g := Z4.out; rw [fitB_iff.2 ⟨h.prim, h.val⟩] at g; cases g)).symm, (by first | exact B1.out.bel | exact below_of hb B1.out.bel)⟩
 go_wp2_with fail
 refine (pairs54 r.ps pa pc _ (HP.out.up B1.out.bel)).mono ?_
 rintro e w2 ⟨rfl, hb2⟩
 have B2 : Hid (Bx w b #[iw r.k, iw r.er, .bool r.fd, sd r.val, .slice pa r.ps.length pc, uu r.c, uu r.n, uw r.sp, uu r.sl, uw r.ap, uu r.al, sd r.prim, uw r.np, uu r.nl] 49 w2) := B1.out.on hb2
 clear hb2 p0 p1 p2 p3 p4 p5 p6 p7 p8 p9 p10 p11 p12 p13
 have p0 : w2.cell? ⟨b, 0, none⟩ = some (iw r.k) := block_cell B2.out.x rfl
 have p1 : w2.cell? ⟨b, 1, none⟩ = some (iw r.er) := block_cell B2.out.x rfl
 have p2 : w2.cell? ⟨b, 2, none⟩ = some (.bool r.fd) := block_cell B2.out.x rfl
 have p3 : w2.cell? ⟨b, 3, none⟩ = some (sd r.val) := block_cell B2.out.x rfl
 have p4 : w2.cell? ⟨b, 4, none⟩ = some (.slice pa r.ps.length pc) := block_cell B2.out.x rfl
 have p5 : w2.cell? ⟨b, 5, none⟩ = some (uu r.c) := block_cell B2.out.x rfl
 have p6 : w2.cell? ⟨b, 6, none⟩ = some (uu r.n) := block_cell B2.out.x rfl
 have p7 : w2.cell? ⟨b, 7, none⟩ = some (uw r.sp) := block_cell B2.out.x rfl
 have p8 : w2.cell? ⟨b, 8, none⟩ = some (uu r.sl) := block_cell B2.out.x rfl
 have p9 : w2.cell? ⟨b, 9, none⟩ = some (uw r.ap) := block_cell B2.out.x rfl
 have p10 : w2.cell? ⟨b, 10, none⟩ = some (uu r.al) := block_cell B2.out.x rfl
 have p11 : w2.cell? ⟨b, 11, none⟩ = some (sd r.prim) := block_cell B2.out.x rfl
 have p12 : w2.cell? ⟨b, 12, none⟩ = some (uw r.np) := block_cell B2.out.x rfl
 have p13 : w2.cell? ⟨b, 13, none⟩ = some (uu r.nl) := block_cell B2.out.x rfl
 obtain ⟨z5, hz5⟩ := xj (decide (r.ps.length ≤ 32) && r.ps.all fun x => fitB x.key x.val)
 rw [hz5]
 have Z5 : Hid ((decide (r.ps.length ≤ 32) && r.ps.all fun x => fitB x.key x.val) = z5) := hz5
 clear hz5
 cases z5
 ·go_wp2_with fail
  go_ret
  exact ⟨ret_bool (no_bool (fun h => by have h := okR_iff.1 h; have g := Z5.out; rw [show decide (r.ps.length ≤ 32) = true from by simp [h.pl], show (r.ps.all fun x => fitB x.key x.val) = true from by rw [List.all_eq_true]; exact fun x hx => fitB_iff.2 (h.ps x hx)] at g; cases g)).symm, (by first | exact B2.out.bel | exact below_of hb B2.out.bel)⟩
 go_wp2_with fail
 refine (rightP r.sp r.sl _).mono ?_
 rintro e w3 ⟨rfl, hb3⟩
 have B3 : Hid (Bx w b #[iw r.k, iw r.er, .bool r.fd, sd r.val, .slice pa r.ps.length pc, uu r.c, uu r.n, uw r.sp, uu r.sl, uw r.ap, uu r.al, sd r.prim, uw r.np, uu r.nl] 49 w3) := B2.out.on hb3
 clear hb3 p0 p1 p2 p3 p4 p5 p6 p7 p8 p9 p10 p11 p12 p13
 have p0 : w3.cell? ⟨b, 0, none⟩ = some (iw r.k) := block_cell B3.out.x rfl
 have p1 : w3.cell? ⟨b, 1, none⟩ = some (iw r.er) := block_cell B3.out.x rfl
 have p2 : w3.cell? ⟨b, 2, none⟩ = some (.bool r.fd) := block_cell B3.out.x rfl
 have p3 : w3.cell? ⟨b, 3, none⟩ = some (sd r.val) := block_cell B3.out.x rfl
 have p4 : w3.cell? ⟨b, 4, none⟩ = some (.slice pa r.ps.length pc) := block_cell B3.out.x rfl
 have p5 : w3.cell? ⟨b, 5, none⟩ = some (uu r.c) := block_cell B3.out.x rfl
 have p6 : w3.cell? ⟨b, 6, none⟩ = some (uu r.n) := block_cell B3.out.x rfl
 have p7 : w3.cell? ⟨b, 7, none⟩ = some (uw r.sp) := block_cell B3.out.x rfl
 have p8 : w3.cell? ⟨b, 8, none⟩ = some (uu r.sl) := block_cell B3.out.x rfl
 have p9 : w3.cell? ⟨b, 9, none⟩ = some (uw r.ap) := block_cell B3.out.x rfl
 have p10 : w3.cell? ⟨b, 10, none⟩ = some (uu r.al) := block_cell B3.out.x rfl
 have p11 : w3.cell? ⟨b, 11, none⟩ = some (sd r.prim) := block_cell B3.out.x rfl
 have p12 : w3.cell? ⟨b, 12, none⟩ = some (uw r.np) := block_cell B3.out.x rfl
 have p13 : w3.cell? ⟨b, 13, none⟩ = some (uu r.nl) := block_cell B3.out.x rfl
 obtain ⟨z6, hz6⟩ := xj (rightB r.sp r.sl)
 rw [hz6]
 have Z6 : Hid (rightB r.sp r.sl = z6) := hz6
 clear hz6
 cases z6
 ·go_wp2_with fail
  go_ret
  exact ⟨ret_bool (no_bool (fun h => by have h := okR_iff.1 h; have g := Z6.out; rw [rightB_S, rightS_iff.2 h.st] at g; cases g)).symm, (by first | exact B3.out.bel | exact below_of hb B3.out.bel)⟩
 go_wp2_with fail
 refine (rightP r.ap r.al _).mono ?_
 rintro e w4 ⟨rfl, hb4⟩
 have B4 : Hid (Bx w b #[iw r.k, iw r.er, .bool r.fd, sd r.val, .slice pa r.ps.length pc, uu r.c, uu r.n, uw r.sp, uu r.sl, uw r.ap, uu r.al, sd r.prim, uw r.np, uu r.nl] 49 w4) := B3.out.on hb4
 clear hb4 p0 p1 p2 p3 p4 p5 p6 p7 p8 p9 p10 p11 p12 p13
 have p0 : w4.cell? ⟨b, 0, none⟩ = some (iw r.k) := block_cell B4.out.x rfl
 have p1 : w4.cell? ⟨b, 1, none⟩ = some (iw r.er) := block_cell B4.out.x rfl
 have p2 : w4.cell? ⟨b, 2, none⟩ = some (.bool r.fd) := block_cell B4.out.x rfl
 have p3 : w4.cell? ⟨b, 3, none⟩ = some (sd r.val) := block_cell B4.out.x rfl
 have p4 : w4.cell? ⟨b, 4, none⟩ = some (.slice pa r.ps.length pc) := block_cell B4.out.x rfl
 have p5 : w4.cell? ⟨b, 5, none⟩ = some (uu r.c) := block_cell B4.out.x rfl
 have p6 : w4.cell? ⟨b, 6, none⟩ = some (uu r.n) := block_cell B4.out.x rfl
 have p7 : w4.cell? ⟨b, 7, none⟩ = some (uw r.sp) := block_cell B4.out.x rfl
 have p8 : w4.cell? ⟨b, 8, none⟩ = some (uu r.sl) := block_cell B4.out.x rfl
 have p9 : w4.cell? ⟨b, 9, none⟩ = some (uw r.ap) := block_cell B4.out.x rfl
 have p10 : w4.cell? ⟨b, 10, none⟩ = some (uu r.al) := block_cell B4.out.x rfl
 have p11 : w4.cell? ⟨b, 11, none⟩ = some (sd r.prim) := block_cell B4.out.x rfl
 have p12 : w4.cell? ⟨b, 12, none⟩ = some (uw r.np) := block_cell B4.out.x rfl
 have p13 : w4.cell? ⟨b, 13, none⟩ = some (uu r.nl) := block_cell B4.out.x rfl
 obtain ⟨z7, hz7⟩ := xj (rightB r.ap r.al)
 rw [hz7]
 have Z7 : Hid (rightB r.ap r.al = z7) := hz7
 clear hz7
 cases z7
 ·go_wp2_with fail
  go_ret
  exact ⟨ret_bool (no_bool (fun h => by have h := okR_iff.1 h; have g := Z7.out; rw [rightB_S, rightS_iff.2 h.at_] at g; cases g)).symm, (by first | exact B4.out.bel | exact below_of hb B4.out.bel)⟩
 go_wp2_with fail
 refine (rightP r.np r.nl _).mono ?_
 rintro e w5 ⟨rfl, hb5⟩
 have B5 : Hid (Bx w b #[iw r.k, iw r.er, .bool r.fd, sd r.val, .slice pa r.ps.length pc, uu r.c, uu r.n, uw r.sp, uu r.sl, uw r.ap, uu r.al, sd r.prim, uw r.np, uu r.nl] 49 w5) := B4.out.on hb5
 clear hb5 p0 p1 p2 p3 p4 p5 p6 p7 p8 p9 p10 p11 p12 p13
 have p0 : w5.cell? ⟨b, 0, none⟩ = some (iw r.k) := block_cell B5.out.x rfl
 have p1 : w5.cell? ⟨b, 1, none⟩ = some (iw r.er) := block_cell B5.out.x rfl
 have p2 : w5.cell? ⟨b, 2, none⟩ = some (.bool r.fd) := block_cell B5.out.x rfl
 have p3 : w5.cell? ⟨b, 3, none⟩ = some (sd r.val) := block_cell B5.out.x rfl
 have p4 : w5.cell? ⟨b, 4, none⟩ = some (.slice pa r.ps.length pc) := block_cell B5.out.x rfl
 have p5 : w5.cell? ⟨b, 5, none⟩ = some (uu r.c) := block_cell B5.out.x rfl
 have p6 : w5.cell? ⟨b, 6, none⟩ = some (uu r.n) := block_cell B5.out.x rfl
 have p7 : w5.cell? ⟨b, 7, none⟩ = some (uw r.sp) := block_cell B5.out.x rfl
 have p8 : w5.cell? ⟨b, 8, none⟩ = some (uu r.sl) := block_cell B5.out.x rfl
 have p9 : w5.cell? ⟨b, 9, none⟩ = some (uw r.ap) := block_cell B5.out.x rfl
 have p10 : w5.cell? ⟨b, 10, none⟩ = some (uu r.al) := block_cell B5.out.x rfl
 have p11 : w5.cell? ⟨b, 11, none⟩ = some (sd r.prim) := block_cell B5.out.x rfl
 have p12 : w5.cell? ⟨b, 12, none⟩ = some (uw r.np) := block_cell B5.out.x rfl
 have p13 : w5.cell? ⟨b, 13, none⟩ = some (uu r.nl) := block_cell B5.out.x rfl
 obtain ⟨z8, hz8⟩ := xj (rightB r.np r.nl)
 rw [hz8]
 have Z8 : Hid (rightB r.np r.nl = z8) := hz8
 clear hz8
 cases z8
 ·go_wp2_with fail
  go_ret
  exact ⟨ret_bool (no_bool (fun h => by have h := okR_iff.1 h; have g := Z8.out; rw [rightB_S, rightS_iff.2 h.nw] at g; cases g)).symm, (by first | exact B5.out.bel | exact below_of hb B5.out.bel)⟩
 go_wp2_with fail
 go_ret
 exact ⟨ret_bool (okR_iff.2 ⟨fun x hx => by (have g := Z5.out; simp only [Bool.and_eq_true, List.all_eq_true] at g; exact fitB_iff.1 (g.2 x hx)), ⟨d0, d1⟩, ⟨d2, d3⟩, rightS_iff.1 (by rw [← rightB_S]; exact Z6.out), rightS_iff.1 (by rw [← rightB_S]; exact Z7.out), rightS_iff.1 (by rw [← rightB_S]; exact Z8.out), (fitB_iff.1 Z4.out).2, (fitB_iff.1 Z4.out).1, by (have g := Z5.out; simp only [Bool.and_eq_true, decide_eq_true_eq] at g; exact g.1)⟩).symm, (by first | exact B5.out.bel | exact below_of hb B5.out.bel)⟩
structure LAt (B : Nat) (l : Le) (vw vs vp : Value) (w : World) : Prop where
 q : QAt B l.q vw vs w
 r : PsAt B vp l.r.ps w
theorem LAt.on {B : Nat} {l : Le} {vw vs vp : Value} {w w' : World} (h : LAt B l vw vs vp w) (hb : Below B w w') : LAt B l vw vs vp w' := ⟨h.q.on hb, h.r.on hb⟩
theorem LAt.up {l : Le} {vw vs vp : Value} {w w' : World} (h : LAt w.heap.size l vw vs vp w) (hb : Below w.heap.size w w') : LAt w'.heap.size l vw vs vp w' := ⟨h.q.up hb, h.r.up hb⟩
theorem right9 (l : Le) (wa sa pa : Option Addr) (wc sc pc : Nat) (w : World) (hl : LAt w.heap.size l (.slice wa l.q.ws.length wc) (.slice sa l.q.sk.length sc) (.slice pa l.r.ps.length pc) w) :
  Calls Tryz.prog 25 #[.agg #[uu l.cl, uu l.sh, uu l.sq, .bool l.an, iw l.q.k, uu l.q.c, uu l.q.n, uw l.q.sp, uu l.q.sl, uw l.q.ap, uu l.q.al, sd l.q.key, sd l.q.to, iw l.q.lim, .int .u8 (l.q.pt : Int), .slice wa l.q.ws.length wc, .slice sa l.q.sk.length sc, iw l.r.k, iw l.r.er, .bool l.r.fd, sd l.r.val, .slice pa l.r.ps.length pc, uu l.r.c, uu l.r.n, uw l.r.sp, uu l.r.sl, uw l.r.ap, uu l.r.al, sd l.r.prim, uw l.r.np, uu l.r.nl]] w fun e w' => e = .returned (.bool (rightL l)) ∧ Below w.heap.size w w' := by
 have HL : Hid (LAt w.heap.size l (.slice wa l.q.ws.length wc) (.slice sa l.q.sk.length sc) (.slice pa l.r.ps.length pc) w) := hl
 clear hl
 have H0 : Hid _ := bx_new w #[uu l.cl, uu l.sh, uu l.sq, .bool l.an, iw l.q.k, uu l.q.c, uu l.q.n, uw l.q.sp, uu l.q.sl, uw l.q.ap, uu l.q.al, sd l.q.key, sd l.q.to, iw l.q.lim, .int .u8 (l.q.pt : Int), .slice wa l.q.ws.length wc, .slice sa l.q.sk.length sc, iw l.r.k, iw l.r.er, .bool l.r.fd, sd l.r.val, .slice pa l.r.ps.length pc, uu l.r.c, uu l.r.n, uw l.r.sp, uu l.r.sl, uw l.r.ap, uu l.r.al, sd l.r.prim, uw l.r.np, uu l.r.nl] 55
 obtain ⟨W1, hW1⟩ := xj (w.alloc (.cells #[uu l.cl, uu l.sh, uu l.sq, .bool l.an, iw l.q.k, uu l.q.c, uu l.q.n, uw l.q.sp, uu l.q.sl, uw l.q.ap, uu l.q.al, sd l.q.key, sd l.q.to, iw l.q.lim, .int .u8 (l.q.pt : Int), .slice wa l.q.ws.length wc, .slice sa l.q.sk.length sc, iw l.r.k, iw l.r.er, .bool l.r.fd, sd l.r.val, .slice pa l.r.ps.length pc, uu l.r.c, uu l.r.n, uw l.r.sp, uu l.r.sl, uw l.r.ap, uu l.r.al, sd l.r.prim, uw l.r.np, uu l.r.nl] 55))
 obtain ⟨b, hb⟩ := xj w.heap.size
 have B1 : Hid (Bx w b #[uu l.cl, uu l.sh, uu l.sq, .bool l.an, iw l.q.k, uu l.q.c, uu l.q.n, uw l.q.sp, uu l.q.sl, uw l.q.ap, uu l.q.al, sd l.q.key, sd l.q.to, iw l.q.lim, .int .u8 (l.q.pt : Int), .slice wa l.q.ws.length wc, .slice sa l.q.sk.length sc, iw l.r.k, iw l.r.er, .bool l.r.fd, sd l.r.val, .slice pa l.r.ps.length pc, uu l.r.c, uu l.r.n, uw l.r.sp, uu l.r.sl, uw l.r.ap, uu l.r.al, sd l.r.prim, uw l.r.np, uu l.r.nl] 55 W1) := by rw [← hb, ← hW1]; exact H0.out
 clear H0
 have p0 : W1.cell? ⟨b, 0, none⟩ = some (uu l.cl) := block_cell B1.out.x rfl
 have p1 : W1.cell? ⟨b, 1, none⟩ = some (uu l.sh) := block_cell B1.out.x rfl
 have p2 : W1.cell? ⟨b, 2, none⟩ = some (uu l.sq) := block_cell B1.out.x rfl
 have p3 : W1.cell? ⟨b, 3, none⟩ = some (.bool l.an) := block_cell B1.out.x rfl
 have p4 : W1.cell? ⟨b, 4, none⟩ = some (iw l.q.k) := block_cell B1.out.x rfl
 have p5 : W1.cell? ⟨b, 5, none⟩ = some (uu l.q.c) := block_cell B1.out.x rfl
 have p6 : W1.cell? ⟨b, 6, none⟩ = some (uu l.q.n) := block_cell B1.out.x rfl
 have p7 : W1.cell? ⟨b, 7, none⟩ = some (uw l.q.sp) := block_cell B1.out.x rfl
 have p8 : W1.cell? ⟨b, 8, none⟩ = some (uu l.q.sl) := block_cell B1.out.x rfl
 have p9 : W1.cell? ⟨b, 9, none⟩ = some (uw l.q.ap) := block_cell B1.out.x rfl
 have p10 : W1.cell? ⟨b, 10, none⟩ = some (uu l.q.al) := block_cell B1.out.x rfl
 have p11 : W1.cell? ⟨b, 11, none⟩ = some (sd l.q.key) := block_cell B1.out.x rfl
 have p12 : W1.cell? ⟨b, 12, none⟩ = some (sd l.q.to) := block_cell B1.out.x rfl
 have p13 : W1.cell? ⟨b, 13, none⟩ = some (iw l.q.lim) := block_cell B1.out.x rfl
 have p14 : W1.cell? ⟨b, 14, none⟩ = some (.int .u8 (l.q.pt : Int)) := block_cell B1.out.x rfl
 have p15 : W1.cell? ⟨b, 15, none⟩ = some (.slice wa l.q.ws.length wc) := block_cell B1.out.x rfl
 have p16 : W1.cell? ⟨b, 16, none⟩ = some (.slice sa l.q.sk.length sc) := block_cell B1.out.x rfl
 have p17 : W1.cell? ⟨b, 17, none⟩ = some (iw l.r.k) := block_cell B1.out.x rfl
 have p18 : W1.cell? ⟨b, 18, none⟩ = some (iw l.r.er) := block_cell B1.out.x rfl
 have p19 : W1.cell? ⟨b, 19, none⟩ = some (.bool l.r.fd) := block_cell B1.out.x rfl
 have p20 : W1.cell? ⟨b, 20, none⟩ = some (sd l.r.val) := block_cell B1.out.x rfl
 have p21 : W1.cell? ⟨b, 21, none⟩ = some (.slice pa l.r.ps.length pc) := block_cell B1.out.x rfl
 have p22 : W1.cell? ⟨b, 22, none⟩ = some (uu l.r.c) := block_cell B1.out.x rfl
 have p23 : W1.cell? ⟨b, 23, none⟩ = some (uu l.r.n) := block_cell B1.out.x rfl
 have p24 : W1.cell? ⟨b, 24, none⟩ = some (uw l.r.sp) := block_cell B1.out.x rfl
 have p25 : W1.cell? ⟨b, 25, none⟩ = some (uu l.r.sl) := block_cell B1.out.x rfl
 have p26 : W1.cell? ⟨b, 26, none⟩ = some (uw l.r.ap) := block_cell B1.out.x rfl
 have p27 : W1.cell? ⟨b, 27, none⟩ = some (uu l.r.al) := block_cell B1.out.x rfl
 have p28 : W1.cell? ⟨b, 28, none⟩ = some (sd l.r.prim) := block_cell B1.out.x rfl
 have p29 : W1.cell? ⟨b, 29, none⟩ = some (uw l.r.np) := block_cell B1.out.x rfl
 have p30 : W1.cell? ⟨b, 30, none⟩ = some (uu l.r.nl) := block_cell B1.out.x rfl
 by_cases d0 : l.cl < 4
 rotate_left
 ·have d0' : (4 : Int) ≤ l.cl := by omega
  go_enter Tryz.func25, Tryz.ntmps25
  go_wp2_with fail
  go_ret
  exact ⟨ret_bool (no_bool (fun h => d0 (rightL_iff.1 h).1)).symm, (by first | exact B1.out.bel | exact below_of hb B1.out.bel)⟩
 have d0' : ¬ (4 : Int) ≤ l.cl := by omega
 by_cases d1 : l.sh < 8
 rotate_left
 ·have d1' : (8 : Int) ≤ l.sh := by omega
  go_enter Tryz.func25, Tryz.ntmps25
  go_wp2_with fail
  go_ret
  exact ⟨ret_bool (no_bool (fun h => d1 (rightL_iff.1 h).2.1)).symm, (by first | exact B1.out.bel | exact below_of hb B1.out.bel)⟩
 have d1' : ¬ (8 : Int) ≤ l.sh := by omega
 obtain ⟨an, han⟩ := xj l.an
 have HAN : Hid (l.an = an) := han
 rw [han] at p3
 clear han
 cases an
 rotate_left
 ·go_enter Tryz.func25, Tryz.ntmps25
  go_wp2_with fail
  refine (noask24 l.q wa sa wc sc _).mono ?_
  rintro e w2 ⟨rfl, hb2⟩
  have B2 : Hid (Bx w b #[uu l.cl, uu l.sh, uu l.sq, .bool l.an, iw l.q.k, uu l.q.c, uu l.q.n, uw l.q.sp, uu l.q.sl, uw l.q.ap, uu l.q.al, sd l.q.key, sd l.q.to, iw l.q.lim, .int .u8 (l.q.pt : Int), .slice wa l.q.ws.length wc, .slice sa l.q.sk.length sc, iw l.r.k, iw l.r.er, .bool l.r.fd, sd l.r.val, .slice pa l.r.ps.length pc, uu l.r.c, uu l.r.n, uw l.r.sp, uu l.r.sl, uw l.r.ap, uu l.r.al, sd l.r.prim, uw l.r.np, uu l.r.nl] 55 w2) := B1.out.on hb2
  clear hb2 p0 p1 p2 p3 p4 p5 p6 p7 p8 p9 p10 p11 p12 p13 p14 p15 p16 p17 p18 p19 p20 p21 p22 p23 p24 p25 p26 p27 p28 p29 p30
  have p17 : w2.cell? ⟨b, 17, none⟩ = some (iw l.r.k) := block_cell B2.out.x rfl
  have p18 : w2.cell? ⟨b, 18, none⟩ = some (iw l.r.er) := block_cell B2.out.x rfl
  have p19 : w2.cell? ⟨b, 19, none⟩ = some (.bool l.r.fd) := block_cell B2.out.x rfl
  have p20 : w2.cell? ⟨b, 20, none⟩ = some (sd l.r.val) := block_cell B2.out.x rfl
  have p21 : w2.cell? ⟨b, 21, none⟩ = some (.slice pa l.r.ps.length pc) := block_cell B2.out.x rfl
  have p22 : w2.cell? ⟨b, 22, none⟩ = some (uu l.r.c) := block_cell B2.out.x rfl
  have p23 : w2.cell? ⟨b, 23, none⟩ = some (uu l.r.n) := block_cell B2.out.x rfl
  have p24 : w2.cell? ⟨b, 24, none⟩ = some (uw l.r.sp) := block_cell B2.out.x rfl
  have p25 : w2.cell? ⟨b, 25, none⟩ = some (uu l.r.sl) := block_cell B2.out.x rfl
  have p26 : w2.cell? ⟨b, 26, none⟩ = some (uw l.r.ap) := block_cell B2.out.x rfl
  have p27 : w2.cell? ⟨b, 27, none⟩ = some (uu l.r.al) := block_cell B2.out.x rfl
  have p28 : w2.cell? ⟨b, 28, none⟩ = some (sd l.r.prim) := block_cell B2.out.x rfl
  have p29 : w2.cell? ⟨b, 29, none⟩ = some (uw l.r.np) := block_cell B2.out.x rfl
  have p30 : w2.cell? ⟨b, 30, none⟩ = some (uu l.r.nl) := block_cell B2.out.x rfl
  have HR : Hid (rightL l = (sameQ l.q zQ && okR l.r)) := by show _ = _; simp [rightL, d0, d1, HAN.out]
  generalize sameQ l.q zQ = z at *
  cases z
  ·go_wp2_with fail
   go_ret
   exact ⟨ret_bool (by rw [HR.out]; rfl), (by first | exact B2.out.bel | exact below_of hb B2.out.bel)⟩
  go_wp2_with fail
  refine (reply25 l.r pa pc _ (HL.out.up B2.out.bel).r).mono ?_
  rintro e w3 ⟨rfl, hb3⟩
  have B3 : Hid (Bx w b #[uu l.cl, uu l.sh, uu l.sq, .bool l.an, iw l.q.k, uu l.q.c, uu l.q.n, uw l.q.sp, uu l.q.sl, uw l.q.ap, uu l.q.al, sd l.q.key, sd l.q.to, iw l.q.lim, .int .u8 (l.q.pt : Int), .slice wa l.q.ws.length wc, .slice sa l.q.sk.length sc, iw l.r.k, iw l.r.er, .bool l.r.fd, sd l.r.val, .slice pa l.r.ps.length pc, uu l.r.c, uu l.r.n, uw l.r.sp, uu l.r.sl, uw l.r.ap, uu l.r.al, sd l.r.prim, uw l.r.np, uu l.r.nl] 55 w3) := B2.out.on hb3
  clear hb3
  go_wp2_with fail
  go_ret
  exact ⟨ret_bool (by rw [HR.out]; rfl), (by first | exact B3.out.bel | exact below_of hb B3.out.bel)⟩
 go_enter Tryz.func25, Tryz.ntmps25
 go_wp2_with fail
 refine (noreply26 l.r pa pc _).mono ?_
 rintro e w2 ⟨rfl, hb2⟩
 have B2 : Hid (Bx w b #[uu l.cl, uu l.sh, uu l.sq, .bool l.an, iw l.q.k, uu l.q.c, uu l.q.n, uw l.q.sp, uu l.q.sl, uw l.q.ap, uu l.q.al, sd l.q.key, sd l.q.to, iw l.q.lim, .int .u8 (l.q.pt : Int), .slice wa l.q.ws.length wc, .slice sa l.q.sk.length sc, iw l.r.k, iw l.r.er, .bool l.r.fd, sd l.r.val, .slice pa l.r.ps.length pc, uu l.r.c, uu l.r.n, uw l.r.sp, uu l.r.sl, uw l.r.ap, uu l.r.al, sd l.r.prim, uw l.r.np, uu l.r.nl] 55 w2) := B1.out.on hb2
 clear hb2 p0 p1 p2 p3 p4 p5 p6 p7 p8 p9 p10 p11 p12 p13 p14 p15 p16 p17 p18 p19 p20 p21 p22 p23 p24 p25 p26 p27 p28 p29 p30
 have p4 : w2.cell? ⟨b, 4, none⟩ = some (iw l.q.k) := block_cell B2.out.x rfl
 have p5 : w2.cell? ⟨b, 5, none⟩ = some (uu l.q.c) := block_cell B2.out.x rfl
 have p6 : w2.cell? ⟨b, 6, none⟩ = some (uu l.q.n) := block_cell B2.out.x rfl
 have p7 : w2.cell? ⟨b, 7, none⟩ = some (uw l.q.sp) := block_cell B2.out.x rfl
 have p8 : w2.cell? ⟨b, 8, none⟩ = some (uu l.q.sl) := block_cell B2.out.x rfl
 have p9 : w2.cell? ⟨b, 9, none⟩ = some (uw l.q.ap) := block_cell B2.out.x rfl
 have p10 : w2.cell? ⟨b, 10, none⟩ = some (uu l.q.al) := block_cell B2.out.x rfl
 have p11 : w2.cell? ⟨b, 11, none⟩ = some (sd l.q.key) := block_cell B2.out.x rfl
 have p12 : w2.cell? ⟨b, 12, none⟩ = some (sd l.q.to) := block_cell B2.out.x rfl
 have p13 : w2.cell? ⟨b, 13, none⟩ = some (iw l.q.lim) := block_cell B2.out.x rfl
 have p14 : w2.cell? ⟨b, 14, none⟩ = some (.int .u8 (l.q.pt : Int)) := block_cell B2.out.x rfl
 have p15 : w2.cell? ⟨b, 15, none⟩ = some (.slice wa l.q.ws.length wc) := block_cell B2.out.x rfl
 have p16 : w2.cell? ⟨b, 16, none⟩ = some (.slice sa l.q.sk.length sc) := block_cell B2.out.x rfl
 have HR : Hid (rightL l = (sameR l.r zR && okQ l.q)) := by show _ = _; simp [rightL, d0, d1, HAN.out]
 generalize sameR l.r zR = z at *
 cases z
 ·go_wp2_with fail
  go_ret
  exact ⟨ret_bool (by rw [HR.out]; rfl), (by first | exact B2.out.bel | exact below_of hb B2.out.bel)⟩
 go_wp2_with fail
 refine (ask27 l.q wa sa wc sc _ (HL.out.up B2.out.bel).q).mono ?_
 rintro e w3 ⟨rfl, hb3⟩
 have B3 : Hid (Bx w b #[uu l.cl, uu l.sh, uu l.sq, .bool l.an, iw l.q.k, uu l.q.c, uu l.q.n, uw l.q.sp, uu l.q.sl, uw l.q.ap, uu l.q.al, sd l.q.key, sd l.q.to, iw l.q.lim, .int .u8 (l.q.pt : Int), .slice wa l.q.ws.length wc, .slice sa l.q.sk.length sc, iw l.r.k, iw l.r.er, .bool l.r.fd, sd l.r.val, .slice pa l.r.ps.length pc, uu l.r.c, uu l.r.n, uw l.r.sp, uu l.r.sl, uw l.r.ap, uu l.r.al, sd l.r.prim, uw l.r.np, uu l.r.nl] 55 w3) := B2.out.on hb3
 clear hb3
 go_wp2_with fail
 go_ret
 exact ⟨ret_bool (by rw [HR.out]; rfl), (by first | exact B3.out.bel | exact below_of hb B3.out.bel)⟩
end Go.Proofs.YtkdkgdollmmcnaaGreat
