import Derived.Test.YtkdkgdollmmcnaaGreatWaz
set_option maxHeartbeats 4000000
set_option maxRecDepth 100000
set_option linter.unusedVariables false
set_option linter.unusedSimpArgs false
namespace Go.Proofs.YtkdkgdollmmcnaaGreat
open Go.RowKit Go.Sort
theorem same11 (a b : Le) (wa sa pa xa ta ua : Option Addr) (wc sc pc xc tc uc : Nat) (w : World) (ha : LAt w.heap.size a (.slice wa a.q.ws.length wc) (.slice sa a.q.sk.length sc) (.slice pa a.r.ps.length pc) w) (hb : LAt w.heap.size b (.slice xa b.q.ws.length xc) (.slice ta b.q.sk.length tc) (.slice ua b.r.ps.length uc) w) :
  Calls Tryz.prog 67 #[.agg #[uu a.cl, uu a.sh, uu a.sq, .bool a.an, iw a.q.k, uu a.q.c, uu a.q.n, uw a.q.sp, uu a.q.sl, uw a.q.ap, uu a.q.al, sd a.q.key, sd a.q.to, iw a.q.lim, .int .u8 (a.q.pt : Int), .slice wa a.q.ws.length wc, .slice sa a.q.sk.length sc, iw a.r.k, iw a.r.er, .bool a.r.fd, sd a.r.val, .slice pa a.r.ps.length pc, uu a.r.c, uu a.r.n, uw a.r.sp, uu a.r.sl, uw a.r.ap, uu a.r.al, sd a.r.prim, uw a.r.np, uu a.r.nl], .agg #[uu b.cl, uu b.sh, uu b.sq, .bool b.an, iw b.q.k, uu b.q.c, uu b.q.n, uw b.q.sp, uu b.q.sl, uw b.q.ap, uu b.q.al, sd b.q.key, sd b.q.to, iw b.q.lim, .int .u8 (b.q.pt : Int), .slice xa b.q.ws.length xc, .slice ta b.q.sk.length tc, iw b.r.k, iw b.r.er, .bool b.r.fd, sd b.r.val, .slice ua b.r.ps.length uc, uu b.r.c, uu b.r.n, uw b.r.sp, uu b.r.sl, uw b.r.ap, uu b.r.al, sd b.r.prim, uw b.r.np, uu b.r.nl]] w fun e w' => e = .returned (.bool (sameL a b)) ∧ Below w.heap.size w w' := by
 have CQ : Hid (∀ W, Below w.heap.size w W → _) := fun W hW => asks34 a.q b.q wa sa xa ta wc sc xc tc W (ha.up hW).q (hb.up hW).q
 have CR : Hid (∀ W, Below w.heap.size w W → _) := fun W hW => same35 a.r b.r pa ua pc uc W (ha.up hW).r (hb.up hW).r
 clear ha hb
 have H0 : Hid _ := tw_new w #[uu a.cl, uu a.sh, uu a.sq, .bool a.an, iw a.q.k, uu a.q.c, uu a.q.n, uw a.q.sp, uu a.q.sl, uw a.q.ap, uu a.q.al, sd a.q.key, sd a.q.to, iw a.q.lim, .int .u8 (a.q.pt : Int), .slice wa a.q.ws.length wc, .slice sa a.q.sk.length sc, iw a.r.k, iw a.r.er, .bool a.r.fd, sd a.r.val, .slice pa a.r.ps.length pc, uu a.r.c, uu a.r.n, uw a.r.sp, uu a.r.sl, uw a.r.ap, uu a.r.al, sd a.r.prim, uw a.r.np, uu a.r.nl] #[uu b.cl, uu b.sh, uu b.sq, .bool b.an, iw b.q.k, uu b.q.c, uu b.q.n, uw b.q.sp, uu b.q.sl, uw b.q.ap, uu b.q.al, sd b.q.key, sd b.q.to, iw b.q.lim, .int .u8 (b.q.pt : Int), .slice xa b.q.ws.length xc, .slice ta b.q.sk.length tc, iw b.r.k, iw b.r.er, .bool b.r.fd, sd b.r.val, .slice ua b.r.ps.length uc, uu b.r.c, uu b.r.n, uw b.r.sp, uu b.r.sl, uw b.r.ap, uu b.r.al, sd b.r.prim, uw b.r.np, uu b.r.nl] 55
 obtain ⟨W0, hW0⟩ := xj (w.alloc (.cells #[uu a.cl, uu a.sh, uu a.sq, .bool a.an, iw a.q.k, uu a.q.c, uu a.q.n, uw a.q.sp, uu a.q.sl, uw a.q.ap, uu a.q.al, sd a.q.key, sd a.q.to, iw a.q.lim, .int .u8 (a.q.pt : Int), .slice wa a.q.ws.length wc, .slice sa a.q.sk.length sc, iw a.r.k, iw a.r.er, .bool a.r.fd, sd a.r.val, .slice pa a.r.ps.length pc, uu a.r.c, uu a.r.n, uw a.r.sp, uu a.r.sl, uw a.r.ap, uu a.r.al, sd a.r.prim, uw a.r.np, uu a.r.nl] 55))
 obtain ⟨W1, hW1⟩ := xj (W0.alloc (.cells #[uu b.cl, uu b.sh, uu b.sq, .bool b.an, iw b.q.k, uu b.q.c, uu b.q.n, uw b.q.sp, uu b.q.sl, uw b.q.ap, uu b.q.al, sd b.q.key, sd b.q.to, iw b.q.lim, .int .u8 (b.q.pt : Int), .slice xa b.q.ws.length xc, .slice ta b.q.sk.length tc, iw b.r.k, iw b.r.er, .bool b.r.fd, sd b.r.val, .slice ua b.r.ps.length uc, uu b.r.c, uu b.r.n, uw b.r.sp, uu b.r.sl, uw b.r.ap, uu b.r.al, sd b.r.prim, uw b.r.np, uu b.r.nl] 55))
 obtain ⟨ba, hba⟩ := xj w.heap.size
 obtain ⟨bb, hbb⟩ := xj (ba + 1)
 have hsz : W0.heap.size = bb := by rw [← hbb, ← hba, ← hW0]; simp
 have T1 : Hid (Tw w ba bb #[uu a.cl, uu a.sh, uu a.sq, .bool a.an, iw a.q.k, uu a.q.c, uu a.q.n, uw a.q.sp, uu a.q.sl, uw a.q.ap, uu a.q.al, sd a.q.key, sd a.q.to, iw a.q.lim, .int .u8 (a.q.pt : Int), .slice wa a.q.ws.length wc, .slice sa a.q.sk.length sc, iw a.r.k, iw a.r.er, .bool a.r.fd, sd a.r.val, .slice pa a.r.ps.length pc, uu a.r.c, uu a.r.n, uw a.r.sp, uu a.r.sl, uw a.r.ap, uu a.r.al, sd a.r.prim, uw a.r.np, uu a.r.nl] #[uu b.cl, uu b.sh, uu b.sq, .bool b.an, iw b.q.k, uu b.q.c, uu b.q.n, uw b.q.sp, uu b.q.sl, uw b.q.ap, uu b.q.al, sd b.q.key, sd b.q.to, iw b.q.lim, .int .u8 (b.q.pt : Int), .slice xa b.q.ws.length xc, .slice ta b.q.sk.length tc, iw b.r.k, iw b.r.er, .bool b.r.fd, sd b.r.val, .slice ua b.r.ps.length uc, uu b.r.c, uu b.r.n, uw b.r.sp, uu b.r.sl, uw b.r.ap, uu b.r.al, sd b.r.prim, uw b.r.np, uu b.r.nl] 55 W1) := by
  rw [← hW1, ← hW0, ← hbb, ← hba]
  exact H0.out
 clear H0
 have HY : Hid (sameL a b = ((a.cl == b.cl) && (a.sh == b.sh) && (a.sq == b.sq) && (a.an == b.an) && sameQ a.q b.q && sameR a.r b.r)) := rfl
 have e0 := nat_beq a.cl b.cl
 have e1 := nat_beq a.sh b.sh
 have e2 := nat_beq a.sq b.sq
 obtain ⟨z0, hz0⟩ := xj (a.cl == b.cl)
 obtain ⟨z1, hz1⟩ := xj (a.sh == b.sh)
 obtain ⟨z2, hz2⟩ := xj (a.sq == b.sq)
 obtain ⟨z3, hz3⟩ := xj (a.an == b.an)
 obtain ⟨z4, hz4⟩ := xj (sameQ a.q b.q)
 obtain ⟨z5, hz5⟩ := xj (sameR a.r b.r)
 rw [hz0, hz1, hz2, hz3, hz4, hz5] at HY
 rw [hz0] at e0
 rw [hz1] at e1
 rw [hz2] at e2
 rw [hz4] at CQ
 rw [hz5] at CR
 generalize sameL a b = y at *
 clear hz0 hz1 hz2 hz4 hz5
 have p0 : W1.cell? ⟨ba, 0, none⟩ = some (uu a.cl) := block_cell T1.out.xa rfl
 have p1 : W1.cell? ⟨ba, 1, none⟩ = some (uu a.sh) := block_cell T1.out.xa rfl
 have p2 : W1.cell? ⟨ba, 2, none⟩ = some (uu a.sq) := block_cell T1.out.xa rfl
 have p3 : W1.cell? ⟨ba, 3, none⟩ = some (.bool a.an) := block_cell T1.out.xa rfl
 have p4 : W1.cell? ⟨ba, 4, none⟩ = some (iw a.q.k) := block_cell T1.out.xa rfl
 have p5 : W1.cell? ⟨ba, 5, none⟩ = some (uu a.q.c) := block_cell T1.out.xa rfl
 have p6 : W1.cell? ⟨ba, 6, none⟩ = some (uu a.q.n) := block_cell T1.out.xa rfl
 have p7 : W1.cell? ⟨ba, 7, none⟩ = some (uw a.q.sp) := block_cell T1.out.xa rfl
 have p8 : W1.cell? ⟨ba, 8, none⟩ = some (uu a.q.sl) := block_cell T1.out.xa rfl
 have p9 : W1.cell? ⟨ba, 9, none⟩ = some (uw a.q.ap) := block_cell T1.out.xa rfl
 have p10 : W1.cell? ⟨ba, 10, none⟩ = some (uu a.q.al) := block_cell T1.out.xa rfl
 have p11 : W1.cell? ⟨ba, 11, none⟩ = some (sd a.q.key) := block_cell T1.out.xa rfl
 have p12 : W1.cell? ⟨ba, 12, none⟩ = some (sd a.q.to) := block_cell T1.out.xa rfl
 have p13 : W1.cell? ⟨ba, 13, none⟩ = some (iw a.q.lim) := block_cell T1.out.xa rfl
 have p14 : W1.cell? ⟨ba, 14, none⟩ = some (.int .u8 (a.q.pt : Int)) := block_cell T1.out.xa rfl
 have p15 : W1.cell? ⟨ba, 15, none⟩ = some (.slice wa a.q.ws.length wc) := block_cell T1.out.xa rfl
 have p16 : W1.cell? ⟨ba, 16, none⟩ = some (.slice sa a.q.sk.length sc) := block_cell T1.out.xa rfl
 have q0 : W1.cell? ⟨bb, 0, none⟩ = some (uu b.cl) := block_cell T1.out.xb rfl
 have q1 : W1.cell? ⟨bb, 1, none⟩ = some (uu b.sh) := block_cell T1.out.xb rfl
 have q2 : W1.cell? ⟨bb, 2, none⟩ = some (uu b.sq) := block_cell T1.out.xb rfl
 have q3 : W1.cell? ⟨bb, 3, none⟩ = some (.bool b.an) := block_cell T1.out.xb rfl
 have q4 : W1.cell? ⟨bb, 4, none⟩ = some (iw b.q.k) := block_cell T1.out.xb rfl
 have q5 : W1.cell? ⟨bb, 5, none⟩ = some (uu b.q.c) := block_cell T1.out.xb rfl
 have q6 : W1.cell? ⟨bb, 6, none⟩ = some (uu b.q.n) := block_cell T1.out.xb rfl
 have q7 : W1.cell? ⟨bb, 7, none⟩ = some (uw b.q.sp) := block_cell T1.out.xb rfl
 have q8 : W1.cell? ⟨bb, 8, none⟩ = some (uu b.q.sl) := block_cell T1.out.xb rfl
 have q9 : W1.cell? ⟨bb, 9, none⟩ = some (uw b.q.ap) := block_cell T1.out.xb rfl
 have q10 : W1.cell? ⟨bb, 10, none⟩ = some (uu b.q.al) := block_cell T1.out.xb rfl
 have q11 : W1.cell? ⟨bb, 11, none⟩ = some (sd b.q.key) := block_cell T1.out.xb rfl
 have q12 : W1.cell? ⟨bb, 12, none⟩ = some (sd b.q.to) := block_cell T1.out.xb rfl
 have q13 : W1.cell? ⟨bb, 13, none⟩ = some (iw b.q.lim) := block_cell T1.out.xb rfl
 have q14 : W1.cell? ⟨bb, 14, none⟩ = some (.int .u8 (b.q.pt : Int)) := block_cell T1.out.xb rfl
 have q15 : W1.cell? ⟨bb, 15, none⟩ = some (.slice xa b.q.ws.length xc) := block_cell T1.out.xb rfl
 have q16 : W1.cell? ⟨bb, 16, none⟩ = some (.slice ta b.q.sk.length tc) := block_cell T1.out.xb rfl
 cases z0
 ·go_enter Tryz.func67, Tryz.ntmps67
  (try simp only [List.append_eq, List.cons_append, List.nil_append])
  go_wp2_with fail
  go_ret
  exact ⟨by rw [HY.out]; rfl, (by first | exact T1.out.bel | exact below_of hba T1.out.bel)⟩
 cases z1
 ·go_enter Tryz.func67, Tryz.ntmps67
  (try simp only [List.append_eq, List.cons_append, List.nil_append])
  go_wp2_with fail
  go_ret
  exact ⟨by rw [HY.out]; rfl, (by first | exact T1.out.bel | exact below_of hba T1.out.bel)⟩
 cases z2
 ·go_enter Tryz.func67, Tryz.ntmps67
  (try simp only [List.append_eq, List.cons_append, List.nil_append])
  go_wp2_with fail
  go_ret
  exact ⟨by rw [HY.out]; rfl, (by first | exact T1.out.bel | exact below_of hba T1.out.bel)⟩
 cases z3
 ·go_enter Tryz.func67, Tryz.ntmps67
  (try simp only [List.append_eq, List.cons_append, List.nil_append])
  go_wp2_with fail
  go_ret
  exact ⟨by rw [HY.out]; rfl, (by first | exact T1.out.bel | exact below_of hba T1.out.bel)⟩
 go_enter Tryz.func67, Tryz.ntmps67
 (try simp only [List.append_eq, List.cons_append, List.nil_append])
 go_wp2_with fail
 refine (CQ.out _ T1.out.bel).mono ?_
 rintro e w2 ⟨rfl, hb2⟩
 have T2 : Hid (Tw w ba bb #[uu a.cl, uu a.sh, uu a.sq, .bool a.an, iw a.q.k, uu a.q.c, uu a.q.n, uw a.q.sp, uu a.q.sl, uw a.q.ap, uu a.q.al, sd a.q.key, sd a.q.to, iw a.q.lim, .int .u8 (a.q.pt : Int), .slice wa a.q.ws.length wc, .slice sa a.q.sk.length sc, iw a.r.k, iw a.r.er, .bool a.r.fd, sd a.r.val, .slice pa a.r.ps.length pc, uu a.r.c, uu a.r.n, uw a.r.sp, uu a.r.sl, uw a.r.ap, uu a.r.al, sd a.r.prim, uw a.r.np, uu a.r.nl] #[uu b.cl, uu b.sh, uu b.sq, .bool b.an, iw b.q.k, uu b.q.c, uu b.q.n, uw b.q.sp, uu b.q.sl, uw b.q.ap, uu b.q.al, sd b.q.key, sd b.q.to, iw b.q.lim, .int .u8 (b.q.pt : Int), .slice xa b.q.ws.length xc, .slice ta b.q.sk.length tc, iw b.r.k, iw b.r.er, .bool b.r.fd, sd b.r.val, .slice ua b.r.ps.length uc, uu b.r.c, uu b.r.n, uw b.r.sp, uu b.r.sl, uw b.r.ap, uu b.r.al, sd b.r.prim, uw b.r.np, uu b.r.nl] 55 w2) := T1.out.on hb2
 clear hb2 p0 q0 p1 q1 p2 q2 p3 q3 p4 q4 p5 q5 p6 q6 p7 q7 p8 q8 p9 q9 p10 q10 p11 q11 p12 q12 p13 q13 p14 q14 p15 q15 p16 q16
 have p17 : w2.cell? ⟨ba, 17, none⟩ = some (iw a.r.k) := block_cell T2.out.xa rfl
 have p18 : w2.cell? ⟨ba, 18, none⟩ = some (iw a.r.er) := block_cell T2.out.xa rfl
 have p19 : w2.cell? ⟨ba, 19, none⟩ = some (.bool a.r.fd) := block_cell T2.out.xa rfl
 have p20 : w2.cell? ⟨ba, 20, none⟩ = some (sd a.r.val) := block_cell T2.out.xa rfl
 have p21 : w2.cell? ⟨ba, 21, none⟩ = some (.slice pa a.r.ps.length pc) := block_cell T2.out.xa rfl
 have p22 : w2.cell? ⟨ba, 22, none⟩ = some (uu a.r.c) := block_cell T2.out.xa rfl
 have p23 : w2.cell? ⟨ba, 23, none⟩ = some (uu a.r.n) := block_cell T2.out.xa rfl
 have p24 : w2.cell? ⟨ba, 24, none⟩ = some (uw a.r.sp) := block_cell T2.out.xa rfl
 have p25 : w2.cell? ⟨ba, 25, none⟩ = some (uu a.r.sl) := block_cell T2.out.xa rfl
 have p26 : w2.cell? ⟨ba, 26, none⟩ = some (uw a.r.ap) := block_cell T2.out.xa rfl
 have p27 : w2.cell? ⟨ba, 27, none⟩ = some (uu a.r.al) := block_cell T2.out.xa rfl
 have p28 : w2.cell? ⟨ba, 28, none⟩ = some (sd a.r.prim) := block_cell T2.out.xa rfl
 have p29 : w2.cell? ⟨ba, 29, none⟩ = some (uw a.r.np) := block_cell T2.out.xa rfl
 have p30 : w2.cell? ⟨ba, 30, none⟩ = some (uu a.r.nl) := block_cell T2.out.xa rfl
 have q17 : w2.cell? ⟨bb, 17, none⟩ = some (iw b.r.k) := block_cell T2.out.xb rfl
 have q18 : w2.cell? ⟨bb, 18, none⟩ = some (iw b.r.er) := block_cell T2.out.xb rfl
 have q19 : w2.cell? ⟨bb, 19, none⟩ = some (.bool b.r.fd) := block_cell T2.out.xb rfl
 have q20 : w2.cell? ⟨bb, 20, none⟩ = some (sd b.r.val) := block_cell T2.out.xb rfl
 have q21 : w2.cell? ⟨bb, 21, none⟩ = some (.slice ua b.r.ps.length uc) := block_cell T2.out.xb rfl
 have q22 : w2.cell? ⟨bb, 22, none⟩ = some (uu b.r.c) := block_cell T2.out.xb rfl
 have q23 : w2.cell? ⟨bb, 23, none⟩ = some (uu b.r.n) := block_cell T2.out.xb rfl
 have q24 : w2.cell? ⟨bb, 24, none⟩ = some (uw b.r.sp) := block_cell T2.out.xb rfl
 have q25 : w2.cell? ⟨bb, 25, none⟩ = some (uu b.r.sl) := block_cell T2.out.xb rfl
 have q26 : w2.cell? ⟨bb, 26, none⟩ = some (uw b.r.ap) := block_cell T2.out.xb rfl
 have q27 : w2.cell? ⟨bb, 27, none⟩ = some (uu b.r.al) := block_cell T2.out.xb rfl
 have q28 : w2.cell? ⟨bb, 28, none⟩ = some (sd b.r.prim) := block_cell T2.out.xb rfl
 have q29 : w2.cell? ⟨bb, 29, none⟩ = some (uw b.r.np) := block_cell T2.out.xb rfl
 have q30 : w2.cell? ⟨bb, 30, none⟩ = some (uu b.r.nl) := block_cell T2.out.xb rfl
 cases z4
 ·go_wp2_with fail
  go_ret
  exact ⟨by rw [HY.out]; rfl, (by first | exact T2.out.bel | exact below_of hba T2.out.bel)⟩
 go_wp2_with fail
 refine (CR.out _ T2.out.bel).mono ?_
 rintro e w3 ⟨rfl, hb3⟩
 have T3 : Hid (Tw w ba bb #[uu a.cl, uu a.sh, uu a.sq, .bool a.an, iw a.q.k, uu a.q.c, uu a.q.n, uw a.q.sp, uu a.q.sl, uw a.q.ap, uu a.q.al, sd a.q.key, sd a.q.to, iw a.q.lim, .int .u8 (a.q.pt : Int), .slice wa a.q.ws.length wc, .slice sa a.q.sk.length sc, iw a.r.k, iw a.r.er, .bool a.r.fd, sd a.r.val, .slice pa a.r.ps.length pc, uu a.r.c, uu a.r.n, uw a.r.sp, uu a.r.sl, uw a.r.ap, uu a.r.al, sd a.r.prim, uw a.r.np, uu a.r.nl] #[uu b.cl, uu b.sh, uu b.sq, .bool b.an, iw b.q.k, uu b.q.c, uu b.q.n, uw b.q.sp, uu b.q.sl, uw b.q.ap, uu b.q.al, sd b.q.key, sd b.q.to, iw b.q.lim, .int .u8 (b.q.pt : Int), .slice xa b.q.ws.length xc, .slice ta b.q.sk.length tc, iw b.r.k, iw b.r.er, .bool b.r.fd, sd b.r.val, .slice ua b.r.ps.length uc, uu b.r.c, uu b.r.n, uw b.r.sp, uu b.r.sl, uw b.r.ap, uu b.r.al, sd b.r.prim, uw b.r.np, uu b.r.nl] 55 w3) := T2.out.on hb3
 clear hb3
 go_wp2_with fail
 go_ret
 exact ⟨by rw [HY.out]; rfl, (by first | exact T3.out.bel | exact below_of hba T3.out.bel)⟩
open Go.RowKit Go.Sort Go.Shelf
variable {M M' G N : Nat → Prop} {W W' w : World} {f f' : Fo} {X X' : Ss}
theorem clone35 (L : List Wr) (v : Value) (w : World) (hl : L.length ≤ 1000) (h : RwAt w.heap.size 3 v L.length (rowC wrc L) w) : Calls Tryz.prog 35 #[v] w fun r w' => ∃ v', r = .returned v' ∧ w'.ownsRow w.heap.size 70 3 v' L.length (rowC wrc L) ∧ Below w.heap.size w w' := by
 obtain ⟨i0, hin, hi0, hi1, hi2⟩ := info_parts Pla.info70
 have hs := h
 obtain ⟨ao, cap, rfl, h1, h2, h3, h4⟩ := hs
 have q : ∀ (w : World) (n c n' c' : Nat), (binOp .eql 50 (.slice ao n c) (.slice none n' c')).run Tryz.prog w = .ok (.bool ao.isNone) w := fun w n c n' c' => Lib.run_eql_slice_nil w _ _ ao n c n' c' Tryz.underlying50
 cases ao with
 | none =>
  have h0 : cap = 0 := by
   rcases Nat.eq_zero_or_pos cap with h0 | h0
   ·exact h0
   ·obtain ⟨b, o, e, _⟩ := h4 h0
    cases e
  have hn : L = [] := List.eq_nil_of_length_eq_zero (by omega)
  subst hn
  go_enter Tryz.func35, Tryz.ntmps35
  go_wp2_with fail
  go_ret
  exact ⟨_, rfl, World.ownsRow_nil _ _ _ _, Below.refl _ _⟩
 | some ad =>
  have hmade := World.ownsRow_made (e := 70) w #[] 0 (size := 3) (Nat.le_refl w.heap.size) (Nat.zero_le _) rfl
  have HOw : Hid (Ow w.heap.size 70 3 (.slice (some ⟨w.heap.size, 0, none⟩) 0 0) 0 [] w.heap.size (.slice (some ad) L.length cap) L.length (rowC wrc L) (w.alloc (.cells #[] 70))) := ⟨hmade, h.on (al _), rowC_cells wrc wrc_one _, by simp, by omega⟩
  clear h h1 h2 h3 h4 hmade
  go_enter Tryz.func35, Tryz.ntmps35
  go_wp2_with (at_builtin; refine wpList_append_rw HOw.out Tryz.underlying50 hin hi0 hi1 hi2 rfl (by decide) (by decide) (.tmp 5) (.tmp 6) rfl rfl rfl rfl ?_)
  intro v' w1 hown hg hat
  go_wp2_with fail
  go_ret
  exact ⟨v', rfl, by simpa using hown, ((Below.refl _ w).alloc (Nat.le_refl _) _).grown hg (by simp) (by intro k hk; simp [Value.ownBlock] at hk; omega)⟩
theorem clone36 (L : List Tn) (v : Value) (w : World) (hl : L.length ≤ 1000) (h : RwAt w.heap.size 2 v L.length (rowC tnc L) w) : Calls Tryz.prog 36 #[v] w fun r w' => ∃ v', r = .returned v' ∧ w'.ownsRow w.heap.size 38 2 v' L.length (rowC tnc L) ∧ Below w.heap.size w w' := by
 obtain ⟨i0, hin, hi0, hi1, hi2⟩ := info_parts info38
 have hs := h
 obtain ⟨ao, cap, rfl, h1, h2, h3, h4⟩ := hs
 have q : ∀ (w : World) (n c n' c' : Nat), (binOp .eql 51 (.slice ao n c) (.slice none n' c')).run Tryz.prog w = .ok (.bool ao.isNone) w := fun w n c n' c' => Lib.run_eql_slice_nil w _ _ ao n c n' c' Tryz.underlying51
 cases ao with
 | none =>
  have h0 : cap = 0 := by
   rcases Nat.eq_zero_or_pos cap with h0 | h0
   ·exact h0
   ·obtain ⟨b, o, e, _⟩ := h4 h0
    cases e
  have hn : L = [] := List.eq_nil_of_length_eq_zero (by omega)
  subst hn
  go_enter Tryz.func36, Tryz.ntmps36
  go_wp2_with fail
  go_ret
  exact ⟨_, rfl, World.ownsRow_nil _ _ _ _, Below.refl _ _⟩
 | some ad =>
  have hmade := World.ownsRow_made (e := 38) w #[] 0 (size := 2) (Nat.le_refl w.heap.size) (Nat.zero_le _) rfl
  have HOw : Hid (Ow w.heap.size 38 2 (.slice (some ⟨w.heap.size, 0, none⟩) 0 0) 0 [] w.heap.size (.slice (some ad) L.length cap) L.length (rowC tnc L) (w.alloc (.cells #[] 38))) := ⟨hmade, h.on (al _), rowC_cells tnc tnc_one _, by simp, by omega⟩
  clear h h1 h2 h3 h4 hmade
  go_enter Tryz.func36, Tryz.ntmps36
  go_wp2_with (at_builtin; refine wpList_append_rw HOw.out Tryz.underlying51 hin hi0 hi1 hi2 rfl (by decide) (by decide) (.tmp 5) (.tmp 6) rfl rfl rfl rfl ?_)
  intro v' w1 hown hg hat
  go_wp2_with fail
  go_ret
  exact ⟨v', rfl, by simpa using hown, ((Below.refl _ w).alloc (Nat.le_refl _) _).grown hg (by simp) (by intro k hk; simp [Value.ownBlock] at hk; omega)⟩
def Inc (s : Ss) : Prop := (s.asks.Pairwise fun a b => a.sq < b.sq) ∧ ∀ a ∈ s.asks, a.sq ≤ s.sq
def Nw (s S : Ss) : Prop := s.sq ≤ S.sq ∧ ∀ a ∈ S.asks, a ∈ s.asks ∨ s.sq < a.sq
def Iw (s S : Ss) : Prop := (Inc s → Inc S) ∧ Nw s S
theorem Iw.refl (s : Ss) : Iw s s := ⟨id, Nat.le_refl _, fun _ h => .inl h⟩
theorem Iw.same {s S : Ss} (h1 : S.asks = s.asks) (h2 : S.sq = s.sq) : Iw s S := by
 refine ⟨?_, by rw [h2]; exact Nat.le_refl _, fun a h => .inl (by rw [← h1]; exact h)⟩
 unfold Inc
 rw [h1, h2]
 exact id
theorem Iw.trans {a b c : Ss} (h : Iw a b) (g : Iw b c) : Iw a c := by
 refine ⟨fun x => g.1 (h.1 x), Nat.le_trans h.2.1 g.2.1, fun x hx => ?_⟩
 rcases g.2.2 x hx with h1 | h1
 ·exact h.2.2 x h1
 ·exact .inr (Nat.lt_of_le_of_lt h.2.1 h1)
theorem Iw.to {s S T : Ss} (h : Iw s S) (h1 : T.asks = S.asks) (h2 : T.sq = S.sq) : Iw s T := h.trans (Iw.same h1 h2)
theorem Iw.from {s S T : Ss} (h : Iw s S) (h1 : s.asks = T.asks) (h2 : s.sq = T.sq) : Iw T S := (Iw.same h1 h2).trans h
theorem ask_iw (s : Ss) (a : Ak) : Iw s (askF s a) := by
 refine ⟨fun h => ⟨?_, ?_⟩, Nat.le_succ _, fun x hx => ?_⟩
 ·show (s.asks ++ [{ a with sq := s.sq + 1 }]).Pairwise _
  rw [List.pairwise_append]
  refine ⟨h.1, List.pairwise_singleton _ _, fun x hx y hy => ?_⟩
  rw [List.mem_singleton] at hy
  subst hy
  exact Nat.lt_succ_of_le (h.2 x hx)
 ·intro x hx
  have hx' : x ∈ s.asks ++ [{ a with sq := s.sq + 1 }] := hx
  rw [List.mem_append, List.mem_singleton] at hx'
  rcases hx' with h1 | rfl
  ·exact Nat.le_succ_of_le (h.2 x h1)
  ·exact Nat.le_refl _
 ·have hx' : x ∈ s.asks ++ [{ a with sq := s.sq + 1 }] := hx
  rw [List.mem_append, List.mem_singleton] at hx'
  rcases hx' with h1 | rfl
  ·exact .inl h1
  ·exact .inr (Nat.lt_succ_self _)
theorem filter_iw (s : Ss) (p : Ak → Bool) : Iw s { s with asks := s.asks.filter p } := by
 refine ⟨fun h => ⟨h.1.filter _, fun a ha => h.2 a (List.mem_filter.1 ha).1⟩, Nat.le_refl _, fun a ha => .inl (List.mem_filter.1 ha).1⟩
theorem drop_iw (s : Ss) : Iw s (dropF s) := (filter_iw s Ak.ch).to rfl rfl
theorem scan_iw (s0 : Ss) (o : Op) : ∀ m i s, Iw s (scanAsks s0 o m i s)
 | 0, _, s => Iw.refl s
 | m + 1, i, s => (ask_iw s _).trans (scan_iw s0 o m (i + 1) _)
theorem lay_iw : ∀ l i s, Iw s (layAsks l i s)
 | [], _, s => Iw.refl s
 | p :: l, i, s => by
  unfold layAsks
  refine Iw.trans ?_ (lay_iw l (i + 1) _)
  split
  ·exact Iw.refl s
  ·exact (ask_iw s _).to rfl rfl
theorem chores_iw (q : Rq) (but : Option Nat) (h : Nat) : ∀ l i s, Iw s (choresF q but h l i s).1
 | [], _, s => Iw.refl s
 | p :: l, i, s => by
  unfold choresF
  split
  ·exact (ask_iw s _).trans (chores_iw q but h l (i + 1) _)
  ·exact chores_iw q but h l (i + 1) s
theorem fail_iw (s : Ss) (e : Int) : Iw s (failF s e).1 := drop_iw s
theorem given_iw (B : Bt) (s : Ss) (e : Int) : Iw s (givenF B s e).1 := ((drop_iw s).trans (chores_iw _ _ _ _ _ _)).to rfl rfl
theorem done_iw (s : Ss) (c n h : Nat) : Iw s (doneF s c n h) := ask_iw s _
theorem comm_aux (s : Ss) (c n h : Nat) (r : Ss × Nat) (hr : Iw s r.1) : Iw s (if r.2 = 0 then doneF r.1 c n h else r.1) := by
 split
 ·exact hr.trans (done_iw _ _ _ _)
 ·exact hr
theorem comm_iw (B : Bt) (s : Ss) (ap al : Nat) : Iw s (commF B s ap al).1 :=
 (comm_aux s s.cl s.n (homeF B s (priF s)) _ (((drop_iw s).to (T := { dropF s with np := (maxT (s.np, s.nl) (ap, al)).1, nl := (maxT (s.np, s.nl) (ap, al)).2 }) rfl rfl).trans (chores_iw { zQ with k := 5, c := s.cl, n := s.n, ap := ap, al := al } (some (homeF B s (priF s))) (homeF B s (priF s)) (B.parts s.ws s.nsh) 0 _))).to rfl rfl
theorem stop_iw (B : Bt) (s : Ss) (e : Int) : Iw s (stopF B s e).1 := by
 unfold stopF
 split
 ·exact given_iw B s e
 ·exact fail_iw s e
theorem lock_iw (B : Bt) (s : Ss) (a : Ak) (r : Rp) : Iw s (lockF B s a r).1 := by
 unfold lockF
 split
 ·exact stop_iw B s 1
 ·exact ask_iw s _
theorem push_iw (B : Bt) (s : Ss) (a : Ak) (r : Rp) : Iw s (pushF B s a r).1 := by
 unfold pushF
 split
 ·exact ask_iw s _
 split
 ·exact ask_iw s _
 split
 ·split
  ·exact given_iw B s 40
  split
  ·exact fail_iw s 3
  ·exact ask_iw s _
 ·exact stop_iw B s _
theorem ans_iw (B : Bt) (s : Ss) (a : Ak) (r : Rp) : Iw s (ansF B s a r).1 := by
 unfold ansF
 split
 ·exact lock_iw B s a r
 split
 ·exact drop_iw s
 split
 ·dsimp only
  split
  ·exact Iw.same rfl rfl
  ·exact (Iw.same (S := { s with ps := s.ps ++ r.ps, left := s.left - 1 }) rfl rfl).trans (drop_iw _)
 split
 ·dsimp only
  split
  ·exact (ask_iw _ _).from rfl rfl
  ·exact Iw.same rfl rfl
 split
 ·exact given_iw B s 40
 split
 ·exact given_iw B s 12
 ·exact stop_iw B s _
theorem dec_iw (B : Bt) (s : Ss) (r : Rp) : Iw s (decF B s r).1 := by
 unfold decF
 split
 ·exact comm_iw B s _ _
 split
 ·exact given_iw B s 12
 split
 ·exact given_iw B s _
 split
 ·exact (ask_iw _ _).from rfl rfl
 ·split
  ·exact (ask_iw _ _).from rfl rfl
  ·exact ask_iw _ _
theorem chore_iw (s : Ss) (a : Ak) (r : Rp) (h : r.k ≠ 0) : Iw s (choreF s a r) := by
 unfold choreF
 rw [if_neg h]
 split
 ·exact Iw.refl s
 split
 ·exact Iw.refl s
 ·exact done_iw s _ _ _
def restF (s : Ss) (l : Le) : Ss := { s with asks := s.asks.filter (fun x => !isA l x), np := (maxT (s.np, s.nl) (l.r.np, l.r.nl)).1, nl := (maxT (s.np, s.nl) (l.r.np, l.r.nl)).2 }
theorem rest_iw (s : Ss) (l : Le) : Iw s (restF s l) := (filter_iw s _).to rfl rfl
theorem hear_none (B : Bt) (s : Ss) (l : Le) (h : l.an = false ∨ l.cl ≠ s.cl ∨ pickA l s.asks = none) : hearF B s l = (s, zS) := by
 unfold hearF
 split
 ·rfl
 ·rename_i h1
  rcases h with h | h | h
  ·exact absurd (.inl h) h1
  ·exact absurd (.inr h) h1
  ·rw [h]
theorem hear_some (B : Bt) (s : Ss) (l : Le) (a : Ak) (hr : l.r.k ≠ 0) (h1 : l.an = true) (h2 : l.cl = s.cl) (h3 : pickA l s.asks = some a) : Iw (restF s l) (hearF B s l).1 := by
 unfold hearF
 rw [if_neg (by simp [h1, h2]), h3]
 dsimp only
 split
 ·exact chore_iw _ _ _ hr
 split
 ·exact push_iw B _ _ _
 split
 ·exact ask_iw _ _
 split
 ·exact ans_iw B _ _ _
 ·exact dec_iw B _ _
theorem hear_iw (B : Bt) (s : Ss) (l : Le) (hr : l.r.k ≠ 0) : Iw s (hearF B s l).1 := by
 by_cases h1 : l.an = true
 ·by_cases h2 : l.cl = s.cl
  ·cases h3 : pickA l s.asks with
   | none => rw [hear_none B s l (.inr (.inr h3))]; exact Iw.refl s
   | some a => exact (rest_iw s l).trans (hear_some B s l a hr h1 h2 h3)
  ·rw [hear_none B s l (.inr (.inl h2))]; exact Iw.refl s
 ·rw [hear_none B s l (.inl (by simpa using h1))]; exact Iw.refl s
theorem hear_twice (B : Bt) (s : Ss) (l : Le) (hI : Inc s) (hr : l.r.k ≠ 0) (o : List Le) : hearF B { (hearF B s l).1 with out := o } l = ({ (hearF B s l).1 with out := o }, zS) := by
 by_cases h1 : l.an = true
 ·by_cases h2 : l.cl = s.cl
  ·cases h3 : pickA l s.asks with
   | none =>
    rw [hear_none B s l (.inr (.inr h3))]
    exact hear_none B _ l (.inr (.inr h3))
   | some a =>
    refine hear_none B _ l (.inr (.inr ?_))
    show List.find? (isA l) (hearF B s l).1.asks = none
    have hm : a ∈ s.asks := List.mem_of_find?_eq_some h3
    have hh : isA l a = true := List.find?_some h3
    simp only [isA, Bool.and_eq_true, beq_iff_eq] at hh
    have hle := hI.2 a hm
    rw [List.find?_eq_none]
    intro x hx
    rcases (hear_some B s l a hr h1 h2 h3).2.2 x hx with h4 | h4
    ·have := (List.mem_filter.1 h4).2
     simpa using this
    ·have h5 : s.sq < x.sq := h4
     simp only [isA, Bool.and_eq_true, beq_iff_eq, not_and]
     omega
  ·rw [hear_none B s l (.inr (.inl h2))]
   exact hear_none B _ l (.inr (.inl h2))
 ·have h1' : l.an = false := by simpa using h1
  rw [hear_none B s l (.inl h1')]
  exact hear_none B _ l (.inl h1')
theorem insA_mem (a : Ak) : ∀ (l : List Ak) (x : Ak), x ∈ insA a l ↔ x = a ∨ x ∈ l
 | [], x => by simp [insA]
 | y :: l, x => by
  unfold insA
  split
  ·rw [List.mem_cons, insA_mem a l x, List.mem_cons]
   constructor
   ·rintro (h | h | h)
    ·exact .inr (.inl h)
    ·exact .inl h
    ·exact .inr (.inr h)
   ·rintro (h | h | h)
    ·exact .inr (.inl h)
    ·exact .inl h
    ·exact .inr (.inr h)
  ·rw [List.mem_cons]
theorem insA_inc (a : Ak) : ∀ (l : List Ak), (l.Pairwise fun a b => a.sq < b.sq) → (∀ x ∈ l, x.sq ≠ a.sq) → (insA a l).Pairwise fun a b => a.sq < b.sq
 | [], _, _ => List.pairwise_singleton _ _
 | y :: l, h, hn => by
  rw [List.pairwise_cons] at h
  have hy := hn y (List.mem_cons_self)
  unfold insA
  split
  ·rename_i hlt
   rw [List.pairwise_cons]
   refine ⟨fun x hx => ?_, insA_inc a l h.2 fun x hx => hn x (List.mem_cons_of_mem _ hx)⟩
   rw [insA_mem] at hx
   rcases hx with rfl | hx
   ·exact hlt
   ·exact h.1 x hx
  ·rename_i hlt
   rw [List.pairwise_cons, List.pairwise_cons]
   refine ⟨fun x hx => ?_, h⟩
   rw [List.mem_cons] at hx
   rcases hx with rfl | hx
   ·omega
   ·have := h.1 x hx; omega
theorem one_sq {L : List Ak} (hp : L.Pairwise fun a b => a.sq < b.sq) {x a : Ak} (hx : x ∈ L) (ha : a ∈ L) (e : x.sq = a.sq) : x = a := by
 induction L with
 | nil => cases hx
 | cons y L ih =>
  rw [List.pairwise_cons] at hp
  rw [List.mem_cons] at hx ha
  rcases hx with rfl | hx
  ·rcases ha with rfl | ha
   ·rfl
   ·have := hp.1 a ha; omega
  ·rcases ha with rfl | ha
   ·have := hp.1 x hx; omega
   ·exact ih hp.2 hx ha
theorem inc_ne {s : Ss} (h : Inc s) (l : Le) (a : Ak) (ha : pickA l s.asks = some a) : ∀ x ∈ (restF s l).asks, x.sq ≠ a.sq := by
 intro x hx e
 obtain ⟨h1, h2⟩ := List.mem_filter.1 hx
 have hm : a ∈ s.asks := List.mem_of_find?_eq_some ha
 have hh : isA l a = true := List.find?_some ha
 have : x = a := one_sq h.1 h1 hm e
 subst this
 simp [hh] at h2
theorem hear_inc (B : Bt) (s : Ss) (l : Le) (hI : Inc s) : Inc (hearF B s l).1 := by
 by_cases hr : l.r.k = 0
 ·by_cases h1 : l.an = true
  ·by_cases h2 : l.cl = s.cl
   ·cases h3 : pickA l s.asks with
    | none => rw [hear_none B s l (.inr (.inr h3))]; exact hI
    | some a =>
     have hR := (rest_iw s l).1 hI
     have hne := inc_ne hI l a h3
     unfold hearF
     rw [if_neg (by simp [h1, h2]), h3]
     dsimp only
     split
     ·unfold choreF
      rw [if_pos hr]
      refine ⟨insA_inc _ _ hR.1 hne, fun x hx => ?_⟩
      have hx' : x ∈ insA { a with rs := true } (restF s l).asks := hx
      rw [insA_mem] at hx'
      rcases hx' with rfl | hx'
      ·exact hI.2 a (List.mem_of_find?_eq_some h3)
      ·exact hR.2 x hx'
     split
     ·exact (push_iw B _ _ _).1 hR
     split
     ·exact (stop_iw B _ _).1 hR
     split
     ·exact (ans_iw B _ _ _).1 hR
     ·exact (dec_iw B _ _).1 hR
   ·rw [hear_none B s l (.inr (.inl h2))]; exact hI
  ·rw [hear_none B s l (.inl (by simpa using h1))]; exact hI
 ·exact (hear_iw B s l hr).1 hI
theorem do_iw (B : Bt) (s : Ss) (phys : Nat) (o : Op) : Iw s (doF B s phys o).1 := by
 have hput : ∀ w, Iw s (putF B s w).1 := fun w => by
  unfold putF
  split
  ·exact Iw.refl s
  split
  ·exact Iw.same rfl rfl
  split
  ·exact Iw.refl s
  ·exact Iw.same rfl rfl
 unfold doF
 split
 ·exact Iw.refl s
 split
 ·split
  ·exact Iw.refl s
  split
  ·exact Iw.refl s
  ·exact Iw.same rfl rfl
 split
 ·exact Iw.refl s
 split
 ·exact hput _
 split
 ·exact hput _
 split
 ·split
  ·exact Iw.refl s
  split
  ·exact Iw.refl s
  ·exact (ask_iw _ _).from rfl rfl
 split
 ·split
  ·exact Iw.refl s
  ·exact (scan_iw s o _ _ _).from rfl rfl
 split
 ·unfold commitF
  split
  ·exact Iw.same rfl rfl
  ·exact (lay_iw _ _ _).from rfl rfl
 split
 ·exact Iw.same rfl rfl
 ·exact Iw.refl s
theorem give_iw (B : Bt) (s : Ss) : Iw s (giveF B s).1 := by
 unfold giveF
 split
 ·exact Iw.refl s
 split
 ·exact fail_iw s 42
 split
 ·exact given_iw B s 42
 ·exact (drop_iw s).to rfl rfl
theorem new_inc (c n : Nat) : Inc (Ss.new c n) := ⟨.nil, fun _ h => by cases h⟩
def leT (a b : Nat × Nat) : Prop := a.1 < b.1 ∨ a.1 = b.1 ∧ a.2 ≤ b.2
def ltT (a b : Nat × Nat) : Prop := a.1 < b.1 ∨ a.1 = b.1 ∧ a.2 < b.2
theorem leT.refl (a : Nat × Nat) : leT a a := .inr ⟨rfl, Nat.le_refl _⟩
theorem leT.trans {a b c : Nat × Nat} (h : leT a b) (g : leT b c) : leT a c := by unfold leT at *; omega
theorem ltT.le {a b : Nat × Nat} (h : ltT a b) : leT a b := by unfold leT; unfold ltT at h; omega
theorem max_l (a b : Nat × Nat) : leT a (maxT a b) := by
 unfold maxT
 split
 ·rename_i h; unfold leT; omega
 ·exact leT.refl a
theorem max_r (a b : Nat × Nat) : leT b (maxT a b) := by
 unfold maxT
 split
 ·exact leT.refl b
 ·rename_i h; unfold leT; omega
def nowF (s : Ss) : Nat × Nat := (s.np, s.nl)
def startF (s : Ss) : Nat × Nat := (s.sp, s.sl)
def St (s S : Ss) : Prop := nowF S = nowF s ∧ startF S = startF s ∧ S.n = s.n ∧ S.cl = s.cl ∧ S.nsh = s.nsh
theorem St.refl (s : Ss) : St s s := ⟨rfl, rfl, rfl, rfl, rfl⟩
theorem St.trans {a b c : Ss} (h : St a b) (g : St b c) : St a c := ⟨g.1.trans h.1, g.2.1.trans h.2.1, g.2.2.1.trans h.2.2.1, g.2.2.2.1.trans h.2.2.2.1, g.2.2.2.2.trans h.2.2.2.2⟩
theorem ask_st (s : Ss) (a : Ak) : St s (askF s a) := ⟨rfl, rfl, rfl, rfl, rfl⟩
theorem drop_st (s : Ss) : St s (dropF s) := ⟨rfl, rfl, rfl, rfl, rfl⟩
theorem scan_st (s0 : Ss) (o : Op) : ∀ m i s, St s (scanAsks s0 o m i s)
 | 0, _, s => St.refl s
 | m + 1, i, s => (ask_st s _).trans (scan_st s0 o m (i + 1) _)
theorem lay_st : ∀ l i s, St s (layAsks l i s)
 | [], _, s => St.refl s
 | p :: l, i, s => by
  unfold layAsks
  refine St.trans ?_ (lay_st l (i + 1) _)
  split
  ·exact St.refl s
  ·exact ⟨rfl, rfl, rfl, rfl, rfl⟩
theorem chores_st (q : Rq) (but : Option Nat) (h : Nat) : ∀ l i s, St s (choresF q but h l i s).1
 | [], _, s => St.refl s
 | p :: l, i, s => by
  unfold choresF
  split
  ·exact (ask_st s _).trans (chores_st q but h l (i + 1) _)
  ·exact chores_st q but h l (i + 1) s
def Cm (s : Ss) (r : Ss × Rs) : Prop := leT (nowF s) (nowF r.1) ∧ startF r.1 = startF s ∧ r.1.n = s.n ∧ r.1.cl = s.cl ∧ r.1.nsh = s.nsh ∧ (r.2.k = 4 → leT (r.2.ap, r.2.al) (nowF r.1))
theorem Cm.of {s : Ss} {r : Ss × Rs} (h : St s r.1) (hk : r.2.k ≠ 4) : Cm s r := ⟨by rw [h.1]; exact leT.refl _, h.2.1, h.2.2.1, h.2.2.2.1, h.2.2.2.2, fun e => absurd e hk⟩
theorem res_k (s : Ss) (k : Int) : (resF s k).k = k := by unfold resF; split <;> rfl
theorem fail_cm (s : Ss) (e : Int) : Cm s (failF s e) := Cm.of (drop_st s) (by show (resF _ 6).k ≠ 4; rw [res_k]; decide)
theorem given_cm (B : Bt) (s : Ss) (e : Int) : Cm s (givenF B s e) :=
 Cm.of ((drop_st s).trans ((chores_st _ _ _ _ _ _).trans ⟨rfl, rfl, rfl, rfl, rfl⟩)) (by show (resF s 5).k ≠ 4; rw [res_k]; decide)
theorem comm_cm (B : Bt) (s : Ss) (ap al : Nat) : Cm s (commF B s ap al) := by
 have hS : ∀ (r : Ss × Nat) (c n h : Nat), St r.1 (if r.2 = 0 then doneF r.1 c n h else r.1) := fun r c n h => by
  split
  ·exact ask_st _ _
  ·exact St.refl _
 have h1 : St { dropF s with np := (maxT (s.np, s.nl) (ap, al)).1, nl := (maxT (s.np, s.nl) (ap, al)).2 } (commF B s ap al).1 := by
  refine (chores_st { zQ with k := 5, c := s.cl, n := s.n, ap := ap, al := al } (some (homeF B s (priF s))) (homeF B s (priF s)) (B.parts s.ws s.nsh) 0 _).trans ((hS _ s.cl s.n (homeF B s (priF s))).trans ⟨rfl, rfl, rfl, rfl, rfl⟩)
 refine ⟨?_, h1.2.1, h1.2.2.1, h1.2.2.2.1, h1.2.2.2.2, fun _ => ?_⟩
 ·rw [h1.1]; exact max_l (s.np, s.nl) (ap, al)
 ·rw [h1.1]; exact max_r (s.np, s.nl) (ap, al)
theorem stop_cm (B : Bt) (s : Ss) (e : Int) : Cm s (stopF B s e) := by
 unfold stopF
 split
 ·exact given_cm B s e
 ·exact fail_cm s e
theorem zs_k : zS.k ≠ 4 := by decide
theorem lock_cm (B : Bt) (s : Ss) (a : Ak) (r : Rp) : Cm s (lockF B s a r) := by
 unfold lockF
 split
 ·exact stop_cm B s 1
 ·exact Cm.of (ask_st s _) zs_k
theorem push_cm (B : Bt) (s : Ss) (a : Ak) (r : Rp) : Cm s (pushF B s a r) := by
 unfold pushF
 split
 ·exact Cm.of (ask_st s _) zs_k
 split
 ·exact Cm.of (ask_st s _) zs_k
 split
 ·split
  ·exact given_cm B s 40
  split
  ·exact fail_cm s 3
  ·exact Cm.of (ask_st s _) zs_k
 ·exact stop_cm B s _
theorem ans_cm (B : Bt) (s : Ss) (a : Ak) (r : Rp) : Cm s (ansF B s a r) := by
 unfold ansF
 split
 ·exact lock_cm B s a r
 split
 ·exact Cm.of (drop_st s) (by show (resF s 2).k ≠ 4; rw [res_k]; decide)
 split
 ·dsimp only
  split
  ·exact Cm.of ⟨rfl, rfl, rfl, rfl, rfl⟩ zs_k
  ·refine Cm.of ⟨rfl, rfl, rfl, rfl, rfl⟩ ?_
   show (resF _ 3).k ≠ 4
   rw [res_k]; decide
 split
 ·dsimp only
  split
  ·exact Cm.of ⟨rfl, rfl, rfl, rfl, rfl⟩ zs_k
  ·exact Cm.of ⟨rfl, rfl, rfl, rfl, rfl⟩ zs_k
 split
 ·exact given_cm B s 40
 split
 ·exact given_cm B s 12
 ·exact stop_cm B s _
theorem dec_cm (B : Bt) (s : Ss) (r : Rp) : Cm s (decF B s r) := by
 unfold decF
 split
 ·exact comm_cm B s _ _
 split
 ·exact given_cm B s 12
 split
 ·exact given_cm B s _
 split
 ·exact Cm.of ⟨rfl, rfl, rfl, rfl, rfl⟩ zs_k
 ·split
  ·exact Cm.of ⟨rfl, rfl, rfl, rfl, rfl⟩ zs_k
  ·exact Cm.of ⟨rfl, rfl, rfl, rfl, rfl⟩ zs_k
theorem chore_st (s : Ss) (a : Ak) (r : Rp) : St s (choreF s a r) := by
 unfold choreF
 split
 ·exact ⟨rfl, rfl, rfl, rfl, rfl⟩
 split
 ·exact St.refl s
 split
 ·exact St.refl s
 ·exact ask_st s _
theorem hear_cm (B : Bt) (s : Ss) (l : Le) : Cm s (hearF B s l) := by
 have hN : Cm s (s, zS) := Cm.of (St.refl s) zs_k
 have hR : ∀ r, Cm (restF s l) r → Cm s r := fun r g => ⟨(max_l (s.np, s.nl) (l.r.np, l.r.nl)).trans g.1, g.2⟩
 unfold hearF
 split
 ·exact hN
 ·split
  ·exact hN
  ·dsimp only
   split
   ·exact hR _ (Cm.of (chore_st _ _ _) zs_k)
   split
   ·exact hR _ (push_cm B _ _ _)
   split
   ·split
    ·exact hR _ (stop_cm B _ _)
    ·exact hR _ (Cm.of (ask_st _ _) zs_k)
   split
   ·exact hR _ (ans_cm B _ _ _)
   ·exact hR _ (dec_cm B _ _)
theorem give_cm (B : Bt) (s : Ss) : Cm s (giveF B s) := by
 have hb : ∀ (s' : Ss) (k : Int) (h : k ≠ 4), (resF s' k).k ≠ 4 := fun s' k h => by rw [res_k]; exact h
 unfold giveF
 split
 ·exact Cm.of (St.refl s) (hb s 6 (by decide))
 split
 ·exact fail_cm s 42
 split
 ·exact given_cm B s 42
 ·exact Cm.of ⟨rfl, rfl, rfl, rfl, rfl⟩ (hb s 7 (by decide))
end Go.Proofs.YtkdkgdollmmcnaaGreat
