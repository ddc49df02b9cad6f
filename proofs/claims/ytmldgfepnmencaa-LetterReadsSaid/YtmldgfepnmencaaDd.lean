/-
  The document's comparison of letters.
-/
import Derived.Test.YtmldgfepnmencaaDb
namespace Go.Proofs.Ytmldgfepnmencaa
open Go.RowKit Go.Sort

set_option maxHeartbeats 6400000 in
set_option maxRecDepth 100000 in
theorem same11 (a b : Le) (wa sa pa xa ta ua : Option Addr) (wc sc pc xc tc uc : Nat) (w : World) (ha : LAt w.heap.size a (.slice wa a.q.ws.length wc) (.slice sa a.q.sk.length sc) (.slice pa a.r.ps.length pc) w) (hb : LAt w.heap.size b (.slice xa b.q.ws.length xc) (.slice ta b.q.sk.length tc) (.slice ua b.r.ps.length uc) w) :
    Calls Try.prog 11 #[.agg #[.int .u32 (a.cl : Int), .int .u32 (a.sh : Int), .int .u32 (a.sq : Int), .bool a.an, .int .i64 a.q.k, .int .u32 (a.q.c : Int), .int .u32 (a.q.n : Int), .int .u64 (a.q.sp : Int), .int .u32 (a.q.sl : Int), .int .u64 (a.q.ap : Int), .int .u32 (a.q.al : Int), .string (bs a.q.key), .string (bs a.q.to), .int .i64 a.q.lim, .int .u8 (a.q.pt : Int), .slice wa a.q.ws.length wc, .slice sa a.q.sk.length sc, .int .i64 a.r.k, .int .i64 a.r.er, .bool a.r.fd, .string (bs a.r.val), .slice pa a.r.ps.length pc, .int .u32 (a.r.c : Int), .int .u32 (a.r.n : Int), .int .u64 (a.r.sp : Int), .int .u32 (a.r.sl : Int), .int .u64 (a.r.ap : Int), .int .u32 (a.r.al : Int), .string (bs a.r.prim), .int .u64 (a.r.np : Int), .int .u32 (a.r.nl : Int)], .agg #[.int .u32 (b.cl : Int), .int .u32 (b.sh : Int), .int .u32 (b.sq : Int), .bool b.an, .int .i64 b.q.k, .int .u32 (b.q.c : Int), .int .u32 (b.q.n : Int), .int .u64 (b.q.sp : Int), .int .u32 (b.q.sl : Int), .int .u64 (b.q.ap : Int), .int .u32 (b.q.al : Int), .string (bs b.q.key), .string (bs b.q.to), .int .i64 b.q.lim, .int .u8 (b.q.pt : Int), .slice xa b.q.ws.length xc, .slice ta b.q.sk.length tc, .int .i64 b.r.k, .int .i64 b.r.er, .bool b.r.fd, .string (bs b.r.val), .slice ua b.r.ps.length uc, .int .u32 (b.r.c : Int), .int .u32 (b.r.n : Int), .int .u64 (b.r.sp : Int), .int .u32 (b.r.sl : Int), .int .u64 (b.r.ap : Int), .int .u32 (b.r.al : Int), .string (bs b.r.prim), .int .u64 (b.r.np : Int), .int .u32 (b.r.nl : Int)]] w fun e w' => e = .returned (.bool (sameL a b)) ∧ Below w.heap.size w w' := by
  have CQ : Hid (∀ W, Below w.heap.size w W → _) := fun W hW => asks34 a.q b.q wa sa xa ta wc sc xc tc W (ha.up hW).q (hb.up hW).q
  have CR : Hid (∀ W, Below w.heap.size w W → _) := fun W hW => same35 a.r b.r pa ua pc uc W (ha.up hW).r (hb.up hW).r
  clear ha hb
  have H0 : Hid _ := tw_new w #[.int .u32 (a.cl : Int), .int .u32 (a.sh : Int), .int .u32 (a.sq : Int), .bool a.an, .int .i64 a.q.k, .int .u32 (a.q.c : Int), .int .u32 (a.q.n : Int), .int .u64 (a.q.sp : Int), .int .u32 (a.q.sl : Int), .int .u64 (a.q.ap : Int), .int .u32 (a.q.al : Int), .string (bs a.q.key), .string (bs a.q.to), .int .i64 a.q.lim, .int .u8 (a.q.pt : Int), .slice wa a.q.ws.length wc, .slice sa a.q.sk.length sc, .int .i64 a.r.k, .int .i64 a.r.er, .bool a.r.fd, .string (bs a.r.val), .slice pa a.r.ps.length pc, .int .u32 (a.r.c : Int), .int .u32 (a.r.n : Int), .int .u64 (a.r.sp : Int), .int .u32 (a.r.sl : Int), .int .u64 (a.r.ap : Int), .int .u32 (a.r.al : Int), .string (bs a.r.prim), .int .u64 (a.r.np : Int), .int .u32 (a.r.nl : Int)] #[.int .u32 (b.cl : Int), .int .u32 (b.sh : Int), .int .u32 (b.sq : Int), .bool b.an, .int .i64 b.q.k, .int .u32 (b.q.c : Int), .int .u32 (b.q.n : Int), .int .u64 (b.q.sp : Int), .int .u32 (b.q.sl : Int), .int .u64 (b.q.ap : Int), .int .u32 (b.q.al : Int), .string (bs b.q.key), .string (bs b.q.to), .int .i64 b.q.lim, .int .u8 (b.q.pt : Int), .slice xa b.q.ws.length xc, .slice ta b.q.sk.length tc, .int .i64 b.r.k, .int .i64 b.r.er, .bool b.r.fd, .string (bs b.r.val), .slice ua b.r.ps.length uc, .int .u32 (b.r.c : Int), .int .u32 (b.r.n : Int), .int .u64 (b.r.sp : Int), .int .u32 (b.r.sl : Int), .int .u64 (b.r.ap : Int), .int .u32 (b.r.al : Int), .string (bs b.r.prim), .int .u64 (b.r.np : Int), .int .u32 (b.r.nl : Int)] 37
  obtain ⟨W0, hW0⟩ : ∃ W0, w.alloc (.cells #[.int .u32 (a.cl : Int), .int .u32 (a.sh : Int), .int .u32 (a.sq : Int), .bool a.an, .int .i64 a.q.k, .int .u32 (a.q.c : Int), .int .u32 (a.q.n : Int), .int .u64 (a.q.sp : Int), .int .u32 (a.q.sl : Int), .int .u64 (a.q.ap : Int), .int .u32 (a.q.al : Int), .string (bs a.q.key), .string (bs a.q.to), .int .i64 a.q.lim, .int .u8 (a.q.pt : Int), .slice wa a.q.ws.length wc, .slice sa a.q.sk.length sc, .int .i64 a.r.k, .int .i64 a.r.er, .bool a.r.fd, .string (bs a.r.val), .slice pa a.r.ps.length pc, .int .u32 (a.r.c : Int), .int .u32 (a.r.n : Int), .int .u64 (a.r.sp : Int), .int .u32 (a.r.sl : Int), .int .u64 (a.r.ap : Int), .int .u32 (a.r.al : Int), .string (bs a.r.prim), .int .u64 (a.r.np : Int), .int .u32 (a.r.nl : Int)] 37) = W0 := ⟨_, rfl⟩
  obtain ⟨W1, hW1⟩ : ∃ W1, W0.alloc (.cells #[.int .u32 (b.cl : Int), .int .u32 (b.sh : Int), .int .u32 (b.sq : Int), .bool b.an, .int .i64 b.q.k, .int .u32 (b.q.c : Int), .int .u32 (b.q.n : Int), .int .u64 (b.q.sp : Int), .int .u32 (b.q.sl : Int), .int .u64 (b.q.ap : Int), .int .u32 (b.q.al : Int), .string (bs b.q.key), .string (bs b.q.to), .int .i64 b.q.lim, .int .u8 (b.q.pt : Int), .slice xa b.q.ws.length xc, .slice ta b.q.sk.length tc, .int .i64 b.r.k, .int .i64 b.r.er, .bool b.r.fd, .string (bs b.r.val), .slice ua b.r.ps.length uc, .int .u32 (b.r.c : Int), .int .u32 (b.r.n : Int), .int .u64 (b.r.sp : Int), .int .u32 (b.r.sl : Int), .int .u64 (b.r.ap : Int), .int .u32 (b.r.al : Int), .string (bs b.r.prim), .int .u64 (b.r.np : Int), .int .u32 (b.r.nl : Int)] 37) = W1 := ⟨_, rfl⟩
  obtain ⟨ba, hba⟩ : ∃ ba, w.heap.size = ba := ⟨_, rfl⟩
  obtain ⟨bb, hbb⟩ : ∃ bb, ba + 1 = bb := ⟨_, rfl⟩
  have hsz : W0.heap.size = bb := by rw [← hbb, ← hba, ← hW0]; simp
  have T1 : Hid (Tw w ba bb #[.int .u32 (a.cl : Int), .int .u32 (a.sh : Int), .int .u32 (a.sq : Int), .bool a.an, .int .i64 a.q.k, .int .u32 (a.q.c : Int), .int .u32 (a.q.n : Int), .int .u64 (a.q.sp : Int), .int .u32 (a.q.sl : Int), .int .u64 (a.q.ap : Int), .int .u32 (a.q.al : Int), .string (bs a.q.key), .string (bs a.q.to), .int .i64 a.q.lim, .int .u8 (a.q.pt : Int), .slice wa a.q.ws.length wc, .slice sa a.q.sk.length sc, .int .i64 a.r.k, .int .i64 a.r.er, .bool a.r.fd, .string (bs a.r.val), .slice pa a.r.ps.length pc, .int .u32 (a.r.c : Int), .int .u32 (a.r.n : Int), .int .u64 (a.r.sp : Int), .int .u32 (a.r.sl : Int), .int .u64 (a.r.ap : Int), .int .u32 (a.r.al : Int), .string (bs a.r.prim), .int .u64 (a.r.np : Int), .int .u32 (a.r.nl : Int)] #[.int .u32 (b.cl : Int), .int .u32 (b.sh : Int), .int .u32 (b.sq : Int), .bool b.an, .int .i64 b.q.k, .int .u32 (b.q.c : Int), .int .u32 (b.q.n : Int), .int .u64 (b.q.sp : Int), .int .u32 (b.q.sl : Int), .int .u64 (b.q.ap : Int), .int .u32 (b.q.al : Int), .string (bs b.q.key), .string (bs b.q.to), .int .i64 b.q.lim, .int .u8 (b.q.pt : Int), .slice xa b.q.ws.length xc, .slice ta b.q.sk.length tc, .int .i64 b.r.k, .int .i64 b.r.er, .bool b.r.fd, .string (bs b.r.val), .slice ua b.r.ps.length uc, .int .u32 (b.r.c : Int), .int .u32 (b.r.n : Int), .int .u64 (b.r.sp : Int), .int .u32 (b.r.sl : Int), .int .u64 (b.r.ap : Int), .int .u32 (b.r.al : Int), .string (bs b.r.prim), .int .u64 (b.r.np : Int), .int .u32 (b.r.nl : Int)] 37 W1) := by
    rw [← hW1, ← hW0, ← hbb, ← hba]
    exact H0.out
  clear H0
  have HY : Hid (sameL a b = ((a.cl == b.cl) && (a.sh == b.sh) && (a.sq == b.sq) && (a.an == b.an) && sameQ a.q b.q && sameR a.r b.r)) := rfl
  have e0 := nat_beq a.cl b.cl
  have e1 := nat_beq a.sh b.sh
  have e2 := nat_beq a.sq b.sq
  obtain ⟨z0, hz0⟩ : ∃ z, (a.cl == b.cl) = z := ⟨_, rfl⟩
  obtain ⟨z1, hz1⟩ : ∃ z, (a.sh == b.sh) = z := ⟨_, rfl⟩
  obtain ⟨z2, hz2⟩ : ∃ z, (a.sq == b.sq) = z := ⟨_, rfl⟩
  obtain ⟨z3, hz3⟩ : ∃ z, (a.an == b.an) = z := ⟨_, rfl⟩
  obtain ⟨z4, hz4⟩ : ∃ z, sameQ a.q b.q = z := ⟨_, rfl⟩
  obtain ⟨z5, hz5⟩ : ∃ z, sameR a.r b.r = z := ⟨_, rfl⟩
  rw [hz0, hz1, hz2, hz3, hz4, hz5] at HY
  rw [hz0] at e0
  rw [hz1] at e1
  rw [hz2] at e2
  rw [hz4] at CQ
  rw [hz5] at CR
  generalize sameL a b = y at *
  clear hz0 hz1 hz2 hz4 hz5
  have p0 : W1.cell? ⟨ba, 0, none⟩ = some (.int .u32 (a.cl : Int)) := block_cell T1.out.xa rfl
  have p1 : W1.cell? ⟨ba, 1, none⟩ = some (.int .u32 (a.sh : Int)) := block_cell T1.out.xa rfl
  have p2 : W1.cell? ⟨ba, 2, none⟩ = some (.int .u32 (a.sq : Int)) := block_cell T1.out.xa rfl
  have p3 : W1.cell? ⟨ba, 3, none⟩ = some (.bool a.an) := block_cell T1.out.xa rfl
  have p4 : W1.cell? ⟨ba, 4, none⟩ = some (.int .i64 a.q.k) := block_cell T1.out.xa rfl
  have p5 : W1.cell? ⟨ba, 5, none⟩ = some (.int .u32 (a.q.c : Int)) := block_cell T1.out.xa rfl
  have p6 : W1.cell? ⟨ba, 6, none⟩ = some (.int .u32 (a.q.n : Int)) := block_cell T1.out.xa rfl
  have p7 : W1.cell? ⟨ba, 7, none⟩ = some (.int .u64 (a.q.sp : Int)) := block_cell T1.out.xa rfl
  have p8 : W1.cell? ⟨ba, 8, none⟩ = some (.int .u32 (a.q.sl : Int)) := block_cell T1.out.xa rfl
  have p9 : W1.cell? ⟨ba, 9, none⟩ = some (.int .u64 (a.q.ap : Int)) := block_cell T1.out.xa rfl
  have p10 : W1.cell? ⟨ba, 10, none⟩ = some (.int .u32 (a.q.al : Int)) := block_cell T1.out.xa rfl
  have p11 : W1.cell? ⟨ba, 11, none⟩ = some (.string (bs a.q.key)) := block_cell T1.out.xa rfl
  have p12 : W1.cell? ⟨ba, 12, none⟩ = some (.string (bs a.q.to)) := block_cell T1.out.xa rfl
  have p13 : W1.cell? ⟨ba, 13, none⟩ = some (.int .i64 a.q.lim) := block_cell T1.out.xa rfl
  have p14 : W1.cell? ⟨ba, 14, none⟩ = some (.int .u8 (a.q.pt : Int)) := block_cell T1.out.xa rfl
  have p15 : W1.cell? ⟨ba, 15, none⟩ = some (.slice wa a.q.ws.length wc) := block_cell T1.out.xa rfl
  have p16 : W1.cell? ⟨ba, 16, none⟩ = some (.slice sa a.q.sk.length sc) := block_cell T1.out.xa rfl
  have q0 : W1.cell? ⟨bb, 0, none⟩ = some (.int .u32 (b.cl : Int)) := block_cell T1.out.xb rfl
  have q1 : W1.cell? ⟨bb, 1, none⟩ = some (.int .u32 (b.sh : Int)) := block_cell T1.out.xb rfl
  have q2 : W1.cell? ⟨bb, 2, none⟩ = some (.int .u32 (b.sq : Int)) := block_cell T1.out.xb rfl
  have q3 : W1.cell? ⟨bb, 3, none⟩ = some (.bool b.an) := block_cell T1.out.xb rfl
  have q4 : W1.cell? ⟨bb, 4, none⟩ = some (.int .i64 b.q.k) := block_cell T1.out.xb rfl
  have q5 : W1.cell? ⟨bb, 5, none⟩ = some (.int .u32 (b.q.c : Int)) := block_cell T1.out.xb rfl
  have q6 : W1.cell? ⟨bb, 6, none⟩ = some (.int .u32 (b.q.n : Int)) := block_cell T1.out.xb rfl
  have q7 : W1.cell? ⟨bb, 7, none⟩ = some (.int .u64 (b.q.sp : Int)) := block_cell T1.out.xb rfl
  have q8 : W1.cell? ⟨bb, 8, none⟩ = some (.int .u32 (b.q.sl : Int)) := block_cell T1.out.xb rfl
  have q9 : W1.cell? ⟨bb, 9, none⟩ = some (.int .u64 (b.q.ap : Int)) := block_cell T1.out.xb rfl
  have q10 : W1.cell? ⟨bb, 10, none⟩ = some (.int .u32 (b.q.al : Int)) := block_cell T1.out.xb rfl
  have q11 : W1.cell? ⟨bb, 11, none⟩ = some (.string (bs b.q.key)) := block_cell T1.out.xb rfl
  have q12 : W1.cell? ⟨bb, 12, none⟩ = some (.string (bs b.q.to)) := block_cell T1.out.xb rfl
  have q13 : W1.cell? ⟨bb, 13, none⟩ = some (.int .i64 b.q.lim) := block_cell T1.out.xb rfl
  have q14 : W1.cell? ⟨bb, 14, none⟩ = some (.int .u8 (b.q.pt : Int)) := block_cell T1.out.xb rfl
  have q15 : W1.cell? ⟨bb, 15, none⟩ = some (.slice xa b.q.ws.length xc) := block_cell T1.out.xb rfl
  have q16 : W1.cell? ⟨bb, 16, none⟩ = some (.slice ta b.q.sk.length tc) := block_cell T1.out.xb rfl
  cases z0
  · go_enter Try.func11, Try.ntmps11
    (try simp only [List.append_eq, List.cons_append, List.nil_append])
    go_wp2_with fail
    go_ret
    exact ⟨by rw [HY.out]; rfl, (by first | exact T1.out.bel | exact below_of hba T1.out.bel)⟩
  cases z1
  · go_enter Try.func11, Try.ntmps11
    (try simp only [List.append_eq, List.cons_append, List.nil_append])
    go_wp2_with fail
    go_ret
    exact ⟨by rw [HY.out]; rfl, (by first | exact T1.out.bel | exact below_of hba T1.out.bel)⟩
  cases z2
  · go_enter Try.func11, Try.ntmps11
    (try simp only [List.append_eq, List.cons_append, List.nil_append])
    go_wp2_with fail
    go_ret
    exact ⟨by rw [HY.out]; rfl, (by first | exact T1.out.bel | exact below_of hba T1.out.bel)⟩
  cases z3
  · go_enter Try.func11, Try.ntmps11
    (try simp only [List.append_eq, List.cons_append, List.nil_append])
    go_wp2_with fail
    go_ret
    exact ⟨by rw [HY.out]; rfl, (by first | exact T1.out.bel | exact below_of hba T1.out.bel)⟩
  go_enter Try.func11, Try.ntmps11
  (try simp only [List.append_eq, List.cons_append, List.nil_append])
  go_wp2_with fail
  refine (CQ.out _ T1.out.bel).mono ?_
  rintro e w2 ⟨rfl, hb2⟩
  have T2 : Hid (Tw w ba bb #[.int .u32 (a.cl : Int), .int .u32 (a.sh : Int), .int .u32 (a.sq : Int), .bool a.an, .int .i64 a.q.k, .int .u32 (a.q.c : Int), .int .u32 (a.q.n : Int), .int .u64 (a.q.sp : Int), .int .u32 (a.q.sl : Int), .int .u64 (a.q.ap : Int), .int .u32 (a.q.al : Int), .string (bs a.q.key), .string (bs a.q.to), .int .i64 a.q.lim, .int .u8 (a.q.pt : Int), .slice wa a.q.ws.length wc, .slice sa a.q.sk.length sc, .int .i64 a.r.k, .int .i64 a.r.er, .bool a.r.fd, .string (bs a.r.val), .slice pa a.r.ps.length pc, .int .u32 (a.r.c : Int), .int .u32 (a.r.n : Int), .int .u64 (a.r.sp : Int), .int .u32 (a.r.sl : Int), .int .u64 (a.r.ap : Int), .int .u32 (a.r.al : Int), .string (bs a.r.prim), .int .u64 (a.r.np : Int), .int .u32 (a.r.nl : Int)] #[.int .u32 (b.cl : Int), .int .u32 (b.sh : Int), .int .u32 (b.sq : Int), .bool b.an, .int .i64 b.q.k, .int .u32 (b.q.c : Int), .int .u32 (b.q.n : Int), .int .u64 (b.q.sp : Int), .int .u32 (b.q.sl : Int), .int .u64 (b.q.ap : Int), .int .u32 (b.q.al : Int), .string (bs b.q.key), .string (bs b.q.to), .int .i64 b.q.lim, .int .u8 (b.q.pt : Int), .slice xa b.q.ws.length xc, .slice ta b.q.sk.length tc, .int .i64 b.r.k, .int .i64 b.r.er, .bool b.r.fd, .string (bs b.r.val), .slice ua b.r.ps.length uc, .int .u32 (b.r.c : Int), .int .u32 (b.r.n : Int), .int .u64 (b.r.sp : Int), .int .u32 (b.r.sl : Int), .int .u64 (b.r.ap : Int), .int .u32 (b.r.al : Int), .string (bs b.r.prim), .int .u64 (b.r.np : Int), .int .u32 (b.r.nl : Int)] 37 w2) := T1.out.on hb2
  clear hb2 p0 q0 p1 q1 p2 q2 p3 q3 p4 q4 p5 q5 p6 q6 p7 q7 p8 q8 p9 q9 p10 q10 p11 q11 p12 q12 p13 q13 p14 q14 p15 q15 p16 q16
  have p17 : w2.cell? ⟨ba, 17, none⟩ = some (.int .i64 a.r.k) := block_cell T2.out.xa rfl
  have p18 : w2.cell? ⟨ba, 18, none⟩ = some (.int .i64 a.r.er) := block_cell T2.out.xa rfl
  have p19 : w2.cell? ⟨ba, 19, none⟩ = some (.bool a.r.fd) := block_cell T2.out.xa rfl
  have p20 : w2.cell? ⟨ba, 20, none⟩ = some (.string (bs a.r.val)) := block_cell T2.out.xa rfl
  have p21 : w2.cell? ⟨ba, 21, none⟩ = some (.slice pa a.r.ps.length pc) := block_cell T2.out.xa rfl
  have p22 : w2.cell? ⟨ba, 22, none⟩ = some (.int .u32 (a.r.c : Int)) := block_cell T2.out.xa rfl
  have p23 : w2.cell? ⟨ba, 23, none⟩ = some (.int .u32 (a.r.n : Int)) := block_cell T2.out.xa rfl
  have p24 : w2.cell? ⟨ba, 24, none⟩ = some (.int .u64 (a.r.sp : Int)) := block_cell T2.out.xa rfl
  have p25 : w2.cell? ⟨ba, 25, none⟩ = some (.int .u32 (a.r.sl : Int)) := block_cell T2.out.xa rfl
  have p26 : w2.cell? ⟨ba, 26, none⟩ = some (.int .u64 (a.r.ap : Int)) := block_cell T2.out.xa rfl
  have p27 : w2.cell? ⟨ba, 27, none⟩ = some (.int .u32 (a.r.al : Int)) := block_cell T2.out.xa rfl
  have p28 : w2.cell? ⟨ba, 28, none⟩ = some (.string (bs a.r.prim)) := block_cell T2.out.xa rfl
  have p29 : w2.cell? ⟨ba, 29, none⟩ = some (.int .u64 (a.r.np : Int)) := block_cell T2.out.xa rfl
  have p30 : w2.cell? ⟨ba, 30, none⟩ = some (.int .u32 (a.r.nl : Int)) := block_cell T2.out.xa rfl
  have q17 : w2.cell? ⟨bb, 17, none⟩ = some (.int .i64 b.r.k) := block_cell T2.out.xb rfl
  have q18 : w2.cell? ⟨bb, 18, none⟩ = some (.int .i64 b.r.er) := block_cell T2.out.xb rfl
  have q19 : w2.cell? ⟨bb, 19, none⟩ = some (.bool b.r.fd) := block_cell T2.out.xb rfl
  have q20 : w2.cell? ⟨bb, 20, none⟩ = some (.string (bs b.r.val)) := block_cell T2.out.xb rfl
  have q21 : w2.cell? ⟨bb, 21, none⟩ = some (.slice ua b.r.ps.length uc) := block_cell T2.out.xb rfl
  have q22 : w2.cell? ⟨bb, 22, none⟩ = some (.int .u32 (b.r.c : Int)) := block_cell T2.out.xb rfl
  have q23 : w2.cell? ⟨bb, 23, none⟩ = some (.int .u32 (b.r.n : Int)) := block_cell T2.out.xb rfl
  have q24 : w2.cell? ⟨bb, 24, none⟩ = some (.int .u64 (b.r.sp : Int)) := block_cell T2.out.xb rfl
  have q25 : w2.cell? ⟨bb, 25, none⟩ = some (.int .u32 (b.r.sl : Int)) := block_cell T2.out.xb rfl
  have q26 : w2.cell? ⟨bb, 26, none⟩ = some (.int .u64 (b.r.ap : Int)) := block_cell T2.out.xb rfl
  have q27 : w2.cell? ⟨bb, 27, none⟩ = some (.int .u32 (b.r.al : Int)) := block_cell T2.out.xb rfl
  have q28 : w2.cell? ⟨bb, 28, none⟩ = some (.string (bs b.r.prim)) := block_cell T2.out.xb rfl
  have q29 : w2.cell? ⟨bb, 29, none⟩ = some (.int .u64 (b.r.np : Int)) := block_cell T2.out.xb rfl
  have q30 : w2.cell? ⟨bb, 30, none⟩ = some (.int .u32 (b.r.nl : Int)) := block_cell T2.out.xb rfl
  cases z4
  · go_wp2_with fail
    go_ret
    exact ⟨by rw [HY.out]; rfl, (by first | exact T2.out.bel | exact below_of hba T2.out.bel)⟩
  go_wp2_with fail
  refine (CR.out _ T2.out.bel).mono ?_
  rintro e w3 ⟨rfl, hb3⟩
  have T3 : Hid (Tw w ba bb #[.int .u32 (a.cl : Int), .int .u32 (a.sh : Int), .int .u32 (a.sq : Int), .bool a.an, .int .i64 a.q.k, .int .u32 (a.q.c : Int), .int .u32 (a.q.n : Int), .int .u64 (a.q.sp : Int), .int .u32 (a.q.sl : Int), .int .u64 (a.q.ap : Int), .int .u32 (a.q.al : Int), .string (bs a.q.key), .string (bs a.q.to), .int .i64 a.q.lim, .int .u8 (a.q.pt : Int), .slice wa a.q.ws.length wc, .slice sa a.q.sk.length sc, .int .i64 a.r.k, .int .i64 a.r.er, .bool a.r.fd, .string (bs a.r.val), .slice pa a.r.ps.length pc, .int .u32 (a.r.c : Int), .int .u32 (a.r.n : Int), .int .u64 (a.r.sp : Int), .int .u32 (a.r.sl : Int), .int .u64 (a.r.ap : Int), .int .u32 (a.r.al : Int), .string (bs a.r.prim), .int .u64 (a.r.np : Int), .int .u32 (a.r.nl : Int)] #[.int .u32 (b.cl : Int), .int .u32 (b.sh : Int), .int .u32 (b.sq : Int), .bool b.an, .int .i64 b.q.k, .int .u32 (b.q.c : Int), .int .u32 (b.q.n : Int), .int .u64 (b.q.sp : Int), .int .u32 (b.q.sl : Int), .int .u64 (b.q.ap : Int), .int .u32 (b.q.al : Int), .string (bs b.q.key), .string (bs b.q.to), .int .i64 b.q.lim, .int .u8 (b.q.pt : Int), .slice xa b.q.ws.length xc, .slice ta b.q.sk.length tc, .int .i64 b.r.k, .int .i64 b.r.er, .bool b.r.fd, .string (bs b.r.val), .slice ua b.r.ps.length uc, .int .u32 (b.r.c : Int), .int .u32 (b.r.n : Int), .int .u64 (b.r.sp : Int), .int .u32 (b.r.sl : Int), .int .u64 (b.r.ap : Int), .int .u32 (b.r.al : Int), .string (bs b.r.prim), .int .u64 (b.r.np : Int), .int .u32 (b.r.nl : Int)] 37 w3) := T2.out.on hb3
  clear hb3
  go_wp2_with fail
  go_ret
  exact ⟨by rw [HY.out]; rfl, (by first | exact T3.out.bel | exact below_of hba T3.out.bel)⟩
end Go.Proofs.Ytmldgfepnmencaa
