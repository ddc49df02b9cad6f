/-
  The document's Right.
-/
import Derived.Test.YtmldgfepnmencaaDb
namespace Go.Proofs.Ytmldgfepnmencaa
open Go.RowKit Go.Sort

set_option maxHeartbeats 6400000 in
set_option maxRecDepth 100000 in
theorem ask51 (q : Rq) (wa sa : Option Addr) (wc sc : Nat) (w : World) (hq : QAt w.heap.size q (.slice wa q.ws.length wc) (.slice sa q.sk.length sc) w) :
    Calls Try.prog 51 #[.agg #[.int .i64 q.k, .int .u32 (q.c : Int), .int .u32 (q.n : Int), .int .u64 (q.sp : Int), .int .u32 (q.sl : Int), .int .u64 (q.ap : Int), .int .u32 (q.al : Int), .string (bs q.key), .string (bs q.to), .int .i64 q.lim, .int .u8 (q.pt : Int), .slice wa q.ws.length wc, .slice sa q.sk.length sc]] w fun e w' => e = .returned (.bool (okQ q)) ∧ Below w.heap.size w w' := by
  have hL9 : q.ws.length < 9223372036854775808 := by have := hq.ws.cap; omega
  have HE : Hid (∀ W, Below w.heap.size w W → ∀ i, i < q.ws.length → ∃ b off, wa = some ⟨b, off, none⟩ ∧ WtAt W b (off + i * 3) (q.ws.getD i dw)) := fun W hW i hi => (hq.ws.on hW).el hi
  have HM : Hid (∀ i, i < q.ws.length → q.ws.getD i dw ∈ q.ws) := fun i hi => getD_memWr hi
  have HST : Hid (∀ m, m < q.ws.length → (q.ws.drop m).all (fun x => fitB x.key x.val) = (fitB (q.ws.getD m dw).key (q.ws.getD m dw).val && (q.ws.drop (m + 1)).all fun x => fitB x.key x.val)) := fun m hm => all_step (P := fun x : Wr => fitB x.key x.val) (d := dw) hm
  have HEN : Hid ((q.ws.drop q.ws.length).all (fun x => fitB x.key x.val) = true) := by show _ = _; rw [List.drop_length]; rfl
  have HE0 : Hid ((q.ws.drop 0).all (fun x => fitB x.key x.val) = q.ws.all fun x => fitB x.key x.val) := rfl
  clear hq
  have H0 : Hid _ := bx_new w #[.int .i64 q.k, .int .u32 (q.c : Int), .int .u32 (q.n : Int), .int .u64 (q.sp : Int), .int .u32 (q.sl : Int), .int .u64 (q.ap : Int), .int .u32 (q.al : Int), .string (bs q.key), .string (bs q.to), .int .i64 q.lim, .int .u8 (q.pt : Int), .slice wa q.ws.length wc, .slice sa q.sk.length sc] 31
  obtain ⟨W1, hW1⟩ : ∃ W1, w.alloc (.cells #[.int .i64 q.k, .int .u32 (q.c : Int), .int .u32 (q.n : Int), .int .u64 (q.sp : Int), .int .u32 (q.sl : Int), .int .u64 (q.ap : Int), .int .u32 (q.al : Int), .string (bs q.key), .string (bs q.to), .int .i64 q.lim, .int .u8 (q.pt : Int), .slice wa q.ws.length wc, .slice sa q.sk.length sc] 31) = W1 := ⟨_, rfl⟩
  obtain ⟨b, hb⟩ : ∃ b, w.heap.size = b := ⟨_, rfl⟩
  have B1 : Hid (Bx w b #[.int .i64 q.k, .int .u32 (q.c : Int), .int .u32 (q.n : Int), .int .u64 (q.sp : Int), .int .u32 (q.sl : Int), .int .u64 (q.ap : Int), .int .u32 (q.al : Int), .string (bs q.key), .string (bs q.to), .int .i64 q.lim, .int .u8 (q.pt : Int), .slice wa q.ws.length wc, .slice sa q.sk.length sc] 31 W1) := by rw [← hb, ← hW1]; exact H0.out
  clear H0
  have p11 : W1.cell? ⟨b, 11, none⟩ = some (.slice wa q.ws.length wc) := block_cell B1.out.x rfl
  go_enter Try.func51, Try.ntmps51
  go_wp2_with fail
  clear p11 hW1
  go_loopw [3] (fun i wr => wr = W1 ∧ ∃ m : Nat, m ≤ q.ws.length ∧ i = .int .i64 m ∧ (q.ws.drop m).all (fun x => fitB x.key x.val) = q.ws.all fun x => fitB x.key x.val) (fun i _ => q.ws.length - (intOf i).toNat)
  case atStart => exact ⟨rfl, 0, Nat.zero_le _, rfl, HE0.out⟩
  case round =>
    obtain ⟨rfl, m, hm, rfl, he⟩ := hrel
    have HEm : Hid ((q.ws.drop m).all (fun x => fitB x.key x.val) = q.ws.all fun x => fitB x.key x.val) := he
    clear he
    have p11 : wr.cell? ⟨b, 11, none⟩ = some (.slice wa q.ws.length wc) := block_cell B1.out.x rfl
    by_cases hml : m < q.ws.length
    · obtain ⟨c1, o1, rfl, d0, d1, d2⟩ := HE.out wr B1.out.bel m hml
      have hml1 : (m : Int) < q.ws.length := by omega
      have HSm : Hid _ := HST.out m hml
      have HQ : Hid (m + 1 ≤ q.ws.length) := hml
      rw [HEm.out] at HSm
      generalize q.ws.getD m dw = x at *
      have hk := bs_size x.key
      have hv := bs_size x.val
      by_cases hA : x.key.length ≤ 32
      rotate_left
      · have hA' : (32 : Int) < x.key.length := by omega
        have HY : Hid (okQ q = false) := no_bool (fun h => by
          have h := okQ_iff.1 h
          have g := HSm.out
          rw [show (q.ws.all fun x => fitB x.key x.val) = true from by rw [List.all_eq_true]; exact fun x hx => fitB_iff.2 (h.ws x hx)] at g
          have g := (Bool.and_eq_true_iff.1 g.symm).1
          exact hA (fitB_iff.1 g).1)
        go_wp2_with fail
        go_ret
        exact ⟨by rw [HY.out]; rfl, (by first | exact B1.out.bel | exact below_of hb B1.out.bel)⟩
      have hA' : ¬ (32 : Int) < x.key.length := by omega
      by_cases hB : x.val.length ≤ 256
      rotate_left
      · have hB' : (256 : Int) < x.val.length := by omega
        have HY : Hid (okQ q = false) := no_bool (fun h => by
          have h := okQ_iff.1 h
          have g := HSm.out
          rw [show (q.ws.all fun x => fitB x.key x.val) = true from by rw [List.all_eq_true]; exact fun x hx => fitB_iff.2 (h.ws x hx)] at g
          have g := (Bool.and_eq_true_iff.1 g.symm).1
          exact hB (fitB_iff.1 g).2)
        go_wp2_with fail
        go_ret
        exact ⟨by rw [HY.out]; rfl, (by first | exact B1.out.bel | exact below_of hb B1.out.bel)⟩
      have hB' : ¬ (256 : Int) < x.val.length := by omega
      have HE1 : Hid ((q.ws.drop (m + 1)).all (fun x => fitB x.key x.val) = q.ws.all fun x => fitB x.key x.val) := by
        have g := HSm.out
        rw [fitB_iff.2 ⟨hA, hB⟩, Bool.true_and] at g
        exact g.symm
      go_wp2_with fail
      go_roundw
      case rel => exact ⟨by trivial, m + 1, HQ.out, by go_num, HE1.out⟩
      case measure => simp [intOf]; omega
    · have hml1 : ¬ (m : Int) < q.ws.length := by omega
      have HAL : Hid ((q.ws.all fun x => fitB x.key x.val) = true) := by
        show _ = _
        rw [← HEm.out, show m = q.ws.length from by omega]
        exact HEN.out
      clear hm hml HEm
      have p0 : wr.cell? ⟨b, 0, none⟩ = some (.int .i64 q.k) := block_cell B1.out.x rfl
      have p1 : wr.cell? ⟨b, 1, none⟩ = some (.int .u32 (q.c : Int)) := block_cell B1.out.x rfl
      have p2 : wr.cell? ⟨b, 2, none⟩ = some (.int .u32 (q.n : Int)) := block_cell B1.out.x rfl
      have p3 : wr.cell? ⟨b, 3, none⟩ = some (.int .u64 (q.sp : Int)) := block_cell B1.out.x rfl
      have p4 : wr.cell? ⟨b, 4, none⟩ = some (.int .u32 (q.sl : Int)) := block_cell B1.out.x rfl
      have p5 : wr.cell? ⟨b, 5, none⟩ = some (.int .u64 (q.ap : Int)) := block_cell B1.out.x rfl
      have p6 : wr.cell? ⟨b, 6, none⟩ = some (.int .u32 (q.al : Int)) := block_cell B1.out.x rfl
      have p7 : wr.cell? ⟨b, 7, none⟩ = some (.string (bs q.key)) := block_cell B1.out.x rfl
      have p8 : wr.cell? ⟨b, 8, none⟩ = some (.string (bs q.to)) := block_cell B1.out.x rfl
      have p9 : wr.cell? ⟨b, 9, none⟩ = some (.int .i64 q.lim) := block_cell B1.out.x rfl
      have p10 : wr.cell? ⟨b, 10, none⟩ = some (.int .u8 (q.pt : Int)) := block_cell B1.out.x rfl
      have p12 : wr.cell? ⟨b, 12, none⟩ = some (.slice sa q.sk.length sc) := block_cell B1.out.x rfl
      by_cases c0 : 1 ≤ q.k
      rotate_left
      · go_wp2_with fail
        go_ret
        exact ⟨ret_bool (no_bool (fun h => by have h := okQ_iff.1 h; have := h.k.1; omega)).symm, (by first | exact B1.out.bel | exact below_of hb B1.out.bel)⟩
      by_cases c1 : q.k ≤ 9
      rotate_left
      · go_wp2_with fail
        go_ret
        exact ⟨ret_bool (no_bool (fun h => by have h := okQ_iff.1 h; have := h.k.2; omega)).symm, (by first | exact B1.out.bel | exact below_of hb B1.out.bel)⟩
      go_wp2_with fail
      refine (rightR q.sp q.sl _).mono ?_
      rintro e w2 ⟨rfl, hb2⟩
      have B2 : Hid (Bx w b #[.int .i64 q.k, .int .u32 (q.c : Int), .int .u32 (q.n : Int), .int .u64 (q.sp : Int), .int .u32 (q.sl : Int), .int .u64 (q.ap : Int), .int .u32 (q.al : Int), .string (bs q.key), .string (bs q.to), .int .i64 q.lim, .int .u8 (q.pt : Int), .slice wa q.ws.length wc, .slice sa q.sk.length sc] 31 w2) := B1.out.on hb2
      clear hb2 p0 p1 p2 p3 p4 p5 p6 p7 p8 p9 p10 p11 p12
      have p0 : w2.cell? ⟨b, 0, none⟩ = some (.int .i64 q.k) := block_cell B2.out.x rfl
      have p1 : w2.cell? ⟨b, 1, none⟩ = some (.int .u32 (q.c : Int)) := block_cell B2.out.x rfl
      have p2 : w2.cell? ⟨b, 2, none⟩ = some (.int .u32 (q.n : Int)) := block_cell B2.out.x rfl
      have p3 : w2.cell? ⟨b, 3, none⟩ = some (.int .u64 (q.sp : Int)) := block_cell B2.out.x rfl
      have p4 : w2.cell? ⟨b, 4, none⟩ = some (.int .u32 (q.sl : Int)) := block_cell B2.out.x rfl
      have p5 : w2.cell? ⟨b, 5, none⟩ = some (.int .u64 (q.ap : Int)) := block_cell B2.out.x rfl
      have p6 : w2.cell? ⟨b, 6, none⟩ = some (.int .u32 (q.al : Int)) := block_cell B2.out.x rfl
      have p7 : w2.cell? ⟨b, 7, none⟩ = some (.string (bs q.key)) := block_cell B2.out.x rfl
      have p8 : w2.cell? ⟨b, 8, none⟩ = some (.string (bs q.to)) := block_cell B2.out.x rfl
      have p9 : w2.cell? ⟨b, 9, none⟩ = some (.int .i64 q.lim) := block_cell B2.out.x rfl
      have p10 : w2.cell? ⟨b, 10, none⟩ = some (.int .u8 (q.pt : Int)) := block_cell B2.out.x rfl
      have p11 : w2.cell? ⟨b, 11, none⟩ = some (.slice wa q.ws.length wc) := block_cell B2.out.x rfl
      have p12 : w2.cell? ⟨b, 12, none⟩ = some (.slice sa q.sk.length sc) := block_cell B2.out.x rfl
      obtain ⟨z2, hz2⟩ : ∃ z, rightB q.sp q.sl = z := ⟨_, rfl⟩
      rw [hz2]
      have Z2 : Hid (rightB q.sp q.sl = z2) := hz2
      clear hz2
      cases z2
      · go_wp2_with fail
        go_ret
        exact ⟨ret_bool (no_bool (fun h => by have h := okQ_iff.1 h; have g := Z2.out; rw [rightB_S, rightS_iff.2 h.st] at g; cases g)).symm, (by first | exact B2.out.bel | exact below_of hb B2.out.bel)⟩
      go_wp2_with fail
      refine (rightR q.ap q.al _).mono ?_
      rintro e w3 ⟨rfl, hb3⟩
      have B3 : Hid (Bx w b #[.int .i64 q.k, .int .u32 (q.c : Int), .int .u32 (q.n : Int), .int .u64 (q.sp : Int), .int .u32 (q.sl : Int), .int .u64 (q.ap : Int), .int .u32 (q.al : Int), .string (bs q.key), .string (bs q.to), .int .i64 q.lim, .int .u8 (q.pt : Int), .slice wa q.ws.length wc, .slice sa q.sk.length sc] 31 w3) := B2.out.on hb3
      clear hb3 p0 p1 p2 p3 p4 p5 p6 p7 p8 p9 p10 p11 p12
      have p0 : w3.cell? ⟨b, 0, none⟩ = some (.int .i64 q.k) := block_cell B3.out.x rfl
      have p1 : w3.cell? ⟨b, 1, none⟩ = some (.int .u32 (q.c : Int)) := block_cell B3.out.x rfl
      have p2 : w3.cell? ⟨b, 2, none⟩ = some (.int .u32 (q.n : Int)) := block_cell B3.out.x rfl
      have p3 : w3.cell? ⟨b, 3, none⟩ = some (.int .u64 (q.sp : Int)) := block_cell B3.out.x rfl
      have p4 : w3.cell? ⟨b, 4, none⟩ = some (.int .u32 (q.sl : Int)) := block_cell B3.out.x rfl
      have p5 : w3.cell? ⟨b, 5, none⟩ = some (.int .u64 (q.ap : Int)) := block_cell B3.out.x rfl
      have p6 : w3.cell? ⟨b, 6, none⟩ = some (.int .u32 (q.al : Int)) := block_cell B3.out.x rfl
      have p7 : w3.cell? ⟨b, 7, none⟩ = some (.string (bs q.key)) := block_cell B3.out.x rfl
      have p8 : w3.cell? ⟨b, 8, none⟩ = some (.string (bs q.to)) := block_cell B3.out.x rfl
      have p9 : w3.cell? ⟨b, 9, none⟩ = some (.int .i64 q.lim) := block_cell B3.out.x rfl
      have p10 : w3.cell? ⟨b, 10, none⟩ = some (.int .u8 (q.pt : Int)) := block_cell B3.out.x rfl
      have p11 : w3.cell? ⟨b, 11, none⟩ = some (.slice wa q.ws.length wc) := block_cell B3.out.x rfl
      have p12 : w3.cell? ⟨b, 12, none⟩ = some (.slice sa q.sk.length sc) := block_cell B3.out.x rfl
      obtain ⟨z3, hz3⟩ : ∃ z, rightB q.ap q.al = z := ⟨_, rfl⟩
      rw [hz3]
      have Z3 : Hid (rightB q.ap q.al = z3) := hz3
      clear hz3
      cases z3
      · go_wp2_with fail
        go_ret
        exact ⟨ret_bool (no_bool (fun h => by have h := okQ_iff.1 h; have g := Z3.out; rw [rightB_S, rightS_iff.2 h.at_] at g; cases g)).symm, (by first | exact B3.out.bel | exact below_of hb B3.out.bel)⟩
      have hky := bs_size q.key
      have hto := bs_size q.to
      by_cases c4 : (q.key.length : Int) ≤ 32
      rotate_left
      · go_wp2_with fail
        go_ret
        exact ⟨ret_bool (no_bool (fun h => by have h := okQ_iff.1 h; have := h.key; omega)).symm, (by first | exact B3.out.bel | exact below_of hb B3.out.bel)⟩
      by_cases c5 : (q.to.length : Int) ≤ 32
      rotate_left
      · go_wp2_with fail
        go_ret
        exact ⟨ret_bool (no_bool (fun h => by have h := okQ_iff.1 h; have := h.to; omega)).symm, (by first | exact B3.out.bel | exact below_of hb B3.out.bel)⟩
      by_cases c6 : 0 ≤ q.lim
      rotate_left
      · go_wp2_with fail
        go_ret
        exact ⟨ret_bool (no_bool (fun h => by have h := okQ_iff.1 h; have := h.lim.1; omega)).symm, (by first | exact B3.out.bel | exact below_of hb B3.out.bel)⟩
      by_cases c7 : q.lim ≤ 32
      rotate_left
      · go_wp2_with fail
        go_ret
        exact ⟨ret_bool (no_bool (fun h => by have h := okQ_iff.1 h; have := h.lim.2; omega)).symm, (by first | exact B3.out.bel | exact below_of hb B3.out.bel)⟩
      by_cases c8 : (q.ws.length : Int) ≤ 16
      rotate_left
      · go_wp2_with fail
        go_ret
        exact ⟨ret_bool (no_bool (fun h => by have h := okQ_iff.1 h; have := h.wl; omega)).symm, (by first | exact B3.out.bel | exact below_of hb B3.out.bel)⟩
      go_wp2_with fail
      go_ret
      exact ⟨ret_bool (Bool.eq_iff_iff.2 (by rw [okQ_iff, decide_eq_true_eq]; exact ⟨fun c9 => ⟨fun x hx => fitB_iff.1 (List.all_eq_true.1 HAL.out x hx), ⟨c0, c1⟩, rightS_iff.1 (by rw [← rightB_S]; exact Z2.out), rightS_iff.1 (by rw [← rightB_S]; exact Z3.out), by omega, by omega, ⟨c6, c7⟩, by omega, by omega⟩, fun h => by have := h.sk; omega⟩)), (by first | exact B3.out.bel | exact below_of hb B3.out.bel)⟩
set_option maxHeartbeats 6400000 in
set_option maxRecDepth 100000 in
theorem reply50 (r : Rp) (pa : Option Addr) (pc : Nat) (w : World) (hp : PsAt w.heap.size (.slice pa r.ps.length pc) r.ps w) :
    Calls Try.prog 50 #[.agg #[.int .i64 r.k, .int .i64 r.er, .bool r.fd, .string (bs r.val), .slice pa r.ps.length pc, .int .u32 (r.c : Int), .int .u32 (r.n : Int), .int .u64 (r.sp : Int), .int .u32 (r.sl : Int), .int .u64 (r.ap : Int), .int .u32 (r.al : Int), .string (bs r.prim), .int .u64 (r.np : Int), .int .u32 (r.nl : Int)]] w fun e w' => e = .returned (.bool (okR r)) ∧ Below w.heap.size w w' := by
  have hL9 : r.ps.length < 9223372036854775808 := by have := hp.cap; omega
  have HE : Hid (∀ W, Below w.heap.size w W → ∀ i, i < r.ps.length → ∃ b off, pa = some ⟨b, off, none⟩ ∧ PtAt W b (off + i * 2) (r.ps.getD i dp)) := fun W hW i hi => (hp.on hW).el hi
  have HM : Hid (∀ i, i < r.ps.length → r.ps.getD i dp ∈ r.ps) := fun i hi => getD_memPr hi
  have HST : Hid (∀ m, m < r.ps.length → (r.ps.drop m).all (fun x => fitB x.key x.val) = (fitB (r.ps.getD m dp).key (r.ps.getD m dp).val && (r.ps.drop (m + 1)).all fun x => fitB x.key x.val)) := fun m hm => all_step (P := fun x : Pr => fitB x.key x.val) (d := dp) hm
  have HEN : Hid ((r.ps.drop r.ps.length).all (fun x => fitB x.key x.val) = true) := by show _ = _; rw [List.drop_length]; rfl
  have HE0 : Hid ((r.ps.drop 0).all (fun x => fitB x.key x.val) = r.ps.all fun x => fitB x.key x.val) := rfl
  clear hp
  have H0 : Hid _ := bx_new w #[.int .i64 r.k, .int .i64 r.er, .bool r.fd, .string (bs r.val), .slice pa r.ps.length pc, .int .u32 (r.c : Int), .int .u32 (r.n : Int), .int .u64 (r.sp : Int), .int .u32 (r.sl : Int), .int .u64 (r.ap : Int), .int .u32 (r.al : Int), .string (bs r.prim), .int .u64 (r.np : Int), .int .u32 (r.nl : Int)] 35
  obtain ⟨W1, hW1⟩ : ∃ W1, w.alloc (.cells #[.int .i64 r.k, .int .i64 r.er, .bool r.fd, .string (bs r.val), .slice pa r.ps.length pc, .int .u32 (r.c : Int), .int .u32 (r.n : Int), .int .u64 (r.sp : Int), .int .u32 (r.sl : Int), .int .u64 (r.ap : Int), .int .u32 (r.al : Int), .string (bs r.prim), .int .u64 (r.np : Int), .int .u32 (r.nl : Int)] 35) = W1 := ⟨_, rfl⟩
  obtain ⟨b, hb⟩ : ∃ b, w.heap.size = b := ⟨_, rfl⟩
  have B1 : Hid (Bx w b #[.int .i64 r.k, .int .i64 r.er, .bool r.fd, .string (bs r.val), .slice pa r.ps.length pc, .int .u32 (r.c : Int), .int .u32 (r.n : Int), .int .u64 (r.sp : Int), .int .u32 (r.sl : Int), .int .u64 (r.ap : Int), .int .u32 (r.al : Int), .string (bs r.prim), .int .u64 (r.np : Int), .int .u32 (r.nl : Int)] 35 W1) := by rw [← hb, ← hW1]; exact H0.out
  clear H0
  have p4 : W1.cell? ⟨b, 4, none⟩ = some (.slice pa r.ps.length pc) := block_cell B1.out.x rfl
  go_enter Try.func50, Try.ntmps50
  go_wp2_with fail
  clear p4 hW1
  go_loopw [3] (fun i wr => wr = W1 ∧ ∃ m : Nat, m ≤ r.ps.length ∧ i = .int .i64 m ∧ (r.ps.drop m).all (fun x => fitB x.key x.val) = r.ps.all fun x => fitB x.key x.val) (fun i _ => r.ps.length - (intOf i).toNat)
  case atStart => exact ⟨rfl, 0, Nat.zero_le _, rfl, HE0.out⟩
  case round =>
    obtain ⟨rfl, m, hm, rfl, he⟩ := hrel
    have HEm : Hid ((r.ps.drop m).all (fun x => fitB x.key x.val) = r.ps.all fun x => fitB x.key x.val) := he
    clear he
    have p4 : wr.cell? ⟨b, 4, none⟩ = some (.slice pa r.ps.length pc) := block_cell B1.out.x rfl
    by_cases hml : m < r.ps.length
    · obtain ⟨c1, o1, rfl, d0, d1⟩ := HE.out wr B1.out.bel m hml
      have hml1 : (m : Int) < r.ps.length := by omega
      have HSm : Hid _ := HST.out m hml
      have HQ : Hid (m + 1 ≤ r.ps.length) := hml
      rw [HEm.out] at HSm
      generalize r.ps.getD m dp = x at *
      have hk := bs_size x.key
      have hv := bs_size x.val
      by_cases hA : x.key.length ≤ 32
      rotate_left
      · have hA' : (32 : Int) < x.key.length := by omega
        have HY : Hid (okR r = false) := no_bool (fun h => by
          have h := okR_iff.1 h
          have g := HSm.out
          rw [show (r.ps.all fun x => fitB x.key x.val) = true from by rw [List.all_eq_true]; exact fun x hx => fitB_iff.2 (h.ps x hx)] at g
          have g := (Bool.and_eq_true_iff.1 g.symm).1
          exact hA (fitB_iff.1 g).1)
        go_wp2_with fail
        go_ret
        exact ⟨by rw [HY.out]; rfl, (by first | exact B1.out.bel | exact below_of hb B1.out.bel)⟩
      have hA' : ¬ (32 : Int) < x.key.length := by omega
      by_cases hB : x.val.length ≤ 256
      rotate_left
      · have hB' : (256 : Int) < x.val.length := by omega
        have HY : Hid (okR r = false) := no_bool (fun h => by
          have h := okR_iff.1 h
          have g := HSm.out
          rw [show (r.ps.all fun x => fitB x.key x.val) = true from by rw [List.all_eq_true]; exact fun x hx => fitB_iff.2 (h.ps x hx)] at g
          have g := (Bool.and_eq_true_iff.1 g.symm).1
          exact hB (fitB_iff.1 g).2)
        go_wp2_with fail
        go_ret
        exact ⟨by rw [HY.out]; rfl, (by first | exact B1.out.bel | exact below_of hb B1.out.bel)⟩
      have hB' : ¬ (256 : Int) < x.val.length := by omega
      have HE1 : Hid ((r.ps.drop (m + 1)).all (fun x => fitB x.key x.val) = r.ps.all fun x => fitB x.key x.val) := by
        have g := HSm.out
        rw [fitB_iff.2 ⟨hA, hB⟩, Bool.true_and] at g
        exact g.symm
      go_wp2_with fail
      go_roundw
      case rel => exact ⟨by trivial, m + 1, HQ.out, by go_num, HE1.out⟩
      case measure => simp [intOf]; omega
    · have hml1 : ¬ (m : Int) < r.ps.length := by omega
      have HAL : Hid ((r.ps.all fun x => fitB x.key x.val) = true) := by
        show _ = _
        rw [← HEm.out, show m = r.ps.length from by omega]
        exact HEN.out
      clear hm hml HEm
      have p0 : wr.cell? ⟨b, 0, none⟩ = some (.int .i64 r.k) := block_cell B1.out.x rfl
      have p1 : wr.cell? ⟨b, 1, none⟩ = some (.int .i64 r.er) := block_cell B1.out.x rfl
      have p2 : wr.cell? ⟨b, 2, none⟩ = some (.bool r.fd) := block_cell B1.out.x rfl
      have p3 : wr.cell? ⟨b, 3, none⟩ = some (.string (bs r.val)) := block_cell B1.out.x rfl
      have p5 : wr.cell? ⟨b, 5, none⟩ = some (.int .u32 (r.c : Int)) := block_cell B1.out.x rfl
      have p6 : wr.cell? ⟨b, 6, none⟩ = some (.int .u32 (r.n : Int)) := block_cell B1.out.x rfl
      have p7 : wr.cell? ⟨b, 7, none⟩ = some (.int .u64 (r.sp : Int)) := block_cell B1.out.x rfl
      have p8 : wr.cell? ⟨b, 8, none⟩ = some (.int .u32 (r.sl : Int)) := block_cell B1.out.x rfl
      have p9 : wr.cell? ⟨b, 9, none⟩ = some (.int .u64 (r.ap : Int)) := block_cell B1.out.x rfl
      have p10 : wr.cell? ⟨b, 10, none⟩ = some (.int .u32 (r.al : Int)) := block_cell B1.out.x rfl
      have p11 : wr.cell? ⟨b, 11, none⟩ = some (.string (bs r.prim)) := block_cell B1.out.x rfl
      have p12 : wr.cell? ⟨b, 12, none⟩ = some (.int .u64 (r.np : Int)) := block_cell B1.out.x rfl
      have p13 : wr.cell? ⟨b, 13, none⟩ = some (.int .u32 (r.nl : Int)) := block_cell B1.out.x rfl
      by_cases c0 : 0 ≤ r.k
      rotate_left
      · go_wp2_with fail
        go_ret
        exact ⟨ret_bool (no_bool (fun h => by have h := okR_iff.1 h; have := h.k.1; omega)).symm, (by first | exact B1.out.bel | exact below_of hb B1.out.bel)⟩
      by_cases c1 : r.k ≤ 10
      rotate_left
      · go_wp2_with fail
        go_ret
        exact ⟨ret_bool (no_bool (fun h => by have h := okR_iff.1 h; have := h.k.2; omega)).symm, (by first | exact B1.out.bel | exact below_of hb B1.out.bel)⟩
      by_cases c2 : 0 ≤ r.er
      rotate_left
      · go_wp2_with fail
        go_ret
        exact ⟨ret_bool (no_bool (fun h => by have h := okR_iff.1 h; have := h.er.1; omega)).symm, (by first | exact B1.out.bel | exact below_of hb B1.out.bel)⟩
      by_cases c3 : r.er ≤ 255
      rotate_left
      · go_wp2_with fail
        go_ret
        exact ⟨ret_bool (no_bool (fun h => by have h := okR_iff.1 h; have := h.er.2; omega)).symm, (by first | exact B1.out.bel | exact below_of hb B1.out.bel)⟩
      go_wp2_with fail
      refine (rightR r.sp r.sl _).mono ?_
      rintro e w2 ⟨rfl, hb2⟩
      have B2 : Hid (Bx w b #[.int .i64 r.k, .int .i64 r.er, .bool r.fd, .string (bs r.val), .slice pa r.ps.length pc, .int .u32 (r.c : Int), .int .u32 (r.n : Int), .int .u64 (r.sp : Int), .int .u32 (r.sl : Int), .int .u64 (r.ap : Int), .int .u32 (r.al : Int), .string (bs r.prim), .int .u64 (r.np : Int), .int .u32 (r.nl : Int)] 35 w2) := B1.out.on hb2
      clear hb2 p0 p1 p2 p3 p4 p5 p6 p7 p8 p9 p10 p11 p12 p13
      have p0 : w2.cell? ⟨b, 0, none⟩ = some (.int .i64 r.k) := block_cell B2.out.x rfl
      have p1 : w2.cell? ⟨b, 1, none⟩ = some (.int .i64 r.er) := block_cell B2.out.x rfl
      have p2 : w2.cell? ⟨b, 2, none⟩ = some (.bool r.fd) := block_cell B2.out.x rfl
      have p3 : w2.cell? ⟨b, 3, none⟩ = some (.string (bs r.val)) := block_cell B2.out.x rfl
      have p4 : w2.cell? ⟨b, 4, none⟩ = some (.slice pa r.ps.length pc) := block_cell B2.out.x rfl
      have p5 : w2.cell? ⟨b, 5, none⟩ = some (.int .u32 (r.c : Int)) := block_cell B2.out.x rfl
      have p6 : w2.cell? ⟨b, 6, none⟩ = some (.int .u32 (r.n : Int)) := block_cell B2.out.x rfl
      have p7 : w2.cell? ⟨b, 7, none⟩ = some (.int .u64 (r.sp : Int)) := block_cell B2.out.x rfl
      have p8 : w2.cell? ⟨b, 8, none⟩ = some (.int .u32 (r.sl : Int)) := block_cell B2.out.x rfl
      have p9 : w2.cell? ⟨b, 9, none⟩ = some (.int .u64 (r.ap : Int)) := block_cell B2.out.x rfl
      have p10 : w2.cell? ⟨b, 10, none⟩ = some (.int .u32 (r.al : Int)) := block_cell B2.out.x rfl
      have p11 : w2.cell? ⟨b, 11, none⟩ = some (.string (bs r.prim)) := block_cell B2.out.x rfl
      have p12 : w2.cell? ⟨b, 12, none⟩ = some (.int .u64 (r.np : Int)) := block_cell B2.out.x rfl
      have p13 : w2.cell? ⟨b, 13, none⟩ = some (.int .u32 (r.nl : Int)) := block_cell B2.out.x rfl
      obtain ⟨z4, hz4⟩ : ∃ z, rightB r.sp r.sl = z := ⟨_, rfl⟩
      rw [hz4]
      have Z4 : Hid (rightB r.sp r.sl = z4) := hz4
      clear hz4
      cases z4
      · go_wp2_with fail
        go_ret
        exact ⟨ret_bool (no_bool (fun h => by have h := okR_iff.1 h; have g := Z4.out; rw [rightB_S, rightS_iff.2 h.st] at g; cases g)).symm, (by first | exact B2.out.bel | exact below_of hb B2.out.bel)⟩
      go_wp2_with fail
      refine (rightR r.ap r.al _).mono ?_
      rintro e w3 ⟨rfl, hb3⟩
      have B3 : Hid (Bx w b #[.int .i64 r.k, .int .i64 r.er, .bool r.fd, .string (bs r.val), .slice pa r.ps.length pc, .int .u32 (r.c : Int), .int .u32 (r.n : Int), .int .u64 (r.sp : Int), .int .u32 (r.sl : Int), .int .u64 (r.ap : Int), .int .u32 (r.al : Int), .string (bs r.prim), .int .u64 (r.np : Int), .int .u32 (r.nl : Int)] 35 w3) := B2.out.on hb3
      clear hb3 p0 p1 p2 p3 p4 p5 p6 p7 p8 p9 p10 p11 p12 p13
      have p0 : w3.cell? ⟨b, 0, none⟩ = some (.int .i64 r.k) := block_cell B3.out.x rfl
      have p1 : w3.cell? ⟨b, 1, none⟩ = some (.int .i64 r.er) := block_cell B3.out.x rfl
      have p2 : w3.cell? ⟨b, 2, none⟩ = some (.bool r.fd) := block_cell B3.out.x rfl
      have p3 : w3.cell? ⟨b, 3, none⟩ = some (.string (bs r.val)) := block_cell B3.out.x rfl
      have p4 : w3.cell? ⟨b, 4, none⟩ = some (.slice pa r.ps.length pc) := block_cell B3.out.x rfl
      have p5 : w3.cell? ⟨b, 5, none⟩ = some (.int .u32 (r.c : Int)) := block_cell B3.out.x rfl
      have p6 : w3.cell? ⟨b, 6, none⟩ = some (.int .u32 (r.n : Int)) := block_cell B3.out.x rfl
      have p7 : w3.cell? ⟨b, 7, none⟩ = some (.int .u64 (r.sp : Int)) := block_cell B3.out.x rfl
      have p8 : w3.cell? ⟨b, 8, none⟩ = some (.int .u32 (r.sl : Int)) := block_cell B3.out.x rfl
      have p9 : w3.cell? ⟨b, 9, none⟩ = some (.int .u64 (r.ap : Int)) := block_cell B3.out.x rfl
      have p10 : w3.cell? ⟨b, 10, none⟩ = some (.int .u32 (r.al : Int)) := block_cell B3.out.x rfl
      have p11 : w3.cell? ⟨b, 11, none⟩ = some (.string (bs r.prim)) := block_cell B3.out.x rfl
      have p12 : w3.cell? ⟨b, 12, none⟩ = some (.int .u64 (r.np : Int)) := block_cell B3.out.x rfl
      have p13 : w3.cell? ⟨b, 13, none⟩ = some (.int .u32 (r.nl : Int)) := block_cell B3.out.x rfl
      obtain ⟨z5, hz5⟩ : ∃ z, rightB r.ap r.al = z := ⟨_, rfl⟩
      rw [hz5]
      have Z5 : Hid (rightB r.ap r.al = z5) := hz5
      clear hz5
      cases z5
      · go_wp2_with fail
        go_ret
        exact ⟨ret_bool (no_bool (fun h => by have h := okR_iff.1 h; have g := Z5.out; rw [rightB_S, rightS_iff.2 h.at_] at g; cases g)).symm, (by first | exact B3.out.bel | exact below_of hb B3.out.bel)⟩
      go_wp2_with fail
      refine (rightR r.np r.nl _).mono ?_
      rintro e w4 ⟨rfl, hb4⟩
      have B4 : Hid (Bx w b #[.int .i64 r.k, .int .i64 r.er, .bool r.fd, .string (bs r.val), .slice pa r.ps.length pc, .int .u32 (r.c : Int), .int .u32 (r.n : Int), .int .u64 (r.sp : Int), .int .u32 (r.sl : Int), .int .u64 (r.ap : Int), .int .u32 (r.al : Int), .string (bs r.prim), .int .u64 (r.np : Int), .int .u32 (r.nl : Int)] 35 w4) := B3.out.on hb4
      clear hb4 p0 p1 p2 p3 p4 p5 p6 p7 p8 p9 p10 p11 p12 p13
      have p0 : w4.cell? ⟨b, 0, none⟩ = some (.int .i64 r.k) := block_cell B4.out.x rfl
      have p1 : w4.cell? ⟨b, 1, none⟩ = some (.int .i64 r.er) := block_cell B4.out.x rfl
      have p2 : w4.cell? ⟨b, 2, none⟩ = some (.bool r.fd) := block_cell B4.out.x rfl
      have p3 : w4.cell? ⟨b, 3, none⟩ = some (.string (bs r.val)) := block_cell B4.out.x rfl
      have p4 : w4.cell? ⟨b, 4, none⟩ = some (.slice pa r.ps.length pc) := block_cell B4.out.x rfl
      have p5 : w4.cell? ⟨b, 5, none⟩ = some (.int .u32 (r.c : Int)) := block_cell B4.out.x rfl
      have p6 : w4.cell? ⟨b, 6, none⟩ = some (.int .u32 (r.n : Int)) := block_cell B4.out.x rfl
      have p7 : w4.cell? ⟨b, 7, none⟩ = some (.int .u64 (r.sp : Int)) := block_cell B4.out.x rfl
      have p8 : w4.cell? ⟨b, 8, none⟩ = some (.int .u32 (r.sl : Int)) := block_cell B4.out.x rfl
      have p9 : w4.cell? ⟨b, 9, none⟩ = some (.int .u64 (r.ap : Int)) := block_cell B4.out.x rfl
      have p10 : w4.cell? ⟨b, 10, none⟩ = some (.int .u32 (r.al : Int)) := block_cell B4.out.x rfl
      have p11 : w4.cell? ⟨b, 11, none⟩ = some (.string (bs r.prim)) := block_cell B4.out.x rfl
      have p12 : w4.cell? ⟨b, 12, none⟩ = some (.int .u64 (r.np : Int)) := block_cell B4.out.x rfl
      have p13 : w4.cell? ⟨b, 13, none⟩ = some (.int .u32 (r.nl : Int)) := block_cell B4.out.x rfl
      obtain ⟨z6, hz6⟩ : ∃ z, rightB r.np r.nl = z := ⟨_, rfl⟩
      rw [hz6]
      have Z6 : Hid (rightB r.np r.nl = z6) := hz6
      clear hz6
      cases z6
      · go_wp2_with fail
        go_ret
        exact ⟨ret_bool (no_bool (fun h => by have h := okR_iff.1 h; have g := Z6.out; rw [rightB_S, rightS_iff.2 h.nw] at g; cases g)).symm, (by first | exact B4.out.bel | exact below_of hb B4.out.bel)⟩
      have hky := bs_size r.val
      have hto := bs_size r.prim
      by_cases c7 : (r.val.length : Int) ≤ 256
      rotate_left
      · go_wp2_with fail
        go_ret
        exact ⟨ret_bool (no_bool (fun h => by have h := okR_iff.1 h; have := h.val; omega)).symm, (by first | exact B4.out.bel | exact below_of hb B4.out.bel)⟩
      by_cases c8 : (r.prim.length : Int) ≤ 32
      rotate_left
      · go_wp2_with fail
        go_ret
        exact ⟨ret_bool (no_bool (fun h => by have h := okR_iff.1 h; have := h.prim; omega)).symm, (by first | exact B4.out.bel | exact below_of hb B4.out.bel)⟩
      go_wp2_with fail
      go_ret
      exact ⟨ret_bool (Bool.eq_iff_iff.2 (by rw [okR_iff, decide_eq_true_eq]; exact ⟨fun c9 => ⟨fun x hx => fitB_iff.1 (List.all_eq_true.1 HAL.out x hx), ⟨c0, c1⟩, ⟨c2, c3⟩, rightS_iff.1 (by rw [← rightB_S]; exact Z4.out), rightS_iff.1 (by rw [← rightB_S]; exact Z5.out), rightS_iff.1 (by rw [← rightB_S]; exact Z6.out), by omega, by omega, by omega⟩, fun h => by have := h.pl; omega⟩)), (by first | exact B4.out.bel | exact below_of hb B4.out.bel)⟩
set_option maxHeartbeats 6400000 in
set_option maxRecDepth 100000 in
theorem right18 (l : Le) (wa sa pa : Option Addr) (wc sc pc : Nat) (w : World) (hl : LAt w.heap.size l (.slice wa l.q.ws.length wc) (.slice sa l.q.sk.length sc) (.slice pa l.r.ps.length pc) w) :
    Calls Try.prog 18 #[.agg #[.int .u32 (l.cl : Int), .int .u32 (l.sh : Int), .int .u32 (l.sq : Int), .bool l.an, .int .i64 l.q.k, .int .u32 (l.q.c : Int), .int .u32 (l.q.n : Int), .int .u64 (l.q.sp : Int), .int .u32 (l.q.sl : Int), .int .u64 (l.q.ap : Int), .int .u32 (l.q.al : Int), .string (bs l.q.key), .string (bs l.q.to), .int .i64 l.q.lim, .int .u8 (l.q.pt : Int), .slice wa l.q.ws.length wc, .slice sa l.q.sk.length sc, .int .i64 l.r.k, .int .i64 l.r.er, .bool l.r.fd, .string (bs l.r.val), .slice pa l.r.ps.length pc, .int .u32 (l.r.c : Int), .int .u32 (l.r.n : Int), .int .u64 (l.r.sp : Int), .int .u32 (l.r.sl : Int), .int .u64 (l.r.ap : Int), .int .u32 (l.r.al : Int), .string (bs l.r.prim), .int .u64 (l.r.np : Int), .int .u32 (l.r.nl : Int)]] w fun e w' => e = .returned (.bool (rightL l)) ∧ Below w.heap.size w w' := by
  have HL : Hid (LAt w.heap.size l (.slice wa l.q.ws.length wc) (.slice sa l.q.sk.length sc) (.slice pa l.r.ps.length pc) w) := hl
  clear hl
  have CQ : Hid (∀ W : World, Below w.heap.size w W → Calls Try.prog 34 #[.agg #[.int .i64 l.q.k, .int .u32 (l.q.c : Int), .int .u32 (l.q.n : Int), .int .u64 (l.q.sp : Int), .int .u32 (l.q.sl : Int), .int .u64 (l.q.ap : Int), .int .u32 (l.q.al : Int), .string (bs l.q.key), .string (bs l.q.to), .int .i64 l.q.lim, .int .u8 (l.q.pt : Int), .slice wa l.q.ws.length wc, .slice sa l.q.sk.length sc], .agg #[.int .i64 0, .int .u32 0, .int .u32 0, .int .u64 0, .int .u32 0, .int .u64 0, .int .u32 0, .string ⟨#[]⟩, .string ⟨#[]⟩, .int .i64 0, .int .u8 0, .slice none 0 0, .slice none 0 0]] W fun e w' => e = .returned (.bool (sameQ l.q zQ)) ∧ Below W.heap.size W w') := fun W hW => asks34 l.q zQ wa sa none none wc sc 0 0 W (HL.out.q.up hW) (qat_nil _ _)
  have CR : Hid (∀ W : World, Below w.heap.size w W → Calls Try.prog 35 #[.agg #[.int .i64 l.r.k, .int .i64 l.r.er, .bool l.r.fd, .string (bs l.r.val), .slice pa l.r.ps.length pc, .int .u32 (l.r.c : Int), .int .u32 (l.r.n : Int), .int .u64 (l.r.sp : Int), .int .u32 (l.r.sl : Int), .int .u64 (l.r.ap : Int), .int .u32 (l.r.al : Int), .string (bs l.r.prim), .int .u64 (l.r.np : Int), .int .u32 (l.r.nl : Int)], .agg #[.int .i64 0, .int .i64 0, .bool false, .string ⟨#[]⟩, .slice none 0 0, .int .u32 0, .int .u32 0, .int .u64 0, .int .u32 0, .int .u64 0, .int .u32 0, .string ⟨#[]⟩, .int .u64 0, .int .u32 0]] W fun e w' => e = .returned (.bool (sameR l.r zR)) ∧ Below W.heap.size W w') := fun W hW => same35 l.r zR pa none pc 0 W (HL.out.r.up hW) (pat_nil _ _)
  have H0 : Hid _ := bx_new w #[.int .u32 (l.cl : Int), .int .u32 (l.sh : Int), .int .u32 (l.sq : Int), .bool l.an, .int .i64 l.q.k, .int .u32 (l.q.c : Int), .int .u32 (l.q.n : Int), .int .u64 (l.q.sp : Int), .int .u32 (l.q.sl : Int), .int .u64 (l.q.ap : Int), .int .u32 (l.q.al : Int), .string (bs l.q.key), .string (bs l.q.to), .int .i64 l.q.lim, .int .u8 (l.q.pt : Int), .slice wa l.q.ws.length wc, .slice sa l.q.sk.length sc, .int .i64 l.r.k, .int .i64 l.r.er, .bool l.r.fd, .string (bs l.r.val), .slice pa l.r.ps.length pc, .int .u32 (l.r.c : Int), .int .u32 (l.r.n : Int), .int .u64 (l.r.sp : Int), .int .u32 (l.r.sl : Int), .int .u64 (l.r.ap : Int), .int .u32 (l.r.al : Int), .string (bs l.r.prim), .int .u64 (l.r.np : Int), .int .u32 (l.r.nl : Int)] 37
  obtain ⟨W1, hW1⟩ : ∃ W1, w.alloc (.cells #[.int .u32 (l.cl : Int), .int .u32 (l.sh : Int), .int .u32 (l.sq : Int), .bool l.an, .int .i64 l.q.k, .int .u32 (l.q.c : Int), .int .u32 (l.q.n : Int), .int .u64 (l.q.sp : Int), .int .u32 (l.q.sl : Int), .int .u64 (l.q.ap : Int), .int .u32 (l.q.al : Int), .string (bs l.q.key), .string (bs l.q.to), .int .i64 l.q.lim, .int .u8 (l.q.pt : Int), .slice wa l.q.ws.length wc, .slice sa l.q.sk.length sc, .int .i64 l.r.k, .int .i64 l.r.er, .bool l.r.fd, .string (bs l.r.val), .slice pa l.r.ps.length pc, .int .u32 (l.r.c : Int), .int .u32 (l.r.n : Int), .int .u64 (l.r.sp : Int), .int .u32 (l.r.sl : Int), .int .u64 (l.r.ap : Int), .int .u32 (l.r.al : Int), .string (bs l.r.prim), .int .u64 (l.r.np : Int), .int .u32 (l.r.nl : Int)] 37) = W1 := ⟨_, rfl⟩
  obtain ⟨b, hb⟩ : ∃ b, w.heap.size = b := ⟨_, rfl⟩
  have B1 : Hid (Bx w b #[.int .u32 (l.cl : Int), .int .u32 (l.sh : Int), .int .u32 (l.sq : Int), .bool l.an, .int .i64 l.q.k, .int .u32 (l.q.c : Int), .int .u32 (l.q.n : Int), .int .u64 (l.q.sp : Int), .int .u32 (l.q.sl : Int), .int .u64 (l.q.ap : Int), .int .u32 (l.q.al : Int), .string (bs l.q.key), .string (bs l.q.to), .int .i64 l.q.lim, .int .u8 (l.q.pt : Int), .slice wa l.q.ws.length wc, .slice sa l.q.sk.length sc, .int .i64 l.r.k, .int .i64 l.r.er, .bool l.r.fd, .string (bs l.r.val), .slice pa l.r.ps.length pc, .int .u32 (l.r.c : Int), .int .u32 (l.r.n : Int), .int .u64 (l.r.sp : Int), .int .u32 (l.r.sl : Int), .int .u64 (l.r.ap : Int), .int .u32 (l.r.al : Int), .string (bs l.r.prim), .int .u64 (l.r.np : Int), .int .u32 (l.r.nl : Int)] 37 W1) := by rw [← hb, ← hW1]; exact H0.out
  clear H0
  have p0 : W1.cell? ⟨b, 0, none⟩ = some (.int .u32 (l.cl : Int)) := block_cell B1.out.x rfl
  have p1 : W1.cell? ⟨b, 1, none⟩ = some (.int .u32 (l.sh : Int)) := block_cell B1.out.x rfl
  have p2 : W1.cell? ⟨b, 2, none⟩ = some (.int .u32 (l.sq : Int)) := block_cell B1.out.x rfl
  have p3 : W1.cell? ⟨b, 3, none⟩ = some (.bool l.an) := block_cell B1.out.x rfl
  have p4 : W1.cell? ⟨b, 4, none⟩ = some (.int .i64 l.q.k) := block_cell B1.out.x rfl
  have p5 : W1.cell? ⟨b, 5, none⟩ = some (.int .u32 (l.q.c : Int)) := block_cell B1.out.x rfl
  have p6 : W1.cell? ⟨b, 6, none⟩ = some (.int .u32 (l.q.n : Int)) := block_cell B1.out.x rfl
  have p7 : W1.cell? ⟨b, 7, none⟩ = some (.int .u64 (l.q.sp : Int)) := block_cell B1.out.x rfl
  have p8 : W1.cell? ⟨b, 8, none⟩ = some (.int .u32 (l.q.sl : Int)) := block_cell B1.out.x rfl
  have p9 : W1.cell? ⟨b, 9, none⟩ = some (.int .u64 (l.q.ap : Int)) := block_cell B1.out.x rfl
  have p10 : W1.cell? ⟨b, 10, none⟩ = some (.int .u32 (l.q.al : Int)) := block_cell B1.out.x rfl
  have p11 : W1.cell? ⟨b, 11, none⟩ = some (.string (bs l.q.key)) := block_cell B1.out.x rfl
  have p12 : W1.cell? ⟨b, 12, none⟩ = some (.string (bs l.q.to)) := block_cell B1.out.x rfl
  have p13 : W1.cell? ⟨b, 13, none⟩ = some (.int .i64 l.q.lim) := block_cell B1.out.x rfl
  have p14 : W1.cell? ⟨b, 14, none⟩ = some (.int .u8 (l.q.pt : Int)) := block_cell B1.out.x rfl
  have p15 : W1.cell? ⟨b, 15, none⟩ = some (.slice wa l.q.ws.length wc) := block_cell B1.out.x rfl
  have p16 : W1.cell? ⟨b, 16, none⟩ = some (.slice sa l.q.sk.length sc) := block_cell B1.out.x rfl
  have p17 : W1.cell? ⟨b, 17, none⟩ = some (.int .i64 l.r.k) := block_cell B1.out.x rfl
  have p18 : W1.cell? ⟨b, 18, none⟩ = some (.int .i64 l.r.er) := block_cell B1.out.x rfl
  have p19 : W1.cell? ⟨b, 19, none⟩ = some (.bool l.r.fd) := block_cell B1.out.x rfl
  have p20 : W1.cell? ⟨b, 20, none⟩ = some (.string (bs l.r.val)) := block_cell B1.out.x rfl
  have p21 : W1.cell? ⟨b, 21, none⟩ = some (.slice pa l.r.ps.length pc) := block_cell B1.out.x rfl
  have p22 : W1.cell? ⟨b, 22, none⟩ = some (.int .u32 (l.r.c : Int)) := block_cell B1.out.x rfl
  have p23 : W1.cell? ⟨b, 23, none⟩ = some (.int .u32 (l.r.n : Int)) := block_cell B1.out.x rfl
  have p24 : W1.cell? ⟨b, 24, none⟩ = some (.int .u64 (l.r.sp : Int)) := block_cell B1.out.x rfl
  have p25 : W1.cell? ⟨b, 25, none⟩ = some (.int .u32 (l.r.sl : Int)) := block_cell B1.out.x rfl
  have p26 : W1.cell? ⟨b, 26, none⟩ = some (.int .u64 (l.r.ap : Int)) := block_cell B1.out.x rfl
  have p27 : W1.cell? ⟨b, 27, none⟩ = some (.int .u32 (l.r.al : Int)) := block_cell B1.out.x rfl
  have p28 : W1.cell? ⟨b, 28, none⟩ = some (.string (bs l.r.prim)) := block_cell B1.out.x rfl
  have p29 : W1.cell? ⟨b, 29, none⟩ = some (.int .u64 (l.r.np : Int)) := block_cell B1.out.x rfl
  have p30 : W1.cell? ⟨b, 30, none⟩ = some (.int .u32 (l.r.nl : Int)) := block_cell B1.out.x rfl
  by_cases d0 : l.cl < 4
  rotate_left
  · have d0' : (4 : Int) ≤ l.cl := by omega
    go_enter Try.func18, Try.ntmps18
    go_wp2_with fail
    go_ret
    exact ⟨ret_bool (no_bool (fun h => d0 (rightL_iff.1 h).1)).symm, (by first | exact B1.out.bel | exact below_of hb B1.out.bel)⟩
  have d0' : ¬ (4 : Int) ≤ l.cl := by omega
  by_cases d1 : l.sh < 8
  rotate_left
  · have d1' : (8 : Int) ≤ l.sh := by omega
    go_enter Try.func18, Try.ntmps18
    go_wp2_with fail
    go_ret
    exact ⟨ret_bool (no_bool (fun h => d1 (rightL_iff.1 h).2.1)).symm, (by first | exact B1.out.bel | exact below_of hb B1.out.bel)⟩
  have d1' : ¬ (8 : Int) ≤ l.sh := by omega
  obtain ⟨an, han⟩ : ∃ an, l.an = an := ⟨_, rfl⟩
  have HAN : Hid (l.an = an) := han
  rw [han] at p3
  clear han
  cases an
  rotate_left
  · go_enter Try.func18, Try.ntmps18
    go_wp2_with fail
    refine (CQ.out _ B1.out.bel).mono ?_
    rintro e w2 ⟨rfl, hb2⟩
    have B2 : Hid (Bx w b #[.int .u32 (l.cl : Int), .int .u32 (l.sh : Int), .int .u32 (l.sq : Int), .bool l.an, .int .i64 l.q.k, .int .u32 (l.q.c : Int), .int .u32 (l.q.n : Int), .int .u64 (l.q.sp : Int), .int .u32 (l.q.sl : Int), .int .u64 (l.q.ap : Int), .int .u32 (l.q.al : Int), .string (bs l.q.key), .string (bs l.q.to), .int .i64 l.q.lim, .int .u8 (l.q.pt : Int), .slice wa l.q.ws.length wc, .slice sa l.q.sk.length sc, .int .i64 l.r.k, .int .i64 l.r.er, .bool l.r.fd, .string (bs l.r.val), .slice pa l.r.ps.length pc, .int .u32 (l.r.c : Int), .int .u32 (l.r.n : Int), .int .u64 (l.r.sp : Int), .int .u32 (l.r.sl : Int), .int .u64 (l.r.ap : Int), .int .u32 (l.r.al : Int), .string (bs l.r.prim), .int .u64 (l.r.np : Int), .int .u32 (l.r.nl : Int)] 37 w2) := B1.out.on hb2
    clear hb2 p0 p1 p2 p3 p4 p5 p6 p7 p8 p9 p10 p11 p12 p13 p14 p15 p16 p17 p18 p19 p20 p21 p22 p23 p24 p25 p26 p27 p28 p29 p30
    have p17 : w2.cell? ⟨b, 17, none⟩ = some (.int .i64 l.r.k) := block_cell B2.out.x rfl
    have p18 : w2.cell? ⟨b, 18, none⟩ = some (.int .i64 l.r.er) := block_cell B2.out.x rfl
    have p19 : w2.cell? ⟨b, 19, none⟩ = some (.bool l.r.fd) := block_cell B2.out.x rfl
    have p20 : w2.cell? ⟨b, 20, none⟩ = some (.string (bs l.r.val)) := block_cell B2.out.x rfl
    have p21 : w2.cell? ⟨b, 21, none⟩ = some (.slice pa l.r.ps.length pc) := block_cell B2.out.x rfl
    have p22 : w2.cell? ⟨b, 22, none⟩ = some (.int .u32 (l.r.c : Int)) := block_cell B2.out.x rfl
    have p23 : w2.cell? ⟨b, 23, none⟩ = some (.int .u32 (l.r.n : Int)) := block_cell B2.out.x rfl
    have p24 : w2.cell? ⟨b, 24, none⟩ = some (.int .u64 (l.r.sp : Int)) := block_cell B2.out.x rfl
    have p25 : w2.cell? ⟨b, 25, none⟩ = some (.int .u32 (l.r.sl : Int)) := block_cell B2.out.x rfl
    have p26 : w2.cell? ⟨b, 26, none⟩ = some (.int .u64 (l.r.ap : Int)) := block_cell B2.out.x rfl
    have p27 : w2.cell? ⟨b, 27, none⟩ = some (.int .u32 (l.r.al : Int)) := block_cell B2.out.x rfl
    have p28 : w2.cell? ⟨b, 28, none⟩ = some (.string (bs l.r.prim)) := block_cell B2.out.x rfl
    have p29 : w2.cell? ⟨b, 29, none⟩ = some (.int .u64 (l.r.np : Int)) := block_cell B2.out.x rfl
    have p30 : w2.cell? ⟨b, 30, none⟩ = some (.int .u32 (l.r.nl : Int)) := block_cell B2.out.x rfl
    have HR : Hid (rightL l = (sameQ l.q zQ && okR l.r)) := by show _ = _; simp [rightL, d0, d1, HAN.out]
    clear CQ CR
    generalize sameQ l.q zQ = z at *
    cases z
    · go_wp2_with fail
      go_ret
      exact ⟨ret_bool (by rw [HR.out]; rfl), (by first | exact B2.out.bel | exact below_of hb B2.out.bel)⟩
    go_wp2_with fail
    refine (reply50 l.r pa pc _ (HL.out.up B2.out.bel).r).mono ?_
    rintro e w3 ⟨rfl, hb3⟩
    have B3 : Hid (Bx w b #[.int .u32 (l.cl : Int), .int .u32 (l.sh : Int), .int .u32 (l.sq : Int), .bool l.an, .int .i64 l.q.k, .int .u32 (l.q.c : Int), .int .u32 (l.q.n : Int), .int .u64 (l.q.sp : Int), .int .u32 (l.q.sl : Int), .int .u64 (l.q.ap : Int), .int .u32 (l.q.al : Int), .string (bs l.q.key), .string (bs l.q.to), .int .i64 l.q.lim, .int .u8 (l.q.pt : Int), .slice wa l.q.ws.length wc, .slice sa l.q.sk.length sc, .int .i64 l.r.k, .int .i64 l.r.er, .bool l.r.fd, .string (bs l.r.val), .slice pa l.r.ps.length pc, .int .u32 (l.r.c : Int), .int .u32 (l.r.n : Int), .int .u64 (l.r.sp : Int), .int .u32 (l.r.sl : Int), .int .u64 (l.r.ap : Int), .int .u32 (l.r.al : Int), .string (bs l.r.prim), .int .u64 (l.r.np : Int), .int .u32 (l.r.nl : Int)] 37 w3) := B2.out.on hb3
    clear hb3
    go_wp2_with fail
    go_ret
    exact ⟨ret_bool (by rw [HR.out]; rfl), (by first | exact B3.out.bel | exact below_of hb B3.out.bel)⟩
  go_enter Try.func18, Try.ntmps18
  go_wp2_with fail
  refine (CR.out _ B1.out.bel).mono ?_
  rintro e w2 ⟨rfl, hb2⟩
  have B2 : Hid (Bx w b #[.int .u32 (l.cl : Int), .int .u32 (l.sh : Int), .int .u32 (l.sq : Int), .bool l.an, .int .i64 l.q.k, .int .u32 (l.q.c : Int), .int .u32 (l.q.n : Int), .int .u64 (l.q.sp : Int), .int .u32 (l.q.sl : Int), .int .u64 (l.q.ap : Int), .int .u32 (l.q.al : Int), .string (bs l.q.key), .string (bs l.q.to), .int .i64 l.q.lim, .int .u8 (l.q.pt : Int), .slice wa l.q.ws.length wc, .slice sa l.q.sk.length sc, .int .i64 l.r.k, .int .i64 l.r.er, .bool l.r.fd, .string (bs l.r.val), .slice pa l.r.ps.length pc, .int .u32 (l.r.c : Int), .int .u32 (l.r.n : Int), .int .u64 (l.r.sp : Int), .int .u32 (l.r.sl : Int), .int .u64 (l.r.ap : Int), .int .u32 (l.r.al : Int), .string (bs l.r.prim), .int .u64 (l.r.np : Int), .int .u32 (l.r.nl : Int)] 37 w2) := B1.out.on hb2
  clear hb2 p0 p1 p2 p3 p4 p5 p6 p7 p8 p9 p10 p11 p12 p13 p14 p15 p16 p17 p18 p19 p20 p21 p22 p23 p24 p25 p26 p27 p28 p29 p30
  have p4 : w2.cell? ⟨b, 4, none⟩ = some (.int .i64 l.q.k) := block_cell B2.out.x rfl
  have p5 : w2.cell? ⟨b, 5, none⟩ = some (.int .u32 (l.q.c : Int)) := block_cell B2.out.x rfl
  have p6 : w2.cell? ⟨b, 6, none⟩ = some (.int .u32 (l.q.n : Int)) := block_cell B2.out.x rfl
  have p7 : w2.cell? ⟨b, 7, none⟩ = some (.int .u64 (l.q.sp : Int)) := block_cell B2.out.x rfl
  have p8 : w2.cell? ⟨b, 8, none⟩ = some (.int .u32 (l.q.sl : Int)) := block_cell B2.out.x rfl
  have p9 : w2.cell? ⟨b, 9, none⟩ = some (.int .u64 (l.q.ap : Int)) := block_cell B2.out.x rfl
  have p10 : w2.cell? ⟨b, 10, none⟩ = some (.int .u32 (l.q.al : Int)) := block_cell B2.out.x rfl
  have p11 : w2.cell? ⟨b, 11, none⟩ = some (.string (bs l.q.key)) := block_cell B2.out.x rfl
  have p12 : w2.cell? ⟨b, 12, none⟩ = some (.string (bs l.q.to)) := block_cell B2.out.x rfl
  have p13 : w2.cell? ⟨b, 13, none⟩ = some (.int .i64 l.q.lim) := block_cell B2.out.x rfl
  have p14 : w2.cell? ⟨b, 14, none⟩ = some (.int .u8 (l.q.pt : Int)) := block_cell B2.out.x rfl
  have p15 : w2.cell? ⟨b, 15, none⟩ = some (.slice wa l.q.ws.length wc) := block_cell B2.out.x rfl
  have p16 : w2.cell? ⟨b, 16, none⟩ = some (.slice sa l.q.sk.length sc) := block_cell B2.out.x rfl
  have HR : Hid (rightL l = (sameR l.r zR && okQ l.q)) := by show _ = _; simp [rightL, d0, d1, HAN.out]
  clear CQ CR
  generalize sameR l.r zR = z at *
  cases z
  · go_wp2_with fail
    go_ret
    exact ⟨ret_bool (by rw [HR.out]; rfl), (by first | exact B2.out.bel | exact below_of hb B2.out.bel)⟩
  go_wp2_with fail
  refine (ask51 l.q wa sa wc sc _ (HL.out.up B2.out.bel).q).mono ?_
  rintro e w3 ⟨rfl, hb3⟩
  have B3 : Hid (Bx w b #[.int .u32 (l.cl : Int), .int .u32 (l.sh : Int), .int .u32 (l.sq : Int), .bool l.an, .int .i64 l.q.k, .int .u32 (l.q.c : Int), .int .u32 (l.q.n : Int), .int .u64 (l.q.sp : Int), .int .u32 (l.q.sl : Int), .int .u64 (l.q.ap : Int), .int .u32 (l.q.al : Int), .string (bs l.q.key), .string (bs l.q.to), .int .i64 l.q.lim, .int .u8 (l.q.pt : Int), .slice wa l.q.ws.length wc, .slice sa l.q.sk.length sc, .int .i64 l.r.k, .int .i64 l.r.er, .bool l.r.fd, .string (bs l.r.val), .slice pa l.r.ps.length pc, .int .u32 (l.r.c : Int), .int .u32 (l.r.n : Int), .int .u64 (l.r.sp : Int), .int .u32 (l.r.sl : Int), .int .u64 (l.r.ap : Int), .int .u32 (l.r.al : Int), .string (bs l.r.prim), .int .u64 (l.r.np : Int), .int .u32 (l.r.nl : Int)] 37 w3) := B2.out.on hb3
  clear hb3
  go_wp2_with fail
  go_ret
  exact ⟨ret_bool (by rw [HR.out]; rfl), (by first | exact B3.out.bel | exact below_of hb B3.out.bel)⟩
end Go.Proofs.Ytmldgfepnmencaa
