/-
  LetterWrites, walked.
-/
import Derived.Test.YtmldgfepnmencaaLb
namespace Go.Proofs.Ytmldgfepnmencaa
open Go.RowKit Go.Sort

set_option maxHeartbeats 3200000 in
set_option maxRecDepth 100000 in
theorem writes3 (l : Le) (wa sa pa : Option Addr) (wc sc pc : Nat) (w : World) (rgl : RgL l) (hl : LAt w.heap.size l (.slice wa l.q.ws.length wc) (.slice sa l.q.sk.length sc) (.slice pa l.r.ps.length pc) w) :
    Calls Try.prog 3 #[.agg #[.int .u32 (l.cl : Int), .int .u32 (l.sh : Int), .int .u32 (l.sq : Int), .bool l.an, .int .i64 l.q.k, .int .u32 (l.q.c : Int), .int .u32 (l.q.n : Int), .int .u64 (l.q.sp : Int), .int .u32 (l.q.sl : Int), .int .u64 (l.q.ap : Int), .int .u32 (l.q.al : Int), .string (bs l.q.key), .string (bs l.q.to), .int .i64 l.q.lim, .int .u8 (l.q.pt : Int), .slice wa l.q.ws.length wc, .slice sa l.q.sk.length sc, .int .i64 l.r.k, .int .i64 l.r.er, .bool l.r.fd, .string (bs l.r.val), .slice pa l.r.ps.length pc, .int .u32 (l.r.c : Int), .int .u32 (l.r.n : Int), .int .u64 (l.r.sp : Int), .int .u32 (l.r.sl : Int), .int .u64 (l.r.ap : Int), .int .u32 (l.r.al : Int), .string (bs l.r.prim), .int .u64 (l.r.np : Int), .int .u32 (l.r.nl : Int)]] w fun e w' => e = .returned (.bool true) ∧ Below w.heap.size w w' := by
  have CA : Hid (∀ W : World, 1 = 1 → Calls Try.prog 6 #[] W fun e w' => e = .returned (.bool true) ∧ Below W.heap.size W w') := fun W _ => awake6 W
  have CW : Hid (∀ W, Below w.heap.size w W → _) := fun W hW => write7 l wa sa pa wc sc pc W rgl (hl.up hW)
  have CD : Hid (∀ W, Below w.heap.size w W → _) := fun W hW => write8 l wa sa pa wc sc pc W rgl (hl.up hW)
  have CR : Hid (∀ W, Below w.heap.size w W → _) := fun W hW => right9 l wa sa pa wc sc pc W (hl.up hW)
  have HL : Hid (LAt w.heap.size l (.slice wa l.q.ws.length wc) (.slice sa l.q.sk.length sc) (.slice pa l.r.ps.length pc) w) := hl
  have HG : Hid (RgL l) := rgl
  have HC : Hid _ := writeL_cases l
  have hwl := rgl.q.wl
  have hsl := rgl.q.sl_
  have hpl := rgl.r.pl
  clear hl rgl
  generalize (writeL l).1 = F at *
  generalize (writeL l).2 = e0 at *
  have H0 : Hid _ := bx_new w #[.int .u32 (l.cl : Int), .int .u32 (l.sh : Int), .int .u32 (l.sq : Int), .bool l.an, .int .i64 l.q.k, .int .u32 (l.q.c : Int), .int .u32 (l.q.n : Int), .int .u64 (l.q.sp : Int), .int .u32 (l.q.sl : Int), .int .u64 (l.q.ap : Int), .int .u32 (l.q.al : Int), .string (bs l.q.key), .string (bs l.q.to), .int .i64 l.q.lim, .int .u8 (l.q.pt : Int), .slice wa l.q.ws.length wc, .slice sa l.q.sk.length sc, .int .i64 l.r.k, .int .i64 l.r.er, .bool l.r.fd, .string (bs l.r.val), .slice pa l.r.ps.length pc, .int .u32 (l.r.c : Int), .int .u32 (l.r.n : Int), .int .u64 (l.r.sp : Int), .int .u32 (l.r.sl : Int), .int .u64 (l.r.ap : Int), .int .u32 (l.r.al : Int), .string (bs l.r.prim), .int .u64 (l.r.np : Int), .int .u32 (l.r.nl : Int)] 37
  obtain ⟨W1, hW1⟩ : ∃ W1, w.alloc (.cells #[.int .u32 (l.cl : Int), .int .u32 (l.sh : Int), .int .u32 (l.sq : Int), .bool l.an, .int .i64 l.q.k, .int .u32 (l.q.c : Int), .int .u32 (l.q.n : Int), .int .u64 (l.q.sp : Int), .int .u32 (l.q.sl : Int), .int .u64 (l.q.ap : Int), .int .u32 (l.q.al : Int), .string (bs l.q.key), .string (bs l.q.to), .int .i64 l.q.lim, .int .u8 (l.q.pt : Int), .slice wa l.q.ws.length wc, .slice sa l.q.sk.length sc, .int .i64 l.r.k, .int .i64 l.r.er, .bool l.r.fd, .string (bs l.r.val), .slice pa l.r.ps.length pc, .int .u32 (l.r.c : Int), .int .u32 (l.r.n : Int), .int .u64 (l.r.sp : Int), .int .u32 (l.r.sl : Int), .int .u64 (l.r.ap : Int), .int .u32 (l.r.al : Int), .string (bs l.r.prim), .int .u64 (l.r.np : Int), .int .u32 (l.r.nl : Int)] 37) = W1 := ⟨_, rfl⟩
  obtain ⟨b, hb⟩ : ∃ b, w.heap.size = b := ⟨_, rfl⟩
  have B1 : Hid (Bx w b #[.int .u32 (l.cl : Int), .int .u32 (l.sh : Int), .int .u32 (l.sq : Int), .bool l.an, .int .i64 l.q.k, .int .u32 (l.q.c : Int), .int .u32 (l.q.n : Int), .int .u64 (l.q.sp : Int), .int .u32 (l.q.sl : Int), .int .u64 (l.q.ap : Int), .int .u32 (l.q.al : Int), .string (bs l.q.key), .string (bs l.q.to), .int .i64 l.q.lim, .int .u8 (l.q.pt : Int), .slice wa l.q.ws.length wc, .slice sa l.q.sk.length sc, .int .i64 l.r.k, .int .i64 l.r.er, .bool l.r.fd, .string (bs l.r.val), .slice pa l.r.ps.length pc, .int .u32 (l.r.c : Int), .int .u32 (l.r.n : Int), .int .u64 (l.r.sp : Int), .int .u32 (l.r.sl : Int), .int .u64 (l.r.ap : Int), .int .u32 (l.r.al : Int), .string (bs l.r.prim), .int .u64 (l.r.np : Int), .int .u32 (l.r.nl : Int)] 37 W1) := by rw [← hb, ← hW1]; exact H0.out
  clear H0
  go_enter Try.func3, Try.ntmps3
  go_wp2_with fail
  refine (CA.out _ (by trivial)).mono ?_
  rintro r w2 ⟨rfl, hb2⟩
  have B2 : Hid (Bx w b #[.int .u32 (l.cl : Int), .int .u32 (l.sh : Int), .int .u32 (l.sq : Int), .bool l.an, .int .i64 l.q.k, .int .u32 (l.q.c : Int), .int .u32 (l.q.n : Int), .int .u64 (l.q.sp : Int), .int .u32 (l.q.sl : Int), .int .u64 (l.q.ap : Int), .int .u32 (l.q.al : Int), .string (bs l.q.key), .string (bs l.q.to), .int .i64 l.q.lim, .int .u8 (l.q.pt : Int), .slice wa l.q.ws.length wc, .slice sa l.q.sk.length sc, .int .i64 l.r.k, .int .i64 l.r.er, .bool l.r.fd, .string (bs l.r.val), .slice pa l.r.ps.length pc, .int .u32 (l.r.c : Int), .int .u32 (l.r.n : Int), .int .u64 (l.r.sp : Int), .int .u32 (l.r.sl : Int), .int .u64 (l.r.ap : Int), .int .u32 (l.r.al : Int), .string (bs l.r.prim), .int .u64 (l.r.np : Int), .int .u32 (l.r.nl : Int)] 37 w2) := B1.out.on hb2
  clear hb2 CA B1 hW1 hb
  have p15 : w2.cell? ⟨b, 15, none⟩ = some (.slice wa l.q.ws.length wc) := block_cell B2.out.x rfl
  have p16 : w2.cell? ⟨b, 16, none⟩ = some (.slice sa l.q.sk.length sc) := block_cell B2.out.x rfl
  have p21 : w2.cell? ⟨b, 21, none⟩ = some (.slice pa l.r.ps.length pc) := block_cell B2.out.x rfl
  by_cases hlen : (200 : Int) < (l.q.ws.length : Int) + (l.q.sk.length : Int) + (l.r.ps.length : Int)
  · go_wp2_with fail
    go_ret
    exact ⟨rfl, B2.out.bel⟩
  go_wp2_with (refine wpList_load_row rfl 37 _ rfl b rfl 37 _ (0, 0) _ B2.out.x Try.underlying37 rfl (by kernel_rfl) ?_)
  refine (CW.out _ B2.out.bel).mono ?_
  rintro r w3 ⟨rfl, hb3⟩
  have B3 : Hid (Bx w b #[.int .u32 (l.cl : Int), .int .u32 (l.sh : Int), .int .u32 (l.sq : Int), .bool l.an, .int .i64 l.q.k, .int .u32 (l.q.c : Int), .int .u32 (l.q.n : Int), .int .u64 (l.q.sp : Int), .int .u32 (l.q.sl : Int), .int .u64 (l.q.ap : Int), .int .u32 (l.q.al : Int), .string (bs l.q.key), .string (bs l.q.to), .int .i64 l.q.lim, .int .u8 (l.q.pt : Int), .slice wa l.q.ws.length wc, .slice sa l.q.sk.length sc, .int .i64 l.r.k, .int .i64 l.r.er, .bool l.r.fd, .string (bs l.r.val), .slice pa l.r.ps.length pc, .int .u32 (l.r.c : Int), .int .u32 (l.r.n : Int), .int .u64 (l.r.sp : Int), .int .u32 (l.r.sl : Int), .int .u64 (l.r.ap : Int), .int .u32 (l.r.al : Int), .string (bs l.r.prim), .int .u64 (l.r.np : Int), .int .u32 (l.r.nl : Int)] 37 w3) := B2.out.on hb3
  clear hb3 CW B2 p15 p16 p21 hlen
  go_wp2_with (refine wpList_load_row rfl 37 _ rfl b rfl 37 _ (0, 0) _ B3.out.x Try.underlying37 rfl (by kernel_rfl) ?_)
  refine (CD.out _ B3.out.bel).mono ?_
  rintro r w4 ⟨rfl, hb4⟩
  have B4 : Hid (Bx w b #[.int .u32 (l.cl : Int), .int .u32 (l.sh : Int), .int .u32 (l.sq : Int), .bool l.an, .int .i64 l.q.k, .int .u32 (l.q.c : Int), .int .u32 (l.q.n : Int), .int .u64 (l.q.sp : Int), .int .u32 (l.q.sl : Int), .int .u64 (l.q.ap : Int), .int .u32 (l.q.al : Int), .string (bs l.q.key), .string (bs l.q.to), .int .i64 l.q.lim, .int .u8 (l.q.pt : Int), .slice wa l.q.ws.length wc, .slice sa l.q.sk.length sc, .int .i64 l.r.k, .int .i64 l.r.er, .bool l.r.fd, .string (bs l.r.val), .slice pa l.r.ps.length pc, .int .u32 (l.r.c : Int), .int .u32 (l.r.n : Int), .int .u64 (l.r.sp : Int), .int .u32 (l.r.sl : Int), .int .u64 (l.r.ap : Int), .int .u32 (l.r.al : Int), .string (bs l.r.prim), .int .u64 (l.r.np : Int), .int .u32 (l.r.nl : Int)] 37 w4) := B3.out.on hb4
  clear hb4 CD B3
  go_wp2_with (refine wpList_load_row_g rfl 37 _ rfl b rfl 37 _ (0, 0) _ B4.out.x Try.underlying37 rfl (by kernel_rfl) ?_)
  refine (CR.out _ B4.out.bel).mono ?_
  rintro r w5 ⟨rfl, hb5⟩
  have B5 : Hid (Bx w b #[.int .u32 (l.cl : Int), .int .u32 (l.sh : Int), .int .u32 (l.sq : Int), .bool l.an, .int .i64 l.q.k, .int .u32 (l.q.c : Int), .int .u32 (l.q.n : Int), .int .u64 (l.q.sp : Int), .int .u32 (l.q.sl : Int), .int .u64 (l.q.ap : Int), .int .u32 (l.q.al : Int), .string (bs l.q.key), .string (bs l.q.to), .int .i64 l.q.lim, .int .u8 (l.q.pt : Int), .slice wa l.q.ws.length wc, .slice sa l.q.sk.length sc, .int .i64 l.r.k, .int .i64 l.r.er, .bool l.r.fd, .string (bs l.r.val), .slice pa l.r.ps.length pc, .int .u32 (l.r.c : Int), .int .u32 (l.r.n : Int), .int .u64 (l.r.sp : Int), .int .u32 (l.r.sl : Int), .int .u64 (l.r.ap : Int), .int .u32 (l.r.al : Int), .string (bs l.r.prim), .int .u64 (l.r.np : Int), .int .u32 (l.r.nl : Int)] 37 w5) := B4.out.on hb5
  clear hb5 CR B4
  rcases HC.out with ⟨rfl, hr, hf⟩ | ⟨rfl, hr, hf⟩
  rotate_left
  · rw [hr]
    have hbe : (bs F).toList.isEmpty = true := by rw [hf]; exact bs_nil_empty
    clear hr hf HC
    go_wp2_with fail
    go_ret
    exact ⟨rfl, B5.out.bel⟩
  rw [hr]
  have hfl := form_len hr HG.out
  have hrf := read_form hr HG.out
  rw [← hf] at hfl hrf
  have CP : Hid (∀ W : World, 1 = 1 → Calls Try.prog 10 #[.string (bs F)] W fun r w' => ∃ (wa2 sa2 pa2 : Option Addr) (wc2 sc2 pc2 : Nat), r = .returned (.tuple #[.agg #[.int .u32 (l.cl : Int), .int .u32 (l.sh : Int), .int .u32 (l.sq : Int), .bool l.an, .int .i64 l.q.k, .int .u32 (l.q.c : Int), .int .u32 (l.q.n : Int), .int .u64 (l.q.sp : Int), .int .u32 (l.q.sl : Int), .int .u64 (l.q.ap : Int), .int .u32 (l.q.al : Int), .string (bs l.q.key), .string (bs l.q.to), .int .i64 l.q.lim, .int .u8 (l.q.pt : Int), .slice wa2 l.q.ws.length wc2, .slice sa2 l.q.sk.length sc2, .int .i64 l.r.k, .int .i64 l.r.er, .bool l.r.fd, .string (bs l.r.val), .slice pa2 l.r.ps.length pc2, .int .u32 (l.r.c : Int), .int .u32 (l.r.n : Int), .int .u64 (l.r.sp : Int), .int .u32 (l.r.sl : Int), .int .u64 (l.r.ap : Int), .int .u32 (l.r.al : Int), .string (bs l.r.prim), .int .u64 (l.r.np : Int), .int .u32 (l.r.nl : Int)], .int .i64 0]) ∧ LAt w'.heap.size l (.slice wa2 l.q.ws.length wc2) (.slice sa2 l.q.sk.length sc2) (.slice pa2 l.r.ps.length pc2) w' ∧ Below W.heap.size W w') := fun W _ => by
    refine (read10 F W (by omega)).mono fun r w' h => ?_
    obtain ⟨wa, sa, pa, wc, sc, pc, hr, hl⟩ := h.yes _ hrf
    exact ⟨wa, sa, pa, wc, sc, pc, hr, hl, h.bel⟩
  clear hr hf hfl hrf HC
  go_wp2_with fail
  refine (CP.out _ (by trivial)).mono ?_
  rintro r w6 ⟨wa2, sa2, pa2, wc2, sc2, pc2, rfl, hl6, hb6⟩
  have B6 : Hid (Bx w b #[.int .u32 (l.cl : Int), .int .u32 (l.sh : Int), .int .u32 (l.sq : Int), .bool l.an, .int .i64 l.q.k, .int .u32 (l.q.c : Int), .int .u32 (l.q.n : Int), .int .u64 (l.q.sp : Int), .int .u32 (l.q.sl : Int), .int .u64 (l.q.ap : Int), .int .u32 (l.q.al : Int), .string (bs l.q.key), .string (bs l.q.to), .int .i64 l.q.lim, .int .u8 (l.q.pt : Int), .slice wa l.q.ws.length wc, .slice sa l.q.sk.length sc, .int .i64 l.r.k, .int .i64 l.r.er, .bool l.r.fd, .string (bs l.r.val), .slice pa l.r.ps.length pc, .int .u32 (l.r.c : Int), .int .u32 (l.r.n : Int), .int .u64 (l.r.sp : Int), .int .u32 (l.r.sl : Int), .int .u64 (l.r.ap : Int), .int .u32 (l.r.al : Int), .string (bs l.r.prim), .int .u64 (l.r.np : Int), .int .u32 (l.r.nl : Int)] 37 (w6.alloc (.cells #[.int .u32 (l.cl : Int), .int .u32 (l.sh : Int), .int .u32 (l.sq : Int), .bool l.an, .int .i64 l.q.k, .int .u32 (l.q.c : Int), .int .u32 (l.q.n : Int), .int .u64 (l.q.sp : Int), .int .u32 (l.q.sl : Int), .int .u64 (l.q.ap : Int), .int .u32 (l.q.al : Int), .string (bs l.q.key), .string (bs l.q.to), .int .i64 l.q.lim, .int .u8 (l.q.pt : Int), .slice wa2 l.q.ws.length wc2, .slice sa2 l.q.sk.length sc2, .int .i64 l.r.k, .int .i64 l.r.er, .bool l.r.fd, .string (bs l.r.val), .slice pa2 l.r.ps.length pc2, .int .u32 (l.r.c : Int), .int .u32 (l.r.n : Int), .int .u64 (l.r.sp : Int), .int .u32 (l.r.sl : Int), .int .u64 (l.r.ap : Int), .int .u32 (l.r.al : Int), .string (bs l.r.prim), .int .u64 (l.r.np : Int), .int .u32 (l.r.nl : Int)] 37))) := (B5.out.on hb6).on (al _)
  have X6 : Hid ((w6.alloc (.cells #[.int .u32 (l.cl : Int), .int .u32 (l.sh : Int), .int .u32 (l.sq : Int), .bool l.an, .int .i64 l.q.k, .int .u32 (l.q.c : Int), .int .u32 (l.q.n : Int), .int .u64 (l.q.sp : Int), .int .u32 (l.q.sl : Int), .int .u64 (l.q.ap : Int), .int .u32 (l.q.al : Int), .string (bs l.q.key), .string (bs l.q.to), .int .i64 l.q.lim, .int .u8 (l.q.pt : Int), .slice wa2 l.q.ws.length wc2, .slice sa2 l.q.sk.length sc2, .int .i64 l.r.k, .int .i64 l.r.er, .bool l.r.fd, .string (bs l.r.val), .slice pa2 l.r.ps.length pc2, .int .u32 (l.r.c : Int), .int .u32 (l.r.n : Int), .int .u64 (l.r.sp : Int), .int .u32 (l.r.sl : Int), .int .u64 (l.r.ap : Int), .int .u32 (l.r.al : Int), .string (bs l.r.prim), .int .u64 (l.r.np : Int), .int .u32 (l.r.nl : Int)] 37)).heap[w6.heap.size]? = some (.cells #[.int .u32 (l.cl : Int), .int .u32 (l.sh : Int), .int .u32 (l.sq : Int), .bool l.an, .int .i64 l.q.k, .int .u32 (l.q.c : Int), .int .u32 (l.q.n : Int), .int .u64 (l.q.sp : Int), .int .u32 (l.q.sl : Int), .int .u64 (l.q.ap : Int), .int .u32 (l.q.al : Int), .string (bs l.q.key), .string (bs l.q.to), .int .i64 l.q.lim, .int .u8 (l.q.pt : Int), .slice wa2 l.q.ws.length wc2, .slice sa2 l.q.sk.length sc2, .int .i64 l.r.k, .int .i64 l.r.er, .bool l.r.fd, .string (bs l.r.val), .slice pa2 l.r.ps.length pc2, .int .u32 (l.r.c : Int), .int .u32 (l.r.n : Int), .int .u64 (l.r.sp : Int), .int .u32 (l.r.sl : Int), .int .u64 (l.r.ap : Int), .int .u32 (l.r.al : Int), .string (bs l.r.prim), .int .u64 (l.r.np : Int), .int .u32 (l.r.nl : Int)] 37 (0, 0)) ∧ LAt (w6.alloc (.cells #[.int .u32 (l.cl : Int), .int .u32 (l.sh : Int), .int .u32 (l.sq : Int), .bool l.an, .int .i64 l.q.k, .int .u32 (l.q.c : Int), .int .u32 (l.q.n : Int), .int .u64 (l.q.sp : Int), .int .u32 (l.q.sl : Int), .int .u64 (l.q.ap : Int), .int .u32 (l.q.al : Int), .string (bs l.q.key), .string (bs l.q.to), .int .i64 l.q.lim, .int .u8 (l.q.pt : Int), .slice wa2 l.q.ws.length wc2, .slice sa2 l.q.sk.length sc2, .int .i64 l.r.k, .int .i64 l.r.er, .bool l.r.fd, .string (bs l.r.val), .slice pa2 l.r.ps.length pc2, .int .u32 (l.r.c : Int), .int .u32 (l.r.n : Int), .int .u64 (l.r.sp : Int), .int .u32 (l.r.sl : Int), .int .u64 (l.r.ap : Int), .int .u32 (l.r.al : Int), .string (bs l.r.prim), .int .u64 (l.r.np : Int), .int .u32 (l.r.nl : Int)] 37)).heap.size l (.slice wa2 l.q.ws.length wc2) (.slice sa2 l.q.sk.length sc2) (.slice pa2 l.r.ps.length pc2) (w6.alloc (.cells #[.int .u32 (l.cl : Int), .int .u32 (l.sh : Int), .int .u32 (l.sq : Int), .bool l.an, .int .i64 l.q.k, .int .u32 (l.q.c : Int), .int .u32 (l.q.n : Int), .int .u64 (l.q.sp : Int), .int .u32 (l.q.sl : Int), .int .u64 (l.q.ap : Int), .int .u32 (l.q.al : Int), .string (bs l.q.key), .string (bs l.q.to), .int .i64 l.q.lim, .int .u8 (l.q.pt : Int), .slice wa2 l.q.ws.length wc2, .slice sa2 l.q.sk.length sc2, .int .i64 l.r.k, .int .i64 l.r.er, .bool l.r.fd, .string (bs l.r.val), .slice pa2 l.r.ps.length pc2, .int .u32 (l.r.c : Int), .int .u32 (l.r.n : Int), .int .u64 (l.r.sp : Int), .int .u32 (l.r.sl : Int), .int .u64 (l.r.ap : Int), .int .u32 (l.r.al : Int), .string (bs l.r.prim), .int .u64 (l.r.np : Int), .int .u32 (l.r.nl : Int)] 37))) := ⟨heap_alloc_new w6 _, hl6.up (al _)⟩
  clear hl6 hb6 CP B5
  obtain ⟨W7, hW7⟩ : ∃ W, w6.alloc (.cells #[.int .u32 (l.cl : Int), .int .u32 (l.sh : Int), .int .u32 (l.sq : Int), .bool l.an, .int .i64 l.q.k, .int .u32 (l.q.c : Int), .int .u32 (l.q.n : Int), .int .u64 (l.q.sp : Int), .int .u32 (l.q.sl : Int), .int .u64 (l.q.ap : Int), .int .u32 (l.q.al : Int), .string (bs l.q.key), .string (bs l.q.to), .int .i64 l.q.lim, .int .u8 (l.q.pt : Int), .slice wa2 l.q.ws.length wc2, .slice sa2 l.q.sk.length sc2, .int .i64 l.r.k, .int .i64 l.r.er, .bool l.r.fd, .string (bs l.r.val), .slice pa2 l.r.ps.length pc2, .int .u32 (l.r.c : Int), .int .u32 (l.r.n : Int), .int .u64 (l.r.sp : Int), .int .u32 (l.r.sl : Int), .int .u64 (l.r.ap : Int), .int .u32 (l.r.al : Int), .string (bs l.r.prim), .int .u64 (l.r.np : Int), .int .u32 (l.r.nl : Int)] 37) = W := ⟨_, rfl⟩
  rw [hW7] at B6 X6
  have CS : Hid (1 = 1 → Calls Try.prog 11 #[.agg #[.int .u32 (l.cl : Int), .int .u32 (l.sh : Int), .int .u32 (l.sq : Int), .bool l.an, .int .i64 l.q.k, .int .u32 (l.q.c : Int), .int .u32 (l.q.n : Int), .int .u64 (l.q.sp : Int), .int .u32 (l.q.sl : Int), .int .u64 (l.q.ap : Int), .int .u32 (l.q.al : Int), .string (bs l.q.key), .string (bs l.q.to), .int .i64 l.q.lim, .int .u8 (l.q.pt : Int), .slice wa l.q.ws.length wc, .slice sa l.q.sk.length sc, .int .i64 l.r.k, .int .i64 l.r.er, .bool l.r.fd, .string (bs l.r.val), .slice pa l.r.ps.length pc, .int .u32 (l.r.c : Int), .int .u32 (l.r.n : Int), .int .u64 (l.r.sp : Int), .int .u32 (l.r.sl : Int), .int .u64 (l.r.ap : Int), .int .u32 (l.r.al : Int), .string (bs l.r.prim), .int .u64 (l.r.np : Int), .int .u32 (l.r.nl : Int)], .agg #[.int .u32 (l.cl : Int), .int .u32 (l.sh : Int), .int .u32 (l.sq : Int), .bool l.an, .int .i64 l.q.k, .int .u32 (l.q.c : Int), .int .u32 (l.q.n : Int), .int .u64 (l.q.sp : Int), .int .u32 (l.q.sl : Int), .int .u64 (l.q.ap : Int), .int .u32 (l.q.al : Int), .string (bs l.q.key), .string (bs l.q.to), .int .i64 l.q.lim, .int .u8 (l.q.pt : Int), .slice wa2 l.q.ws.length wc2, .slice sa2 l.q.sk.length sc2, .int .i64 l.r.k, .int .i64 l.r.er, .bool l.r.fd, .string (bs l.r.val), .slice pa2 l.r.ps.length pc2, .int .u32 (l.r.c : Int), .int .u32 (l.r.n : Int), .int .u64 (l.r.sp : Int), .int .u32 (l.r.sl : Int), .int .u64 (l.r.ap : Int), .int .u32 (l.r.al : Int), .string (bs l.r.prim), .int .u64 (l.r.np : Int), .int .u32 (l.r.nl : Int)]] W7 fun r w' => r = .returned (.bool true) ∧ Below W7.heap.size W7 w') := fun _ => by
    have := same11 l l wa sa pa wa2 sa2 pa2 wc sc pc wc2 sc2 pc2 W7 (HL.out.up B6.out.bel) X6.out.2
    rw [sameL_self] at this
    exact this
  go_wp2_with (first
    | (refine wpList_store_row rfl 37 _ _ rfl w6.heap.size #[.int .u32 (l.cl : Int), .int .u32 (l.sh : Int), .int .u32 (l.sq : Int), .bool l.an, .int .i64 l.q.k, .int .u32 (l.q.c : Int), .int .u32 (l.q.n : Int), .int .u64 (l.q.sp : Int), .int .u32 (l.q.sl : Int), .int .u64 (l.q.ap : Int), .int .u32 (l.q.al : Int), .string (bs l.q.key), .string (bs l.q.to), .int .i64 l.q.lim, .int .u8 (l.q.pt : Int), .slice wa2 l.q.ws.length wc2, .slice sa2 l.q.sk.length sc2, .int .i64 l.r.k, .int .i64 l.r.er, .bool l.r.fd, .string (bs l.r.val), .slice pa2 l.r.ps.length pc2, .int .u32 (l.r.c : Int), .int .u32 (l.r.n : Int), .int .u64 (l.r.sp : Int), .int .u32 (l.r.sl : Int), .int .u64 (l.r.ap : Int), .int .u32 (l.r.al : Int), .string (bs l.r.prim), .int .u64 (l.r.np : Int), .int .u32 (l.r.nl : Int)] rfl rfl 37 _ (heap_alloc_new w6 _) (by kernel_rfl) rfl (by simp [Value.oneCell']) ?_; rewrite [World.setRow_alloc_new, hW7])
    | (refine wpList_load_row_g rfl 37 _ rfl b rfl 37 _ (0, 0) _ B6.out.x Try.underlying37 rfl (by kernel_rfl) ?_)
    | (refine wpList_load_row_g rfl 37 _ rfl w6.heap.size rfl 37 _ (0, 0) _ X6.out.1 Try.underlying37 rfl (by kernel_rfl) ?_))
  refine (CS.out (by trivial)).mono ?_
  rintro r w8 ⟨rfl, hb8⟩
  have H8 : Hid (Below w.heap.size w w8) := B6.out.bel.trans (hb8.mono B6.out.bel.size)
  clear hb8 CS B6 X6 hW7
  go_wp2_with fail
  go_ret
  exact ⟨rfl, H8.out⟩
end Go.Proofs.Ytmldgfepnmencaa
