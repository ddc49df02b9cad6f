/-
  LetterApart, walked.
-/
import Derived.Test.YtmldgfepnmencaaLa
namespace Go.Proofs.Ytmldgfepnmencaa
open Go.RowKit Go.Sort

theorem writeL_cases (l : Le) : (writeL l).2 = 0 ∧ rightL l = true ∧ (writeL l).1 = formL l ∨ (writeL l).2 = 1 ∧ rightL l = false ∧ (writeL l).1 = [] := by
  unfold writeL
  cases rightL l with
  | true => exact .inl ⟨rfl, rfl, rfl⟩
  | false => exact .inr ⟨rfl, rfl, rfl⟩
theorem apart_eq {a b : Le} (ha : rightL a = true) (hb : rightL b = true) (ra : RgL a) (rb : RgL b) : (formL a == formL b) = sameL a b := by
  rw [Bool.eq_iff_iff, beq_iff_eq, sameL_iff]
  exact form_inj ha hb ra rb
set_option maxHeartbeats 3200000 in
set_option maxRecDepth 100000 in
theorem apart5 (a b : Le) (wa sa pa wa2 sa2 pa2 : Option Addr) (wc sc pc wc2 sc2 pc2 : Nat) (w : World) (rga : RgL a) (rgb : RgL b) (ha : LAt w.heap.size a (.slice wa a.q.ws.length wc) (.slice sa a.q.sk.length sc) (.slice pa a.r.ps.length pc) w) (hb : LAt w.heap.size b (.slice wa2 b.q.ws.length wc2) (.slice sa2 b.q.sk.length sc2) (.slice pa2 b.r.ps.length pc2) w) :
    Calls Try.prog 5 #[.agg #[.int .u32 (a.cl : Int), .int .u32 (a.sh : Int), .int .u32 (a.sq : Int), .bool a.an, .int .i64 a.q.k, .int .u32 (a.q.c : Int), .int .u32 (a.q.n : Int), .int .u64 (a.q.sp : Int), .int .u32 (a.q.sl : Int), .int .u64 (a.q.ap : Int), .int .u32 (a.q.al : Int), .string (bs a.q.key), .string (bs a.q.to), .int .i64 a.q.lim, .int .u8 (a.q.pt : Int), .slice wa a.q.ws.length wc, .slice sa a.q.sk.length sc, .int .i64 a.r.k, .int .i64 a.r.er, .bool a.r.fd, .string (bs a.r.val), .slice pa a.r.ps.length pc, .int .u32 (a.r.c : Int), .int .u32 (a.r.n : Int), .int .u64 (a.r.sp : Int), .int .u32 (a.r.sl : Int), .int .u64 (a.r.ap : Int), .int .u32 (a.r.al : Int), .string (bs a.r.prim), .int .u64 (a.r.np : Int), .int .u32 (a.r.nl : Int)], .agg #[.int .u32 (b.cl : Int), .int .u32 (b.sh : Int), .int .u32 (b.sq : Int), .bool b.an, .int .i64 b.q.k, .int .u32 (b.q.c : Int), .int .u32 (b.q.n : Int), .int .u64 (b.q.sp : Int), .int .u32 (b.q.sl : Int), .int .u64 (b.q.ap : Int), .int .u32 (b.q.al : Int), .string (bs b.q.key), .string (bs b.q.to), .int .i64 b.q.lim, .int .u8 (b.q.pt : Int), .slice wa2 b.q.ws.length wc2, .slice sa2 b.q.sk.length sc2, .int .i64 b.r.k, .int .i64 b.r.er, .bool b.r.fd, .string (bs b.r.val), .slice pa2 b.r.ps.length pc2, .int .u32 (b.r.c : Int), .int .u32 (b.r.n : Int), .int .u64 (b.r.sp : Int), .int .u32 (b.r.sl : Int), .int .u64 (b.r.ap : Int), .int .u32 (b.r.al : Int), .string (bs b.r.prim), .int .u64 (b.r.np : Int), .int .u32 (b.r.nl : Int)]] w fun e w' => e = .returned (.bool true) ∧ Below w.heap.size w w' := by
  have CA : Hid (∀ W : World, 1 = 1 → Calls Try.prog 6 #[] W fun e w' => e = .returned (.bool true) ∧ Below W.heap.size W w') := fun W _ => awake6 W
  have CWa : Hid (∀ W, Below w.heap.size w W → _) := fun W hW => write7 a wa sa pa wc sc pc W rga (ha.up hW)
  have CWb : Hid (∀ W, Below w.heap.size w W → _) := fun W hW => write7 b wa2 sa2 pa2 wc2 sc2 pc2 W rgb (hb.up hW)
  have CS : Hid (∀ W, Below w.heap.size w W → _) := fun W hW => same11 a b wa sa pa wa2 sa2 pa2 wc sc pc wc2 sc2 pc2 W (ha.up hW) (hb.up hW)
  have HCa : Hid _ := writeL_cases a
  have HCb : Hid _ := writeL_cases b
  have HEq : Hid (rightL a = true → rightL b = true → (formL a == formL b) = sameL a b) := fun h1 h2 => apart_eq h1 h2 rga rgb
  have hwa := rga.q.wl
  have hsa := rga.q.sl_
  have hpa := rga.r.pl
  have hwb := rgb.q.wl
  have hsb := rgb.q.sl_
  have hpb := rgb.r.pl
  clear ha hb rga rgb
  generalize (writeL a).1 = Fa at *
  generalize (writeL a).2 = ea at *
  generalize (writeL b).1 = Fb at *
  generalize (writeL b).2 = eb at *
  have H0 : Hid _ := tw_new w #[.int .u32 (a.cl : Int), .int .u32 (a.sh : Int), .int .u32 (a.sq : Int), .bool a.an, .int .i64 a.q.k, .int .u32 (a.q.c : Int), .int .u32 (a.q.n : Int), .int .u64 (a.q.sp : Int), .int .u32 (a.q.sl : Int), .int .u64 (a.q.ap : Int), .int .u32 (a.q.al : Int), .string (bs a.q.key), .string (bs a.q.to), .int .i64 a.q.lim, .int .u8 (a.q.pt : Int), .slice wa a.q.ws.length wc, .slice sa a.q.sk.length sc, .int .i64 a.r.k, .int .i64 a.r.er, .bool a.r.fd, .string (bs a.r.val), .slice pa a.r.ps.length pc, .int .u32 (a.r.c : Int), .int .u32 (a.r.n : Int), .int .u64 (a.r.sp : Int), .int .u32 (a.r.sl : Int), .int .u64 (a.r.ap : Int), .int .u32 (a.r.al : Int), .string (bs a.r.prim), .int .u64 (a.r.np : Int), .int .u32 (a.r.nl : Int)] #[.int .u32 (b.cl : Int), .int .u32 (b.sh : Int), .int .u32 (b.sq : Int), .bool b.an, .int .i64 b.q.k, .int .u32 (b.q.c : Int), .int .u32 (b.q.n : Int), .int .u64 (b.q.sp : Int), .int .u32 (b.q.sl : Int), .int .u64 (b.q.ap : Int), .int .u32 (b.q.al : Int), .string (bs b.q.key), .string (bs b.q.to), .int .i64 b.q.lim, .int .u8 (b.q.pt : Int), .slice wa2 b.q.ws.length wc2, .slice sa2 b.q.sk.length sc2, .int .i64 b.r.k, .int .i64 b.r.er, .bool b.r.fd, .string (bs b.r.val), .slice pa2 b.r.ps.length pc2, .int .u32 (b.r.c : Int), .int .u32 (b.r.n : Int), .int .u64 (b.r.sp : Int), .int .u32 (b.r.sl : Int), .int .u64 (b.r.ap : Int), .int .u32 (b.r.al : Int), .string (bs b.r.prim), .int .u64 (b.r.np : Int), .int .u32 (b.r.nl : Int)] 37
  obtain ⟨W0, hW0⟩ : ∃ W0, w.alloc (.cells #[.int .u32 (a.cl : Int), .int .u32 (a.sh : Int), .int .u32 (a.sq : Int), .bool a.an, .int .i64 a.q.k, .int .u32 (a.q.c : Int), .int .u32 (a.q.n : Int), .int .u64 (a.q.sp : Int), .int .u32 (a.q.sl : Int), .int .u64 (a.q.ap : Int), .int .u32 (a.q.al : Int), .string (bs a.q.key), .string (bs a.q.to), .int .i64 a.q.lim, .int .u8 (a.q.pt : Int), .slice wa a.q.ws.length wc, .slice sa a.q.sk.length sc, .int .i64 a.r.k, .int .i64 a.r.er, .bool a.r.fd, .string (bs a.r.val), .slice pa a.r.ps.length pc, .int .u32 (a.r.c : Int), .int .u32 (a.r.n : Int), .int .u64 (a.r.sp : Int), .int .u32 (a.r.sl : Int), .int .u64 (a.r.ap : Int), .int .u32 (a.r.al : Int), .string (bs a.r.prim), .int .u64 (a.r.np : Int), .int .u32 (a.r.nl : Int)] 37) = W0 := ⟨_, rfl⟩
  obtain ⟨W1, hW1⟩ : ∃ W1, W0.alloc (.cells #[.int .u32 (b.cl : Int), .int .u32 (b.sh : Int), .int .u32 (b.sq : Int), .bool b.an, .int .i64 b.q.k, .int .u32 (b.q.c : Int), .int .u32 (b.q.n : Int), .int .u64 (b.q.sp : Int), .int .u32 (b.q.sl : Int), .int .u64 (b.q.ap : Int), .int .u32 (b.q.al : Int), .string (bs b.q.key), .string (bs b.q.to), .int .i64 b.q.lim, .int .u8 (b.q.pt : Int), .slice wa2 b.q.ws.length wc2, .slice sa2 b.q.sk.length sc2, .int .i64 b.r.k, .int .i64 b.r.er, .bool b.r.fd, .string (bs b.r.val), .slice pa2 b.r.ps.length pc2, .int .u32 (b.r.c : Int), .int .u32 (b.r.n : Int), .int .u64 (b.r.sp : Int), .int .u32 (b.r.sl : Int), .int .u64 (b.r.ap : Int), .int .u32 (b.r.al : Int), .string (bs b.r.prim), .int .u64 (b.r.np : Int), .int .u32 (b.r.nl : Int)] 37) = W1 := ⟨_, rfl⟩
  obtain ⟨ba, hba⟩ : ∃ ba, w.heap.size = ba := ⟨_, rfl⟩
  obtain ⟨bb, hbb⟩ : ∃ bb, ba + 1 = bb := ⟨_, rfl⟩
  have hsz : W0.heap.size = bb := by rw [← hbb, ← hba, ← hW0]; simp
  have T1 : Hid (Tw w ba bb #[.int .u32 (a.cl : Int), .int .u32 (a.sh : Int), .int .u32 (a.sq : Int), .bool a.an, .int .i64 a.q.k, .int .u32 (a.q.c : Int), .int .u32 (a.q.n : Int), .int .u64 (a.q.sp : Int), .int .u32 (a.q.sl : Int), .int .u64 (a.q.ap : Int), .int .u32 (a.q.al : Int), .string (bs a.q.key), .string (bs a.q.to), .int .i64 a.q.lim, .int .u8 (a.q.pt : Int), .slice wa a.q.ws.length wc, .slice sa a.q.sk.length sc, .int .i64 a.r.k, .int .i64 a.r.er, .bool a.r.fd, .string (bs a.r.val), .slice pa a.r.ps.length pc, .int .u32 (a.r.c : Int), .int .u32 (a.r.n : Int), .int .u64 (a.r.sp : Int), .int .u32 (a.r.sl : Int), .int .u64 (a.r.ap : Int), .int .u32 (a.r.al : Int), .string (bs a.r.prim), .int .u64 (a.r.np : Int), .int .u32 (a.r.nl : Int)] #[.int .u32 (b.cl : Int), .int .u32 (b.sh : Int), .int .u32 (b.sq : Int), .bool b.an, .int .i64 b.q.k, .int .u32 (b.q.c : Int), .int .u32 (b.q.n : Int), .int .u64 (b.q.sp : Int), .int .u32 (b.q.sl : Int), .int .u64 (b.q.ap : Int), .int .u32 (b.q.al : Int), .string (bs b.q.key), .string (bs b.q.to), .int .i64 b.q.lim, .int .u8 (b.q.pt : Int), .slice wa2 b.q.ws.length wc2, .slice sa2 b.q.sk.length sc2, .int .i64 b.r.k, .int .i64 b.r.er, .bool b.r.fd, .string (bs b.r.val), .slice pa2 b.r.ps.length pc2, .int .u32 (b.r.c : Int), .int .u32 (b.r.n : Int), .int .u64 (b.r.sp : Int), .int .u32 (b.r.sl : Int), .int .u64 (b.r.ap : Int), .int .u32 (b.r.al : Int), .string (bs b.r.prim), .int .u64 (b.r.np : Int), .int .u32 (b.r.nl : Int)] 37 W1) := by
    rw [← hW1, ← hW0, ← hbb, ← hba]
    exact H0.out
  clear H0
  go_enter Try.func5, Try.ntmps5
  go_wp2_with fail
  refine (CA.out _ (by trivial)).mono ?_
  rintro r w2 ⟨rfl, hb2⟩
  have T2 : Hid (Tw w ba bb #[.int .u32 (a.cl : Int), .int .u32 (a.sh : Int), .int .u32 (a.sq : Int), .bool a.an, .int .i64 a.q.k, .int .u32 (a.q.c : Int), .int .u32 (a.q.n : Int), .int .u64 (a.q.sp : Int), .int .u32 (a.q.sl : Int), .int .u64 (a.q.ap : Int), .int .u32 (a.q.al : Int), .string (bs a.q.key), .string (bs a.q.to), .int .i64 a.q.lim, .int .u8 (a.q.pt : Int), .slice wa a.q.ws.length wc, .slice sa a.q.sk.length sc, .int .i64 a.r.k, .int .i64 a.r.er, .bool a.r.fd, .string (bs a.r.val), .slice pa a.r.ps.length pc, .int .u32 (a.r.c : Int), .int .u32 (a.r.n : Int), .int .u64 (a.r.sp : Int), .int .u32 (a.r.sl : Int), .int .u64 (a.r.ap : Int), .int .u32 (a.r.al : Int), .string (bs a.r.prim), .int .u64 (a.r.np : Int), .int .u32 (a.r.nl : Int)] #[.int .u32 (b.cl : Int), .int .u32 (b.sh : Int), .int .u32 (b.sq : Int), .bool b.an, .int .i64 b.q.k, .int .u32 (b.q.c : Int), .int .u32 (b.q.n : Int), .int .u64 (b.q.sp : Int), .int .u32 (b.q.sl : Int), .int .u64 (b.q.ap : Int), .int .u32 (b.q.al : Int), .string (bs b.q.key), .string (bs b.q.to), .int .i64 b.q.lim, .int .u8 (b.q.pt : Int), .slice wa2 b.q.ws.length wc2, .slice sa2 b.q.sk.length sc2, .int .i64 b.r.k, .int .i64 b.r.er, .bool b.r.fd, .string (bs b.r.val), .slice pa2 b.r.ps.length pc2, .int .u32 (b.r.c : Int), .int .u32 (b.r.n : Int), .int .u64 (b.r.sp : Int), .int .u32 (b.r.sl : Int), .int .u64 (b.r.ap : Int), .int .u32 (b.r.al : Int), .string (bs b.r.prim), .int .u64 (b.r.np : Int), .int .u32 (b.r.nl : Int)] 37 w2) := T1.out.on hb2
  clear hb2 CA T1 hW0 hW1 hba hbb hsz
  have p15 : w2.cell? ⟨ba, 15, none⟩ = some (.slice wa a.q.ws.length wc) := block_cell T2.out.xa rfl
  have p16 : w2.cell? ⟨ba, 16, none⟩ = some (.slice sa a.q.sk.length sc) := block_cell T2.out.xa rfl
  have p21 : w2.cell? ⟨ba, 21, none⟩ = some (.slice pa a.r.ps.length pc) := block_cell T2.out.xa rfl
  have q15 : w2.cell? ⟨bb, 15, none⟩ = some (.slice wa2 b.q.ws.length wc2) := block_cell T2.out.xb rfl
  have q16 : w2.cell? ⟨bb, 16, none⟩ = some (.slice sa2 b.q.sk.length sc2) := block_cell T2.out.xb rfl
  have q21 : w2.cell? ⟨bb, 21, none⟩ = some (.slice pa2 b.r.ps.length pc2) := block_cell T2.out.xb rfl
  by_cases hl : (200 : Int) < (a.q.ws.length : Int) + (a.q.sk.length : Int) + (a.r.ps.length : Int) + (b.q.ws.length : Int) + (b.q.sk.length : Int) + (b.r.ps.length : Int)
  · go_wp2_with fail
    go_ret
    exact ⟨rfl, T2.out.bel⟩
  go_wp2_with (refine wpList_load_row rfl 37 _ rfl ba rfl 37 _ (0, 0) _ T2.out.xa Try.underlying37 rfl (by kernel_rfl) ?_)
  refine (CWa.out _ T2.out.bel).mono ?_
  rintro r w3 ⟨rfl, hb3⟩
  have T3 : Hid (Tw w ba bb #[.int .u32 (a.cl : Int), .int .u32 (a.sh : Int), .int .u32 (a.sq : Int), .bool a.an, .int .i64 a.q.k, .int .u32 (a.q.c : Int), .int .u32 (a.q.n : Int), .int .u64 (a.q.sp : Int), .int .u32 (a.q.sl : Int), .int .u64 (a.q.ap : Int), .int .u32 (a.q.al : Int), .string (bs a.q.key), .string (bs a.q.to), .int .i64 a.q.lim, .int .u8 (a.q.pt : Int), .slice wa a.q.ws.length wc, .slice sa a.q.sk.length sc, .int .i64 a.r.k, .int .i64 a.r.er, .bool a.r.fd, .string (bs a.r.val), .slice pa a.r.ps.length pc, .int .u32 (a.r.c : Int), .int .u32 (a.r.n : Int), .int .u64 (a.r.sp : Int), .int .u32 (a.r.sl : Int), .int .u64 (a.r.ap : Int), .int .u32 (a.r.al : Int), .string (bs a.r.prim), .int .u64 (a.r.np : Int), .int .u32 (a.r.nl : Int)] #[.int .u32 (b.cl : Int), .int .u32 (b.sh : Int), .int .u32 (b.sq : Int), .bool b.an, .int .i64 b.q.k, .int .u32 (b.q.c : Int), .int .u32 (b.q.n : Int), .int .u64 (b.q.sp : Int), .int .u32 (b.q.sl : Int), .int .u64 (b.q.ap : Int), .int .u32 (b.q.al : Int), .string (bs b.q.key), .string (bs b.q.to), .int .i64 b.q.lim, .int .u8 (b.q.pt : Int), .slice wa2 b.q.ws.length wc2, .slice sa2 b.q.sk.length sc2, .int .i64 b.r.k, .int .i64 b.r.er, .bool b.r.fd, .string (bs b.r.val), .slice pa2 b.r.ps.length pc2, .int .u32 (b.r.c : Int), .int .u32 (b.r.n : Int), .int .u64 (b.r.sp : Int), .int .u32 (b.r.sl : Int), .int .u64 (b.r.ap : Int), .int .u32 (b.r.al : Int), .string (bs b.r.prim), .int .u64 (b.r.np : Int), .int .u32 (b.r.nl : Int)] 37 w3) := T2.out.on hb3
  clear hb3 CWa T2 p15 p16 p21 q15 q16 q21 hl
  go_wp2_with (refine wpList_load_row rfl 37 _ rfl bb rfl 37 _ (0, 0) _ T3.out.xb Try.underlying37 rfl (by kernel_rfl) ?_)
  refine (CWb.out _ T3.out.bel).mono ?_
  rintro r w4 ⟨rfl, hb4⟩
  have T4 : Hid (Tw w ba bb #[.int .u32 (a.cl : Int), .int .u32 (a.sh : Int), .int .u32 (a.sq : Int), .bool a.an, .int .i64 a.q.k, .int .u32 (a.q.c : Int), .int .u32 (a.q.n : Int), .int .u64 (a.q.sp : Int), .int .u32 (a.q.sl : Int), .int .u64 (a.q.ap : Int), .int .u32 (a.q.al : Int), .string (bs a.q.key), .string (bs a.q.to), .int .i64 a.q.lim, .int .u8 (a.q.pt : Int), .slice wa a.q.ws.length wc, .slice sa a.q.sk.length sc, .int .i64 a.r.k, .int .i64 a.r.er, .bool a.r.fd, .string (bs a.r.val), .slice pa a.r.ps.length pc, .int .u32 (a.r.c : Int), .int .u32 (a.r.n : Int), .int .u64 (a.r.sp : Int), .int .u32 (a.r.sl : Int), .int .u64 (a.r.ap : Int), .int .u32 (a.r.al : Int), .string (bs a.r.prim), .int .u64 (a.r.np : Int), .int .u32 (a.r.nl : Int)] #[.int .u32 (b.cl : Int), .int .u32 (b.sh : Int), .int .u32 (b.sq : Int), .bool b.an, .int .i64 b.q.k, .int .u32 (b.q.c : Int), .int .u32 (b.q.n : Int), .int .u64 (b.q.sp : Int), .int .u32 (b.q.sl : Int), .int .u64 (b.q.ap : Int), .int .u32 (b.q.al : Int), .string (bs b.q.key), .string (bs b.q.to), .int .i64 b.q.lim, .int .u8 (b.q.pt : Int), .slice wa2 b.q.ws.length wc2, .slice sa2 b.q.sk.length sc2, .int .i64 b.r.k, .int .i64 b.r.er, .bool b.r.fd, .string (bs b.r.val), .slice pa2 b.r.ps.length pc2, .int .u32 (b.r.c : Int), .int .u32 (b.r.n : Int), .int .u64 (b.r.sp : Int), .int .u32 (b.r.sl : Int), .int .u64 (b.r.ap : Int), .int .u32 (b.r.al : Int), .string (bs b.r.prim), .int .u64 (b.r.np : Int), .int .u32 (b.r.nl : Int)] 37 w4) := T3.out.on hb4
  clear hb4 CWb T3
  rcases HCa.out with ⟨rfl, hra, hfa⟩ | ⟨rfl, _, _⟩
  rotate_left
  · go_wp2_with fail
    go_ret
    exact ⟨rfl, T4.out.bel⟩
  rcases HCb.out with ⟨rfl, hrb, hfb⟩ | ⟨rfl, _, _⟩
  rotate_left
  · go_wp2_with fail
    go_ret
    exact ⟨rfl, T4.out.bel⟩
  have hq := bs_beq Fa Fb
  have HQ : Hid ((Fa == Fb) = sameL a b) := by show _ = _; rw [hfa, hfb]; exact HEq.out hra hrb
  generalize (Fa == Fb) = z at *
  rw [← HQ.out] at CS
  clear HQ HEq HCa HCb hra hfa hrb hfb
  go_wp2_with (first
    | (refine wpList_load_row rfl 37 _ rfl ba rfl 37 _ (0, 0) _ T4.out.xa Try.underlying37 rfl (by kernel_rfl) ?_)
    | (refine wpList_load_row rfl 37 _ rfl bb rfl 37 _ (0, 0) _ T4.out.xb Try.underlying37 rfl (by kernel_rfl) ?_))
  refine (CS.out _ T4.out.bel).mono ?_
  rintro r w5 ⟨rfl, hb5⟩
  have T5 : Hid (Tw w ba bb #[.int .u32 (a.cl : Int), .int .u32 (a.sh : Int), .int .u32 (a.sq : Int), .bool a.an, .int .i64 a.q.k, .int .u32 (a.q.c : Int), .int .u32 (a.q.n : Int), .int .u64 (a.q.sp : Int), .int .u32 (a.q.sl : Int), .int .u64 (a.q.ap : Int), .int .u32 (a.q.al : Int), .string (bs a.q.key), .string (bs a.q.to), .int .i64 a.q.lim, .int .u8 (a.q.pt : Int), .slice wa a.q.ws.length wc, .slice sa a.q.sk.length sc, .int .i64 a.r.k, .int .i64 a.r.er, .bool a.r.fd, .string (bs a.r.val), .slice pa a.r.ps.length pc, .int .u32 (a.r.c : Int), .int .u32 (a.r.n : Int), .int .u64 (a.r.sp : Int), .int .u32 (a.r.sl : Int), .int .u64 (a.r.ap : Int), .int .u32 (a.r.al : Int), .string (bs a.r.prim), .int .u64 (a.r.np : Int), .int .u32 (a.r.nl : Int)] #[.int .u32 (b.cl : Int), .int .u32 (b.sh : Int), .int .u32 (b.sq : Int), .bool b.an, .int .i64 b.q.k, .int .u32 (b.q.c : Int), .int .u32 (b.q.n : Int), .int .u64 (b.q.sp : Int), .int .u32 (b.q.sl : Int), .int .u64 (b.q.ap : Int), .int .u32 (b.q.al : Int), .string (bs b.q.key), .string (bs b.q.to), .int .i64 b.q.lim, .int .u8 (b.q.pt : Int), .slice wa2 b.q.ws.length wc2, .slice sa2 b.q.sk.length sc2, .int .i64 b.r.k, .int .i64 b.r.er, .bool b.r.fd, .string (bs b.r.val), .slice pa2 b.r.ps.length pc2, .int .u32 (b.r.c : Int), .int .u32 (b.r.n : Int), .int .u64 (b.r.sp : Int), .int .u32 (b.r.sl : Int), .int .u64 (b.r.ap : Int), .int .u32 (b.r.al : Int), .string (bs b.r.prim), .int .u64 (b.r.np : Int), .int .u32 (b.r.nl : Int)] 37 w5) := T4.out.on hb5
  clear hb5 CS T4
  go_wp2_with fail
  go_ret
  exact ⟨ret_bool (by cases z <;> rfl), T5.out.bel⟩
end Go.Proofs.Ytmldgfepnmencaa
