/-
  The document's Write: of a reply.
-/
import Derived.Test.YtmldgfepnmencaaDx
namespace Go.Proofs.Ytmldgfepnmencaa
open Go.RowKit Go.Sort

set_option maxHeartbeats 6400000 in
set_option maxRecDepth 100000 in
theorem write8r (l : Le) (kn ln rk re : Nat) (wa sa pa : Option Addr) (wc sc pc : Nat) (w : World) (ek : l.q.k = (kn : Int)) (el : l.q.lim = (ln : Int)) (er : l.r.k = (rk : Int)) (ee : l.r.er = (re : Int)) (hr : rightL l = true) (han : l.an = true) (rg : RgL l) (hl : LAt w.heap.size l (.slice wa l.q.ws.length wc) (.slice sa l.q.sk.length sc) (.slice pa l.r.ps.length pc) w) :
    Calls Try.prog 8 #[.agg #[.int .u32 (l.cl : Int), .int .u32 (l.sh : Int), .int .u32 (l.sq : Int), .bool l.an, .int .i64 (kn : Int), .int .u32 (l.q.c : Int), .int .u32 (l.q.n : Int), .int .u64 (l.q.sp : Int), .int .u32 (l.q.sl : Int), .int .u64 (l.q.ap : Int), .int .u32 (l.q.al : Int), .string (bs l.q.key), .string (bs l.q.to), .int .i64 (ln : Int), .int .u8 (l.q.pt : Int), .slice wa l.q.ws.length wc, .slice sa l.q.sk.length sc, .int .i64 (rk : Int), .int .i64 (re : Int), .bool l.r.fd, .string (bs l.r.val), .slice pa l.r.ps.length pc, .int .u32 (l.r.c : Int), .int .u32 (l.r.n : Int), .int .u64 (l.r.sp : Int), .int .u32 (l.r.sl : Int), .int .u64 (l.r.ap : Int), .int .u32 (l.r.al : Int), .string (bs l.r.prim), .int .u64 (l.r.np : Int), .int .u32 (l.r.nl : Int)]] w fun e w' => e = .returned (.tuple #[.string (bs (formL l)), .int .i64 0]) ∧ Below w.heap.size w w' := by
  have HL : Hid (LAt w.heap.size l (.slice wa l.q.ws.length wc) (.slice sa l.q.sk.length sc) (.slice pa l.r.ps.length pc) w) := hl
  have HG : Hid (RgL l) := rg
  have HO : Hid (OkR l.r ∧ l.cl < 4 ∧ l.sh < 8) := by
    obtain ⟨h1, h2, h3⟩ := rightL_iff.1 hr
    rcases h3 with ⟨h, _, h4⟩ | ⟨h, _, h4⟩
    · exact ⟨h4, h1, h2⟩
    · rw [han] at h; cases h
  have CR : Hid (∀ W : World, Below w.heap.size w W → Calls Try.prog 18 #[.agg #[.int .u32 (l.cl : Int), .int .u32 (l.sh : Int), .int .u32 (l.sq : Int), .bool l.an, .int .i64 (kn : Int), .int .u32 (l.q.c : Int), .int .u32 (l.q.n : Int), .int .u64 (l.q.sp : Int), .int .u32 (l.q.sl : Int), .int .u64 (l.q.ap : Int), .int .u32 (l.q.al : Int), .string (bs l.q.key), .string (bs l.q.to), .int .i64 (ln : Int), .int .u8 (l.q.pt : Int), .slice wa l.q.ws.length wc, .slice sa l.q.sk.length sc, .int .i64 (rk : Int), .int .i64 (re : Int), .bool l.r.fd, .string (bs l.r.val), .slice pa l.r.ps.length pc, .int .u32 (l.r.c : Int), .int .u32 (l.r.n : Int), .int .u64 (l.r.sp : Int), .int .u32 (l.r.sl : Int), .int .u64 (l.r.ap : Int), .int .u32 (l.r.al : Int), .string (bs l.r.prim), .int .u64 (l.r.np : Int), .int .u32 (l.r.nl : Int)]] W fun e w' => e = .returned (.bool true) ∧ Below W.heap.size W w') := fun W hW => by
    have h := right18 l wa sa pa wc sc pc W (hl.up hW)
    rw [ek, el, er, ee, hr] at h
    exact h
  have HFm : Hid (formL l = numForm l.cl ++ (numForm l.sh ++ (numForm l.sq ++ (flagForm l.an ++ formR l.r)))) := by show _ = _; unfold formL; rw [han]; rfl
  have HK : Hid (rk = l.r.k.toNat ∧ re = l.r.er.toNat) := ⟨by omega, by omega⟩
  have HAN : Hid (l.an = true) := han
  have hcl : l.cl < 4 := HO.out.2.1
  have hsh : l.sh < 8 := HO.out.2.2
  have hsq : l.sq < 4294967296 := rg.sq
  have hrk : rk ≤ 10 := by have := HO.out.1.k; omega
  have hre : re ≤ 255 := by have := HO.out.1.er; omega
  skip
  clear hl rg hr han ek el er ee
  have H0 : Hid _ := bx_new w #[.int .u32 (l.cl : Int), .int .u32 (l.sh : Int), .int .u32 (l.sq : Int), .bool l.an, .int .i64 (kn : Int), .int .u32 (l.q.c : Int), .int .u32 (l.q.n : Int), .int .u64 (l.q.sp : Int), .int .u32 (l.q.sl : Int), .int .u64 (l.q.ap : Int), .int .u32 (l.q.al : Int), .string (bs l.q.key), .string (bs l.q.to), .int .i64 (ln : Int), .int .u8 (l.q.pt : Int), .slice wa l.q.ws.length wc, .slice sa l.q.sk.length sc, .int .i64 (rk : Int), .int .i64 (re : Int), .bool l.r.fd, .string (bs l.r.val), .slice pa l.r.ps.length pc, .int .u32 (l.r.c : Int), .int .u32 (l.r.n : Int), .int .u64 (l.r.sp : Int), .int .u32 (l.r.sl : Int), .int .u64 (l.r.ap : Int), .int .u32 (l.r.al : Int), .string (bs l.r.prim), .int .u64 (l.r.np : Int), .int .u32 (l.r.nl : Int)] 37
  obtain ⟨W1, hW1⟩ : ∃ W1, w.alloc (.cells #[.int .u32 (l.cl : Int), .int .u32 (l.sh : Int), .int .u32 (l.sq : Int), .bool l.an, .int .i64 (kn : Int), .int .u32 (l.q.c : Int), .int .u32 (l.q.n : Int), .int .u64 (l.q.sp : Int), .int .u32 (l.q.sl : Int), .int .u64 (l.q.ap : Int), .int .u32 (l.q.al : Int), .string (bs l.q.key), .string (bs l.q.to), .int .i64 (ln : Int), .int .u8 (l.q.pt : Int), .slice wa l.q.ws.length wc, .slice sa l.q.sk.length sc, .int .i64 (rk : Int), .int .i64 (re : Int), .bool l.r.fd, .string (bs l.r.val), .slice pa l.r.ps.length pc, .int .u32 (l.r.c : Int), .int .u32 (l.r.n : Int), .int .u64 (l.r.sp : Int), .int .u32 (l.r.sl : Int), .int .u64 (l.r.ap : Int), .int .u32 (l.r.al : Int), .string (bs l.r.prim), .int .u64 (l.r.np : Int), .int .u32 (l.r.nl : Int)] 37) = W1 := ⟨_, rfl⟩
  obtain ⟨b, hb⟩ : ∃ b, w.heap.size = b := ⟨_, rfl⟩
  have B1 : Hid (Bx w b #[.int .u32 (l.cl : Int), .int .u32 (l.sh : Int), .int .u32 (l.sq : Int), .bool l.an, .int .i64 (kn : Int), .int .u32 (l.q.c : Int), .int .u32 (l.q.n : Int), .int .u64 (l.q.sp : Int), .int .u32 (l.q.sl : Int), .int .u64 (l.q.ap : Int), .int .u32 (l.q.al : Int), .string (bs l.q.key), .string (bs l.q.to), .int .i64 (ln : Int), .int .u8 (l.q.pt : Int), .slice wa l.q.ws.length wc, .slice sa l.q.sk.length sc, .int .i64 (rk : Int), .int .i64 (re : Int), .bool l.r.fd, .string (bs l.r.val), .slice pa l.r.ps.length pc, .int .u32 (l.r.c : Int), .int .u32 (l.r.n : Int), .int .u64 (l.r.sp : Int), .int .u32 (l.r.sl : Int), .int .u64 (l.r.ap : Int), .int .u32 (l.r.al : Int), .string (bs l.r.prim), .int .u64 (l.r.np : Int), .int .u32 (l.r.nl : Int)] 37 W1) := by rw [← hb, ← hW1]; exact H0.out
  clear H0
  go_enter Try.func8, Try.ntmps8
  go_wp2_with (refine wpList_load_row rfl 37 _ rfl b rfl 37 _ (0, 0) _ B1.out.x Try.underlying37 rfl (by kernel_rfl) ?_)
  refine (CR.out _ B1.out.bel).mono ?_
  rintro e w2 ⟨rfl, hb2⟩
  have B2 : Hid (Bx w b #[.int .u32 (l.cl : Int), .int .u32 (l.sh : Int), .int .u32 (l.sq : Int), .bool l.an, .int .i64 (kn : Int), .int .u32 (l.q.c : Int), .int .u32 (l.q.n : Int), .int .u64 (l.q.sp : Int), .int .u32 (l.q.sl : Int), .int .u64 (l.q.ap : Int), .int .u32 (l.q.al : Int), .string (bs l.q.key), .string (bs l.q.to), .int .i64 (ln : Int), .int .u8 (l.q.pt : Int), .slice wa l.q.ws.length wc, .slice sa l.q.sk.length sc, .int .i64 (rk : Int), .int .i64 (re : Int), .bool l.r.fd, .string (bs l.r.val), .slice pa l.r.ps.length pc, .int .u32 (l.r.c : Int), .int .u32 (l.r.n : Int), .int .u64 (l.r.sp : Int), .int .u32 (l.r.sl : Int), .int .u64 (l.r.ap : Int), .int .u32 (l.r.al : Int), .string (bs l.r.prim), .int .u64 (l.r.np : Int), .int .u32 (l.r.nl : Int)] 37 w2) := B1.out.on hb2
  clear hb2 hW1 hb B1 CR
  go_upto_region 3 with fail
  obtain ⟨F0_0, hF⟩ : ∃ F, numForm l.cl = F := ⟨_, rfl⟩
  have lf0 : F0_0.length ≤ 9 := by rw [← hF]; exact nf_len (by omega)
  have HF0_0 : Hid (numForm l.cl = F0_0) := hF
  have cc0 : Hid (∀ d os, Calls Try.prog 19 #[.int .u64 (l.cl : Int)] (grow (redrawn w2 d) os) fun r w'' => r = .returned (.string (bs F0_0)) ∧ ∃ p : Regrown, w'' = grow (redrawn w2 p.d) p.os) := fun d os => by rw [← hF]; exact Calls.regrown_of (num19 l.cl _ (by omega))
  clear hF
  obtain ⟨F0_1, hF⟩ : ∃ F, numForm l.sh = F := ⟨_, rfl⟩
  have lf1 : F0_1.length ≤ 9 := by rw [← hF]; exact nf_len (by omega)
  have HF0_1 : Hid (numForm l.sh = F0_1) := hF
  have cc1 : Hid (∀ d os, Calls Try.prog 19 #[.int .u64 (l.sh : Int)] (grow (redrawn w2 d) os) fun r w'' => r = .returned (.string (bs F0_1)) ∧ ∃ p : Regrown, w'' = grow (redrawn w2 p.d) p.os) := fun d os => by rw [← hF]; exact Calls.regrown_of (num19 l.sh _ (by omega))
  clear hF
  obtain ⟨G0_1, hG⟩ : ∃ G, F0_0 ++ F0_1 = G := ⟨_, rfl⟩
  obtain ⟨a1, n1⟩ := add_two F0_0 F0_1 (by omega)
  rw [hG] at a1
  have hg0_1 : G0_1.length ≤ 18 := by rw [← hG, List.length_append]; omega
  have HG0_1 : Hid (F0_0 ++ F0_1 = G0_1) := hG
  clear hG
  obtain ⟨F0_2, hF⟩ : ∃ F, numForm l.sq = F := ⟨_, rfl⟩
  have lf2 : F0_2.length ≤ 9 := by rw [← hF]; exact nf_len (by omega)
  have HF0_2 : Hid (numForm l.sq = F0_2) := hF
  have cc2 : Hid (∀ d os, Calls Try.prog 19 #[.int .u64 (l.sq : Int)] (grow (redrawn w2 d) os) fun r w'' => r = .returned (.string (bs F0_2)) ∧ ∃ p : Regrown, w'' = grow (redrawn w2 p.d) p.os) := fun d os => by rw [← hF]; exact Calls.regrown_of (num19 l.sq _ (by omega))
  clear hF
  obtain ⟨G0_2, hG⟩ : ∃ G, G0_1 ++ F0_2 = G := ⟨_, rfl⟩
  obtain ⟨a2, n2⟩ := add_two G0_1 F0_2 (by omega)
  rw [hG] at a2
  have hg0_2 : G0_2.length ≤ 27 := by rw [← hG, List.length_append]; omega
  have HG0_2 : Hid (G0_1 ++ F0_2 = G0_2) := hG
  clear hG
  obtain ⟨F0_3, hF⟩ : ∃ F, flagForm l.an = F := ⟨_, rfl⟩
  have lf3 : F0_3.length ≤ 1 := by rw [← hF]; exact Nat.le_of_eq (fl_len l.an)
  have HF0_3 : Hid (flagForm l.an = F0_3) := hF
  have cc3 : Hid (∀ d os, Calls Try.prog 20 #[.bool l.an] (grow (redrawn w2 d) os) fun r w'' => r = .returned (.string (bs F0_3)) ∧ ∃ p : Regrown, w'' = grow (redrawn w2 p.d) p.os) := fun d os => by rw [← hF]; exact Calls.regrown_of (flag20 l.an _)
  clear hF
  obtain ⟨G0_3, hG⟩ : ∃ G, G0_2 ++ F0_3 = G := ⟨_, rfl⟩
  obtain ⟨a3, n3⟩ := add_two G0_2 F0_3 (by omega)
  rw [hG] at a3
  have hg0_3 : G0_3.length ≤ 28 := by rw [← hG, List.length_append]; omega
  have HG0_3 : Hid (G0_2 ++ F0_3 = G0_3) := hG
  clear hG
  have v0 := wrap64 l.cl (by omega)
  have v1 := wrap64 l.sh (by omega)
  have v2 := wrap64 l.sq (by omega)
  have g0 := cell_regrown (show w2.cell? ⟨b, 0, none⟩ = some (.int .u32 (l.cl : Int)) from block_cell B2.out.x rfl)
  have g1 := cell_regrown (show w2.cell? ⟨b, 1, none⟩ = some (.int .u32 (l.sh : Int)) from block_cell B2.out.x rfl)
  have g2 := cell_regrown (show w2.cell? ⟨b, 2, none⟩ = some (.int .u32 (l.sq : Int)) from block_cell B2.out.x rfl)
  have g3 := cell_regrown (show w2.cell? ⟨b, 3, none⟩ = some (.bool l.an) from block_cell B2.out.x rfl)
  refine wp_region_quiet_below (by kernel_rfl) (by kernel_rfl) (Veil.out ?_)
  repeat (refine vq_step (fun K hK => ?_); go_simp; refine hK _ ?_; clear hK K)
  (refine vq_step (fun K hK => ?_); go_simp; apply Exists.intro; refine ⟨fun _ => ?_, hK _ ?_⟩; exact cc0.out _ _; clear hK K)
  repeat (refine vq_step (fun K hK => ?_); go_simp; refine hK _ ?_; clear hK K)
  (refine vq_step (fun K hK => ?_); go_simp; apply Exists.intro; refine ⟨fun _ => ?_, hK _ ?_⟩; exact cc1.out _ _; clear hK K)
  repeat (refine vq_step (fun K hK => ?_); go_simp; refine hK _ ?_; clear hK K)
  (refine vq_step (fun K hK => ?_); go_simp; apply Exists.intro; refine ⟨fun _ => ?_, hK _ ?_⟩; exact cc2.out _ _; clear hK K)
  repeat (refine vq_step (fun K hK => ?_); go_simp; refine hK _ ?_; clear hK K)
  (refine vq_step (fun K hK => ?_); go_simp; apply Exists.intro; refine ⟨fun _ => ?_, hK _ ?_⟩; exact cc3.out _ _; clear hK K)
  repeat (refine vq_step (fun K hK => ?_); go_simp; refine hK _ ?_; clear hK K)
  refine vq_nil ?_
  intro _ hw'
  obtain ⟨⟨dq, osq⟩, hw''⟩ := hw'
  subst hw''
  obtain ⟨W3, hW3⟩ : ∃ W3, grow (redrawn w2 dq) osq = W3 := ⟨_, rfl⟩
  have B3 : Hid (Bx w b #[.int .u32 (l.cl : Int), .int .u32 (l.sh : Int), .int .u32 (l.sq : Int), .bool l.an, .int .i64 (kn : Int), .int .u32 (l.q.c : Int), .int .u32 (l.q.n : Int), .int .u64 (l.q.sp : Int), .int .u32 (l.q.sl : Int), .int .u64 (l.q.ap : Int), .int .u32 (l.q.al : Int), .string (bs l.q.key), .string (bs l.q.to), .int .i64 (ln : Int), .int .u8 (l.q.pt : Int), .slice wa l.q.ws.length wc, .slice sa l.q.sk.length sc, .int .i64 (rk : Int), .int .i64 (re : Int), .bool l.r.fd, .string (bs l.r.val), .slice pa l.r.ps.length pc, .int .u32 (l.r.c : Int), .int .u32 (l.r.n : Int), .int .u64 (l.r.sp : Int), .int .u32 (l.r.sl : Int), .int .u64 (l.r.ap : Int), .int .u32 (l.r.al : Int), .string (bs l.r.prim), .int .u64 (l.r.np : Int), .int .u32 (l.r.nl : Int)] 37 W3) := by rw [← hW3]; exact B2.out.on (below_regrown _ _ _)
  rw [hW3]
  clear cc0 lf0 cc1 lf1 cc2 lf2 cc3 lf3 v0 v1 v2 a1 n1 a2 n2 a3 n3 g0 g1 g2 g3 hg0_1 hg0_2 hW3 B2
  have p3 : W3.cell? ⟨b, 3, none⟩ = some (.bool true) := by rw [← HAN.out]; exact block_cell B3.out.x rfl
  have p17 : W3.cell? ⟨b, 17, none⟩ = some (.int .i64 (rk : Int)) := block_cell B3.out.x rfl
  have p18 : W3.cell? ⟨b, 18, none⟩ = some (.int .i64 (re : Int)) := block_cell B3.out.x rfl
  have p19 : W3.cell? ⟨b, 19, none⟩ = some (.bool l.r.fd) := block_cell B3.out.x rfl
  have p20 : W3.cell? ⟨b, 20, none⟩ = some (.string (bs l.r.val)) := block_cell B3.out.x rfl
  have p21 : W3.cell? ⟨b, 21, none⟩ = some (.slice pa l.r.ps.length pc) := block_cell B3.out.x rfl
  have p22 : W3.cell? ⟨b, 22, none⟩ = some (.int .u32 (l.r.c : Int)) := block_cell B3.out.x rfl
  have p23 : W3.cell? ⟨b, 23, none⟩ = some (.int .u32 (l.r.n : Int)) := block_cell B3.out.x rfl
  have p24 : W3.cell? ⟨b, 24, none⟩ = some (.int .u64 (l.r.sp : Int)) := block_cell B3.out.x rfl
  have p25 : W3.cell? ⟨b, 25, none⟩ = some (.int .u32 (l.r.sl : Int)) := block_cell B3.out.x rfl
  have p26 : W3.cell? ⟨b, 26, none⟩ = some (.int .u64 (l.r.ap : Int)) := block_cell B3.out.x rfl
  have p27 : W3.cell? ⟨b, 27, none⟩ = some (.int .u32 (l.r.al : Int)) := block_cell B3.out.x rfl
  have p28 : W3.cell? ⟨b, 28, none⟩ = some (.string (bs l.r.prim)) := block_cell B3.out.x rfl
  have p29 : W3.cell? ⟨b, 29, none⟩ = some (.int .u64 (l.r.np : Int)) := block_cell B3.out.x rfl
  have p30 : W3.cell? ⟨b, 30, none⟩ = some (.int .u32 (l.r.nl : Int)) := block_cell B3.out.x rfl
  go_upto_region 18 with fail
  obtain ⟨W4, hW4⟩ : ∃ W4, W3.alloc (.cells #[.int .i64 (rk : Int), .int .i64 (re : Int), .bool l.r.fd, .string (bs l.r.val), .slice pa l.r.ps.length pc, .int .u32 (l.r.c : Int), .int .u32 (l.r.n : Int), .int .u64 (l.r.sp : Int), .int .u32 (l.r.sl : Int), .int .u64 (l.r.ap : Int), .int .u32 (l.r.al : Int), .string (bs l.r.prim), .int .u64 (l.r.np : Int), .int .u32 (l.r.nl : Int)] 35) = W4 := ⟨_, rfl⟩
  obtain ⟨br, hbn⟩ : ∃ b, W3.heap.size = b := ⟨_, rfl⟩
  have B4 : Hid (Bx w br #[.int .i64 (rk : Int), .int .i64 (re : Int), .bool l.r.fd, .string (bs l.r.val), .slice pa l.r.ps.length pc, .int .u32 (l.r.c : Int), .int .u32 (l.r.n : Int), .int .u64 (l.r.sp : Int), .int .u32 (l.r.sl : Int), .int .u64 (l.r.ap : Int), .int .u32 (l.r.al : Int), .string (bs l.r.prim), .int .u64 (l.r.np : Int), .int .u32 (l.r.nl : Int)] 35 W4) := by
    rw [← hbn, ← hW4]
    exact ⟨B3.out.bel.trans ((al _).mono B3.out.bel.size), heap_alloc_new W3 _⟩
  rw [hW4, hbn]
  clear hW4 hbn B3 p3 p17 p18 p19 p20 p21 p22 p23 p24 p25 p26 p27 p28 p29 p30
  have hpl : l.r.ps.length ≤ 32 := HO.out.1.pl
  obtain ⟨F1_0, hF⟩ : ∃ F, numForm rk = F := ⟨_, rfl⟩
  have lf0 : F1_0.length ≤ 9 := by rw [← hF]; exact nf_len (by omega)
  have HF1_0 : Hid (numForm rk = F1_0) := hF
  have cc0 : Hid (∀ d os, Calls Try.prog 19 #[.int .u64 (rk : Int)] (grow (redrawn W4 d) os) fun r w'' => r = .returned (.string (bs F1_0)) ∧ ∃ p : Regrown, w'' = grow (redrawn W4 p.d) p.os) := fun d os => by rw [← hF]; exact Calls.regrown_of (num19 rk _ (by omega))
  clear hF
  obtain ⟨G1_0, hG⟩ : ∃ G, G0_3 ++ F1_0 = G := ⟨_, rfl⟩
  obtain ⟨a0, n0⟩ := add_two G0_3 F1_0 (by omega)
  rw [hG] at a0
  have hg1_0 : G1_0.length ≤ 37 := by rw [← hG, List.length_append]; omega
  have HG1_0 : Hid (G0_3 ++ F1_0 = G1_0) := hG
  clear hG
  obtain ⟨F1_1, hF⟩ : ∃ F, numForm re = F := ⟨_, rfl⟩
  have lf1 : F1_1.length ≤ 9 := by rw [← hF]; exact nf_len (by omega)
  have HF1_1 : Hid (numForm re = F1_1) := hF
  have cc1 : Hid (∀ d os, Calls Try.prog 19 #[.int .u64 (re : Int)] (grow (redrawn W4 d) os) fun r w'' => r = .returned (.string (bs F1_1)) ∧ ∃ p : Regrown, w'' = grow (redrawn W4 p.d) p.os) := fun d os => by rw [← hF]; exact Calls.regrown_of (num19 re _ (by omega))
  clear hF
  obtain ⟨G1_1, hG⟩ : ∃ G, G1_0 ++ F1_1 = G := ⟨_, rfl⟩
  obtain ⟨a1, n1⟩ := add_two G1_0 F1_1 (by omega)
  rw [hG] at a1
  have hg1_1 : G1_1.length ≤ 46 := by rw [← hG, List.length_append]; omega
  have HG1_1 : Hid (G1_0 ++ F1_1 = G1_1) := hG
  clear hG
  obtain ⟨F1_2, hF⟩ : ∃ F, flagForm l.r.fd = F := ⟨_, rfl⟩
  have lf2 : F1_2.length ≤ 1 := by rw [← hF]; exact Nat.le_of_eq (fl_len l.r.fd)
  have HF1_2 : Hid (flagForm l.r.fd = F1_2) := hF
  have cc2 : Hid (∀ d os, Calls Try.prog 20 #[.bool l.r.fd] (grow (redrawn W4 d) os) fun r w'' => r = .returned (.string (bs F1_2)) ∧ ∃ p : Regrown, w'' = grow (redrawn W4 p.d) p.os) := fun d os => by rw [← hF]; exact Calls.regrown_of (flag20 l.r.fd _)
  clear hF
  obtain ⟨G1_2, hG⟩ : ∃ G, G1_1 ++ F1_2 = G := ⟨_, rfl⟩
  obtain ⟨a2, n2⟩ := add_two G1_1 F1_2 (by omega)
  rw [hG] at a2
  have hg1_2 : G1_2.length ≤ 47 := by rw [← hG, List.length_append]; omega
  have HG1_2 : Hid (G1_1 ++ F1_2 = G1_2) := hG
  clear hG
  obtain ⟨F1_3, hF⟩ : ∃ F, textForm l.r.val = F := ⟨_, rfl⟩
  have lf3 : F1_3.length ≤ 265 := by rw [← hF]; exact tx_len HO.out.1.val (by decide)
  have HF1_3 : Hid (textForm l.r.val = F1_3) := hF
  have cc3 : Hid (∀ d os, Calls Try.prog 23 #[.string (bs l.r.val)] (grow (redrawn W4 d) os) fun r w'' => r = .returned (.string (bs F1_3)) ∧ ∃ p : Regrown, w'' = grow (redrawn W4 p.d) p.os) := fun d os => by rw [← hF]; exact Calls.regrown_of (refText13 l.r.val _ (by have := HO.out.1.val; omega))
  clear hF
  obtain ⟨G1_3, hG⟩ : ∃ G, G1_2 ++ F1_3 = G := ⟨_, rfl⟩
  obtain ⟨a3, n3⟩ := add_two G1_2 F1_3 (by omega)
  rw [hG] at a3
  have hg1_3 : G1_3.length ≤ 312 := by rw [← hG, List.length_append]; omega
  have HG1_3 : Hid (G1_2 ++ F1_3 = G1_3) := hG
  clear hG
  obtain ⟨F1_4, hF⟩ : ∃ F, numForm l.r.ps.length = F := ⟨_, rfl⟩
  have lf4 : F1_4.length ≤ 9 := by rw [← hF]; exact nf_len (by omega)
  have HF1_4 : Hid (numForm l.r.ps.length = F1_4) := hF
  have cc4 : Hid (∀ d os, Calls Try.prog 19 #[.int .u64 (l.r.ps.length : Int)] (grow (redrawn W4 d) os) fun r w'' => r = .returned (.string (bs F1_4)) ∧ ∃ p : Regrown, w'' = grow (redrawn W4 p.d) p.os) := fun d os => by rw [← hF]; exact Calls.regrown_of (num19 l.r.ps.length _ (by omega))
  clear hF
  obtain ⟨G1_4, hG⟩ : ∃ G, G1_3 ++ F1_4 = G := ⟨_, rfl⟩
  obtain ⟨a4, n4⟩ := add_two G1_3 F1_4 (by omega)
  rw [hG] at a4
  have hg1_4 : G1_4.length ≤ 321 := by rw [← hG, List.length_append]; omega
  have HG1_4 : Hid (G1_3 ++ F1_4 = G1_4) := hG
  clear hG
  have v0 := wrap64 rk (by omega)
  have v1 := wrap64 re (by omega)
  have v4 := wrap64 l.r.ps.length (by omega)
  have g0 := cell_regrown (show W4.cell? ⟨br, 0, none⟩ = some (.int .i64 (rk : Int)) from block_cell B4.out.x rfl)
  have g1 := cell_regrown (show W4.cell? ⟨br, 1, none⟩ = some (.int .i64 (re : Int)) from block_cell B4.out.x rfl)
  have g2 := cell_regrown (show W4.cell? ⟨br, 2, none⟩ = some (.bool l.r.fd) from block_cell B4.out.x rfl)
  have g3 := cell_regrown (show W4.cell? ⟨br, 3, none⟩ = some (.string (bs l.r.val)) from block_cell B4.out.x rfl)
  have g4 := cell_regrown (show W4.cell? ⟨br, 4, none⟩ = some (.slice pa l.r.ps.length pc) from block_cell B4.out.x rfl)
  refine wp_region_quiet_below (by kernel_rfl) (by kernel_rfl) (Veil.out ?_)
  repeat (refine vq_step (fun K hK => ?_); go_simp; refine hK _ ?_; clear hK K)
  (refine vq_step (fun K hK => ?_); go_simp; apply Exists.intro; refine ⟨fun _ => ?_, hK _ ?_⟩; exact cc0.out _ _; clear hK K)
  repeat (refine vq_step (fun K hK => ?_); go_simp; refine hK _ ?_; clear hK K)
  (refine vq_step (fun K hK => ?_); go_simp; apply Exists.intro; refine ⟨fun _ => ?_, hK _ ?_⟩; exact cc1.out _ _; clear hK K)
  repeat (refine vq_step (fun K hK => ?_); go_simp; refine hK _ ?_; clear hK K)
  (refine vq_step (fun K hK => ?_); go_simp; apply Exists.intro; refine ⟨fun _ => ?_, hK _ ?_⟩; exact cc2.out _ _; clear hK K)
  repeat (refine vq_step (fun K hK => ?_); go_simp; refine hK _ ?_; clear hK K)
  (refine vq_step (fun K hK => ?_); go_simp; apply Exists.intro; refine ⟨fun _ => ?_, hK _ ?_⟩; exact cc3.out _ _; clear hK K)
  repeat (refine vq_step (fun K hK => ?_); go_simp; refine hK _ ?_; clear hK K)
  (refine vq_step (fun K hK => ?_); go_simp; apply Exists.intro; refine ⟨fun _ => ?_, hK _ ?_⟩; exact cc4.out _ _; clear hK K)
  repeat (refine vq_step (fun K hK => ?_); go_simp; refine hK _ ?_; clear hK K)
  refine vq_nil ?_
  intro _ hw'
  obtain ⟨⟨dq, osq⟩, hw''⟩ := hw'
  subst hw''
  obtain ⟨W5, hWn⟩ : ∃ W, grow (redrawn W4 dq) osq = W := ⟨_, rfl⟩
  have B5 : Hid (Bx w br #[.int .i64 (rk : Int), .int .i64 (re : Int), .bool l.r.fd, .string (bs l.r.val), .slice pa l.r.ps.length pc, .int .u32 (l.r.c : Int), .int .u32 (l.r.n : Int), .int .u64 (l.r.sp : Int), .int .u32 (l.r.sl : Int), .int .u64 (l.r.ap : Int), .int .u32 (l.r.al : Int), .string (bs l.r.prim), .int .u64 (l.r.np : Int), .int .u32 (l.r.nl : Int)] 35 W5) := by rw [← hWn]; exact B4.out.on (below_regrown _ _ _)
  rw [hWn]
  clear cc0 lf0 cc1 lf1 cc2 lf2 cc3 lf3 cc4 lf4 v0 v1 v4 a0 n0 a1 n1 a2 n2 a3 n3 a4 n4 g0 g1 g2 g3 g4 hg1_0 hg1_1 hg1_2 hg1_3 hWn B4
  have HE : Hid (∀ W, Below w.heap.size w W → ∀ i, i < l.r.ps.length → ∃ b off, pa = some ⟨b, off, none⟩ ∧ PtAt W b (off + i * 2) (l.r.ps.getD i dp)) := fun W hW i hi => (HL.out.r.on hW).el hi
  have HX : Hid (∀ i, i < l.r.ps.length → (l.r.ps.getD i dp).key.length ≤ 32 ∧ (l.r.ps.getD i dp).val.length ≤ 256) := fun i hi => HO.out.1.ps _ (getD_memPr hi)
  have HT : Hid (∀ m, m < l.r.ps.length → (l.r.ps.take (m + 1)).flatMap prForm = (l.r.ps.take m).flatMap prForm ++ prForm (l.r.ps.getD m dp)) := fun m h => take_snoc h
  have HLn : Hid (∀ m, m ≤ l.r.ps.length → ((l.r.ps.take m).flatMap prForm).length ≤ m * 306) := fun m h => take_len h (fun x hx => pr_len (HO.out.1.ps x hx))
  have p4 : W5.cell? ⟨br, 4, none⟩ = some (.slice pa l.r.ps.length pc) := block_cell B5.out.x rfl
  go_wp2_with fail
  clear p4
  go_loopw [4, 9] (fun s i wr => ∃ m : Nat, m ≤ l.r.ps.length ∧ s = .string (bs (G1_4 ++ (l.r.ps.take m).flatMap prForm)) ∧ i = .int .i64 m ∧ Bx w br #[.int .i64 (rk : Int), .int .i64 (re : Int), .bool l.r.fd, .string (bs l.r.val), .slice pa l.r.ps.length pc, .int .u32 (l.r.c : Int), .int .u32 (l.r.n : Int), .int .u64 (l.r.sp : Int), .int .u32 (l.r.sl : Int), .int .u64 (l.r.ap : Int), .int .u32 (l.r.al : Int), .string (bs l.r.prim), .int .u64 (l.r.np : Int), .int .u32 (l.r.nl : Int)] 35 wr) (fun _ i _ => l.r.ps.length - (intOf i).toNat)
  case atStart => exact ⟨0, Nat.zero_le _, by rw [List.take_zero, List.flatMap_nil, List.append_nil], rfl, B5.out⟩
  case round =>
    obtain ⟨m, hm, rfl, rfl, hB⟩ := hrel
    have HB : Hid (Bx w br #[.int .i64 (rk : Int), .int .i64 (re : Int), .bool l.r.fd, .string (bs l.r.val), .slice pa l.r.ps.length pc, .int .u32 (l.r.c : Int), .int .u32 (l.r.n : Int), .int .u64 (l.r.sp : Int), .int .u32 (l.r.sl : Int), .int .u64 (l.r.ap : Int), .int .u32 (l.r.al : Int), .string (bs l.r.prim), .int .u64 (l.r.np : Int), .int .u32 (l.r.nl : Int)] 35 wr) := hB
    clear hB B5
    have p4 : wr.cell? ⟨br, 4, none⟩ = some (.slice pa l.r.ps.length pc) := block_cell HB.out.x rfl
    by_cases hml : m < l.r.ps.length
    · obtain ⟨c1, o1, rfl, d0, d1⟩ := HE.out wr HB.out.bel m hml
      have hml1 : (m : Int) < l.r.ps.length := by omega
      have HQ : Hid (m + 1 ≤ l.r.ps.length) := hml
      have HTm : Hid _ := HT.out m hml
      have HXm : Hid _ := HX.out m hml
      have hLm := HLn.out m hm
      generalize l.r.ps.getD m dp = x at *
      obtain ⟨GL, hGL⟩ : ∃ L, G1_4 ++ (l.r.ps.take m).flatMap prForm = L := ⟨_, rfl⟩
      rw [hGL]
      have HGL : Hid (G1_4 ++ (l.r.ps.take m).flatMap prForm = GL) := hGL
      have hGl : GL.length ≤ 11000 := by rw [← hGL, List.length_append]; omega
      clear hGL hLm
      go_upto_region 22 with fail
      obtain ⟨F2_0, hF⟩ : ∃ F, textForm x.key = F := ⟨_, rfl⟩
      have lf0 : F2_0.length ≤ 41 := by rw [← hF]; exact tx_len HXm.out.1 (by decide)
      have HF2_0 : Hid (textForm x.key = F2_0) := hF
      have cc0 : Hid (∀ d os, Calls Try.prog 23 #[.string (bs x.key)] (grow (redrawn wr d) os) fun r w'' => r = .returned (.string (bs F2_0)) ∧ ∃ p : Regrown, w'' = grow (redrawn wr p.d) p.os) := fun d os => by rw [← hF]; exact Calls.regrown_of (refText13 x.key _ (by have := HXm.out.1; omega))
      clear hF
      obtain ⟨G2_0, hG⟩ : ∃ G, GL ++ F2_0 = G := ⟨_, rfl⟩
      obtain ⟨a0, n0⟩ := add_two GL F2_0 (by omega)
      rw [hG] at a0
      have hg2_0 : G2_0.length ≤ 11041 := by rw [← hG, List.length_append]; omega
      have HG2_0 : Hid (GL ++ F2_0 = G2_0) := hG
      clear hG
      obtain ⟨F2_1, hF⟩ : ∃ F, textForm x.val = F := ⟨_, rfl⟩
      have lf1 : F2_1.length ≤ 265 := by rw [← hF]; exact tx_len HXm.out.2 (by decide)
      have HF2_1 : Hid (textForm x.val = F2_1) := hF
      have cc1 : Hid (∀ d os, Calls Try.prog 23 #[.string (bs x.val)] (grow (redrawn wr d) os) fun r w'' => r = .returned (.string (bs F2_1)) ∧ ∃ p : Regrown, w'' = grow (redrawn wr p.d) p.os) := fun d os => by rw [← hF]; exact Calls.regrown_of (refText13 x.val _ (by have := HXm.out.2; omega))
      clear hF
      obtain ⟨G2_1, hG⟩ : ∃ G, G2_0 ++ F2_1 = G := ⟨_, rfl⟩
      obtain ⟨a1, n1⟩ := add_two G2_0 F2_1 (by omega)
      rw [hG] at a1
      have hg2_1 : G2_1.length ≤ 11306 := by rw [← hG, List.length_append]; omega
      have HG2_1 : Hid (G2_0 ++ F2_1 = G2_1) := hG
      clear hG
      have g4 := cell_regrown (show wr.cell? ⟨br, 4, none⟩ = some (.slice (some ⟨c1, o1, none⟩) l.r.ps.length pc) from p4)
      have k0 := cell_regrown (show wr.cell? ⟨c1, o1 + m * 2, none⟩ = some (.string (bs x.key)) from d0)
      have k1 := cell_regrown (show wr.cell? ⟨c1, o1 + m * 2 + 1, none⟩ = some (.string (bs x.val)) from d1)
      refine wp_region_quiet_below (by kernel_rfl) (by kernel_rfl) (Veil.out ?_)
      repeat (refine vq_step (fun K hK => ?_); go_simp; refine hK _ ?_; clear hK K)
      (refine vq_step (fun K hK => ?_); go_simp; apply Exists.intro; refine ⟨fun _ => ?_, hK _ ?_⟩; exact cc0.out _ _; clear hK K)
      repeat (refine vq_step (fun K hK => ?_); go_simp; refine hK _ ?_; clear hK K)
      (refine vq_step (fun K hK => ?_); go_simp; apply Exists.intro; refine ⟨fun _ => ?_, hK _ ?_⟩; exact cc1.out _ _; clear hK K)
      repeat (refine vq_step (fun K hK => ?_); go_simp; refine hK _ ?_; clear hK K)
      refine vq_nil ?_
      intro _ hw'
      obtain ⟨⟨dq, osq⟩, hw''⟩ := hw'
      subst hw''
      have B6 : Hid (Bx w br _ 35 (grow (redrawn wr dq) osq)) := HB.out.on (below_regrown _ _ _)
      clear cc0 lf0 cc1 lf1 a0 n0 a1 n1 g4 k0 k1 hg2_0 p4 d0 d1
      go_wp2_with fail
      go_roundw
      case rel => exact ⟨m + 1, HQ.out, by rw [HTm.out, ← List.append_assoc, HGL.out, prForm, HF2_0.out, HF2_1.out, ← List.append_assoc, HG2_0.out, HG2_1.out], by go_num, B6.out⟩
      case measure => simp [intOf]; omega
    · have hml1 : ¬ (m : Int) < l.r.ps.length := by omega
      have HM : Hid (m = l.r.ps.length) := by show _ = _; omega
      have hLm := HLn.out m hm
      obtain ⟨GL, hGL⟩ : ∃ L, G1_4 ++ (l.r.ps.take m).flatMap prForm = L := ⟨_, rfl⟩
      rw [hGL]
      have HGL : Hid (G1_4 ++ (l.r.ps.take m).flatMap prForm = GL) := hGL
      have hGl : GL.length ≤ 11000 := by rw [← hGL, List.length_append]; omega
      clear hGL hLm hm hml
      go_upto_region 23 with fail
      clear p4
      obtain ⟨F3_0, hF⟩ : ∃ F, tnForm ⟨l.r.c, l.r.n⟩ = F := ⟨_, rfl⟩
      have lf0 : F3_0.length ≤ 18 := by rw [← hF]; exact tn_len (t := ⟨l.r.c, l.r.n⟩) HG.out.r.c
      have HF3_0 : Hid (tnForm ⟨l.r.c, l.r.n⟩ = F3_0) := hF
      have cc0 : Hid (∀ d os, Calls Try.prog 21 #[.agg #[.int .u32 (l.r.c : Int), .int .u32 (l.r.n : Int)]] (grow (redrawn wr d) os) fun r w'' => r = .returned (.string (bs F3_0)) ∧ ∃ p : Regrown, w'' = grow (redrawn wr p.d) p.os) := fun d os => by rw [← hF]; exact Calls.regrown_of (txn21 ⟨l.r.c, l.r.n⟩ _ HG.out.r.c)
      clear hF
      obtain ⟨G3_0, hG⟩ : ∃ G, GL ++ F3_0 = G := ⟨_, rfl⟩
      obtain ⟨a0, n0⟩ := add_two GL F3_0 (by omega)
      rw [hG] at a0
      have hg3_0 : G3_0.length ≤ 11018 := by rw [← hG, List.length_append]; omega
      have HG3_0 : Hid (GL ++ F3_0 = G3_0) := hG
      clear hG
      obtain ⟨F3_1, hF⟩ : ∃ F, stampForm l.r.sp l.r.sl = F := ⟨_, rfl⟩
      have lf1 : F3_1.length ≤ 18 := by rw [← hF]; exact st_len HG.out.r.st
      have HF3_1 : Hid (stampForm l.r.sp l.r.sl = F3_1) := hF
      have cc1 : Hid (∀ d os, Calls Try.prog 22 #[.agg #[.int .u64 (l.r.sp : Int), .int .u32 (l.r.sl : Int)]] (grow (redrawn wr d) os) fun r w'' => r = .returned (.string (bs F3_1)) ∧ ∃ p : Regrown, w'' = grow (redrawn wr p.d) p.os) := fun d os => by rw [← hF]; exact Calls.regrown_of (refStamp17 l.r.sp l.r.sl _ HG.out.r.st.1 HG.out.r.st.2)
      clear hF
      obtain ⟨G3_1, hG⟩ : ∃ G, G3_0 ++ F3_1 = G := ⟨_, rfl⟩
      obtain ⟨a1, n1⟩ := add_two G3_0 F3_1 (by omega)
      rw [hG] at a1
      have hg3_1 : G3_1.length ≤ 11036 := by rw [← hG, List.length_append]; omega
      have HG3_1 : Hid (G3_0 ++ F3_1 = G3_1) := hG
      clear hG
      obtain ⟨F3_2, hF⟩ : ∃ F, stampForm l.r.ap l.r.al = F := ⟨_, rfl⟩
      have lf2 : F3_2.length ≤ 18 := by rw [← hF]; exact st_len HG.out.r.at_
      have HF3_2 : Hid (stampForm l.r.ap l.r.al = F3_2) := hF
      have cc2 : Hid (∀ d os, Calls Try.prog 22 #[.agg #[.int .u64 (l.r.ap : Int), .int .u32 (l.r.al : Int)]] (grow (redrawn wr d) os) fun r w'' => r = .returned (.string (bs F3_2)) ∧ ∃ p : Regrown, w'' = grow (redrawn wr p.d) p.os) := fun d os => by rw [← hF]; exact Calls.regrown_of (refStamp17 l.r.ap l.r.al _ HG.out.r.at_.1 HG.out.r.at_.2)
      clear hF
      obtain ⟨G3_2, hG⟩ : ∃ G, G3_1 ++ F3_2 = G := ⟨_, rfl⟩
      obtain ⟨a2, n2⟩ := add_two G3_1 F3_2 (by omega)
      rw [hG] at a2
      have hg3_2 : G3_2.length ≤ 11054 := by rw [← hG, List.length_append]; omega
      have HG3_2 : Hid (G3_1 ++ F3_2 = G3_2) := hG
      clear hG
      obtain ⟨F3_3, hF⟩ : ∃ F, textForm l.r.prim = F := ⟨_, rfl⟩
      have lf3 : F3_3.length ≤ 41 := by rw [← hF]; exact tx_len HO.out.1.prim (by decide)
      have HF3_3 : Hid (textForm l.r.prim = F3_3) := hF
      have cc3 : Hid (∀ d os, Calls Try.prog 23 #[.string (bs l.r.prim)] (grow (redrawn wr d) os) fun r w'' => r = .returned (.string (bs F3_3)) ∧ ∃ p : Regrown, w'' = grow (redrawn wr p.d) p.os) := fun d os => by rw [← hF]; exact Calls.regrown_of (refText13 l.r.prim _ (by have := HO.out.1.prim; omega))
      clear hF
      obtain ⟨G3_3, hG⟩ : ∃ G, G3_2 ++ F3_3 = G := ⟨_, rfl⟩
      obtain ⟨a3, n3⟩ := add_two G3_2 F3_3 (by omega)
      rw [hG] at a3
      have hg3_3 : G3_3.length ≤ 11095 := by rw [← hG, List.length_append]; omega
      have HG3_3 : Hid (G3_2 ++ F3_3 = G3_3) := hG
      clear hG
      obtain ⟨F3_4, hF⟩ : ∃ F, stampForm l.r.np l.r.nl = F := ⟨_, rfl⟩
      have lf4 : F3_4.length ≤ 18 := by rw [← hF]; exact st_len HG.out.r.nw
      have HF3_4 : Hid (stampForm l.r.np l.r.nl = F3_4) := hF
      have cc4 : Hid (∀ d os, Calls Try.prog 22 #[.agg #[.int .u64 (l.r.np : Int), .int .u32 (l.r.nl : Int)]] (grow (redrawn wr d) os) fun r w'' => r = .returned (.string (bs F3_4)) ∧ ∃ p : Regrown, w'' = grow (redrawn wr p.d) p.os) := fun d os => by rw [← hF]; exact Calls.regrown_of (refStamp17 l.r.np l.r.nl _ HG.out.r.nw.1 HG.out.r.nw.2)
      clear hF
      obtain ⟨G3_4, hG⟩ : ∃ G, G3_3 ++ F3_4 = G := ⟨_, rfl⟩
      obtain ⟨a4, n4⟩ := add_two G3_3 F3_4 (by omega)
      rw [hG] at a4
      have hg3_4 : G3_4.length ≤ 11113 := by rw [← hG, List.length_append]; omega
      have HG3_4 : Hid (G3_3 ++ F3_4 = G3_4) := hG
      clear hG
      have g5 := cell_regrown (show wr.cell? ⟨br, 5, none⟩ = some (.int .u32 (l.r.c : Int)) from block_cell HB.out.x rfl)
      have g6 := cell_regrown (show wr.cell? ⟨br, 6, none⟩ = some (.int .u32 (l.r.n : Int)) from block_cell HB.out.x rfl)
      have g7 := cell_regrown (show wr.cell? ⟨br, 7, none⟩ = some (.int .u64 (l.r.sp : Int)) from block_cell HB.out.x rfl)
      have g8 := cell_regrown (show wr.cell? ⟨br, 8, none⟩ = some (.int .u32 (l.r.sl : Int)) from block_cell HB.out.x rfl)
      have g9 := cell_regrown (show wr.cell? ⟨br, 9, none⟩ = some (.int .u64 (l.r.ap : Int)) from block_cell HB.out.x rfl)
      have g10 := cell_regrown (show wr.cell? ⟨br, 10, none⟩ = some (.int .u32 (l.r.al : Int)) from block_cell HB.out.x rfl)
      have g11 := cell_regrown (show wr.cell? ⟨br, 11, none⟩ = some (.string (bs l.r.prim)) from block_cell HB.out.x rfl)
      have g12 := cell_regrown (show wr.cell? ⟨br, 12, none⟩ = some (.int .u64 (l.r.np : Int)) from block_cell HB.out.x rfl)
      have g13 := cell_regrown (show wr.cell? ⟨br, 13, none⟩ = some (.int .u32 (l.r.nl : Int)) from block_cell HB.out.x rfl)
      refine wp_region_quiet_below (by kernel_rfl) (by kernel_rfl) (Veil.out ?_)
      repeat (refine vq_step (fun K hK => ?_); go_simp; refine hK _ ?_; clear hK K)
      (refine vq_step (fun K hK => ?_); go_simp; apply Exists.intro; refine ⟨fun _ => ?_, hK _ ?_⟩; exact cc0.out _ _; clear hK K)
      repeat (refine vq_step (fun K hK => ?_); go_simp; refine hK _ ?_; clear hK K)
      (refine vq_step (fun K hK => ?_); go_simp; apply Exists.intro; refine ⟨fun _ => ?_, hK _ ?_⟩; exact cc1.out _ _; clear hK K)
      repeat (refine vq_step (fun K hK => ?_); go_simp; refine hK _ ?_; clear hK K)
      (refine vq_step (fun K hK => ?_); go_simp; apply Exists.intro; refine ⟨fun _ => ?_, hK _ ?_⟩; exact cc2.out _ _; clear hK K)
      repeat (refine vq_step (fun K hK => ?_); go_simp; refine hK _ ?_; clear hK K)
      (refine vq_step (fun K hK => ?_); go_simp; apply Exists.intro; refine ⟨fun _ => ?_, hK _ ?_⟩; exact cc3.out _ _; clear hK K)
      repeat (refine vq_step (fun K hK => ?_); go_simp; refine hK _ ?_; clear hK K)
      (refine vq_step (fun K hK => ?_); go_simp; apply Exists.intro; refine ⟨fun _ => ?_, hK _ ?_⟩; exact cc4.out _ _; clear hK K)
      repeat (refine vq_step (fun K hK => ?_); go_simp; refine hK _ ?_; clear hK K)
      refine vq_nil ?_
      intro _ hw'
      obtain ⟨⟨dq, osq⟩, hw''⟩ := hw'
      subst hw''
      have B6 : Hid (Bx w br _ 35 (grow (redrawn wr dq) osq)) := HB.out.on (below_regrown _ _ _)
      clear cc0 lf0 cc1 lf1 cc2 lf2 cc3 lf3 cc4 lf4 a0 n0 a1 n1 a2 n2 a3 n3 a4 n4 g5 g6 g7 g8 g9 g10 g11 g12 g13 hg3_0 hg3_1 hg3_2 hg3_3
      go_wp2_with fail
      go_ret2
      refine ⟨?_, B6.out.bel⟩
      have hE : G3_4 = formL l := by
        rw [HFm.out, ← HG3_4.out, ← HG3_3.out, ← HG3_2.out, ← HG3_1.out, ← HG3_0.out, ← HGL.out, HM.out, List.take_length]
        rw [← HG1_4.out, ← HG1_3.out, ← HG1_2.out, ← HG1_1.out, ← HG1_0.out, ← HG0_3.out, ← HG0_2.out, ← HG0_1.out]
        rw [← HF3_4.out, ← HF3_3.out, ← HF3_2.out, ← HF3_1.out, ← HF3_0.out, ← HF1_4.out, ← HF1_3.out, ← HF1_2.out, ← HF1_1.out, ← HF1_0.out, ← HF0_3.out, ← HF0_2.out, ← HF0_1.out, ← HF0_0.out]
        rw [HK.out.1, HK.out.2]
        simp only [formR, liForm, List.append_assoc]
      rw [← hE]
      rfl
end Go.Proofs.Ytmldgfepnmencaa
