/-
  The document's Write: of a request.
-/
import Derived.Test.YtmldgfepnmencaaDw
import Derived.Laws.Rows
namespace Go.Proofs.Ytmldgfepnmencaa
open Go.RowKit Go.Sort

theorem take_snoc {α : Type} {g : α → List UInt8} {X : List α} {d : α} {m : Nat} (h : m < X.length) : (X.take (m + 1)).flatMap g = (X.take m).flatMap g ++ g (X.getD m d) := by
  rw [List.take_succ_eq_append_getElem h, List.flatMap_append, show X.getD m d = X[m] from by simp [List.getD, h]]
  simp
theorem take_len {α : Type} {g : α → List UInt8} {X : List α} {c m : Nat} (h : m ≤ X.length) (hx : ∀ x ∈ X, (g x).length ≤ c) : ((X.take m).flatMap g).length ≤ m * c := by
  have h1 := flat_len (g := g) (c := c) (l := X.take m) (fun x hxm => hx x (List.mem_of_mem_take hxm))
  rw [List.length_take, Nat.min_eq_left h] at h1
  exact h1
set_option maxHeartbeats 6400000 in
set_option maxRecDepth 100000 in
theorem write8q (l : Le) (kn ln rk re : Nat) (wa sa pa : Option Addr) (wc sc pc : Nat) (w : World) (ek : l.q.k = (kn : Int)) (el : l.q.lim = (ln : Int)) (er : l.r.k = (rk : Int)) (ee : l.r.er = (re : Int)) (hr : rightL l = true) (han : l.an = false) (rg : RgL l) (hl : LAt w.heap.size l (.slice wa l.q.ws.length wc) (.slice sa l.q.sk.length sc) (.slice pa l.r.ps.length pc) w) :
    Calls Try.prog 8 #[.agg #[.int .u32 (l.cl : Int), .int .u32 (l.sh : Int), .int .u32 (l.sq : Int), .bool l.an, .int .i64 (kn : Int), .int .u32 (l.q.c : Int), .int .u32 (l.q.n : Int), .int .u64 (l.q.sp : Int), .int .u32 (l.q.sl : Int), .int .u64 (l.q.ap : Int), .int .u32 (l.q.al : Int), .string (bs l.q.key), .string (bs l.q.to), .int .i64 (ln : Int), .int .u8 (l.q.pt : Int), .slice wa l.q.ws.length wc, .slice sa l.q.sk.length sc, .int .i64 (rk : Int), .int .i64 (re : Int), .bool l.r.fd, .string (bs l.r.val), .slice pa l.r.ps.length pc, .int .u32 (l.r.c : Int), .int .u32 (l.r.n : Int), .int .u64 (l.r.sp : Int), .int .u32 (l.r.sl : Int), .int .u64 (l.r.ap : Int), .int .u32 (l.r.al : Int), .string (bs l.r.prim), .int .u64 (l.r.np : Int), .int .u32 (l.r.nl : Int)]] w fun e w' => e = .returned (.tuple #[.string (bs (formL l)), .int .i64 0]) ∧ Below w.heap.size w w' := by
  have HL : Hid (LAt w.heap.size l (.slice wa l.q.ws.length wc) (.slice sa l.q.sk.length sc) (.slice pa l.r.ps.length pc) w) := hl
  have HG : Hid (RgL l) := rg
  have HO : Hid (OkQ l.q ∧ l.cl < 4 ∧ l.sh < 8) := by
    obtain ⟨h1, h2, h3⟩ := rightL_iff.1 hr
    rcases h3 with ⟨h, _, h4⟩ | ⟨h, _, h4⟩
    · rw [han] at h; cases h
    · exact ⟨h4, h1, h2⟩
  have CR : Hid (∀ W : World, Below w.heap.size w W → Calls Try.prog 18 #[.agg #[.int .u32 (l.cl : Int), .int .u32 (l.sh : Int), .int .u32 (l.sq : Int), .bool l.an, .int .i64 (kn : Int), .int .u32 (l.q.c : Int), .int .u32 (l.q.n : Int), .int .u64 (l.q.sp : Int), .int .u32 (l.q.sl : Int), .int .u64 (l.q.ap : Int), .int .u32 (l.q.al : Int), .string (bs l.q.key), .string (bs l.q.to), .int .i64 (ln : Int), .int .u8 (l.q.pt : Int), .slice wa l.q.ws.length wc, .slice sa l.q.sk.length sc, .int .i64 (rk : Int), .int .i64 (re : Int), .bool l.r.fd, .string (bs l.r.val), .slice pa l.r.ps.length pc, .int .u32 (l.r.c : Int), .int .u32 (l.r.n : Int), .int .u64 (l.r.sp : Int), .int .u32 (l.r.sl : Int), .int .u64 (l.r.ap : Int), .int .u32 (l.r.al : Int), .string (bs l.r.prim), .int .u64 (l.r.np : Int), .int .u32 (l.r.nl : Int)]] W fun e w' => e = .returned (.bool true) ∧ Below W.heap.size W w') := fun W hW => by
    have h := right18 l wa sa pa wc sc pc W (hl.up hW)
    rw [ek, el, er, ee, hr] at h
    exact h
  have HFm : Hid (formL l = numForm l.cl ++ (numForm l.sh ++ (numForm l.sq ++ (flagForm l.an ++ formQ l.q)))) := by show _ = _; unfold formL; rw [han]; rfl
  have HK : Hid (kn = l.q.k.toNat ∧ ln = l.q.lim.toNat) := ⟨by omega, by omega⟩
  have HAN : Hid (l.an = false) := han
  have hcl : l.cl < 4 := HO.out.2.1
  have hsh : l.sh < 8 := HO.out.2.2
  have hsq : l.sq < 4294967296 := rg.sq
  have hkn : kn ≤ 9 := by have := HO.out.1.k; omega
  have hln : ln ≤ 32 := by have := HO.out.1.lim; omega
  have hpt : l.q.pt < 256 := rg.q.pt
  clear hl rg hr han ek el er ee
  have H0 : Hid _ := bx_new w #[.int .u32 (l.cl : Int), .int .u32 (l.sh : Int), .int .u32 (l.sq : Int), .bool l.an, .int .i64 (kn : Int), .int .u32 (l.q.c : Int), .int .u32 (l.q.n : Int), .int .u64 (l.q.sp : Int), .int .u32 (l.q.sl : Int), .int .u64 (l.q.ap : Int), .int .u32 (l.q.al : Int), .string (bs l.q.key), .string (bs l.q.to), .int .i64 (ln : Int), .int .u8 (l.q.pt : Int), .slice wa l.q.ws.length wc, .slice sa l.q.sk.length sc, .int .i64 (rk : Int), .int .i64 (re : Int), .bool l.r.fd, .string (bs l.r.val), .slice pa l.r.ps.length pc, .int .u32 (l.r.c : Int), .int .u32 (l.r.n : Int), .int .u64 (l.r.sp : Int), .int .u32 (l.r.sl : Int), .int .u64 (l.r.ap : Int), .int .u32 (l.r.al : Int), .string (bs l.r.prim), .int .u64 (l.r.np : Int), .int .u32 (l.r.nl : Int)] 37
  obtain ⟨W1, hW1⟩ : ∃ W1, w.alloc (.cells #[.int .u32 (l.cl : Int), .int .u32 (l.sh : Int), .int .u32 (l.sq : Int), .bool l.an, .int .i64 (kn : Int), .int .u32 (l.q.c : Int), .int .u32 (l.q.n : Int), .int .u64 (l.q.sp : Int), .int .u32 (l.q.sl : Int), .int .u64 (l.q.ap : Int), .int .u32 (l.q.al : Int), .string (bs l.q.key), .string (bs l.q.to), .int .i64 (ln : Int), .int .u8 (l.q.pt : Int), .slice wa l.q.ws.length wc, .slice sa l.q.sk.length sc, .int .i64 (rk : Int), .int .i64 (re : Int), .bool l.r.fd, .string (bs l.r.val), .slice pa l.r.ps.length pc, .int .u32 (l.r.c : Int), .int .u32 (l.r.n : Int), .int .u64 (l.r.sp : Int), .int .u32 (l.r.sl : Int), .int .u64 (l.r.ap : Int), .int .u32 (l.r.al : Int), .string (bs l.r.prim), .int .u64 (l.r.np : Int), .int .u32 (l.r.nl : Int)] 37) = W1 := ⟨_, rfl⟩
  obtain ⟨b, hb⟩ : ∃ b, w.heap.size = b := ⟨_, rfl⟩
  have B1 : Hid (Bx w b #[.int .u32 (l.cl : Int), .int .u32 (l.sh : Int), .int .u32 (l.sq : Int), .bool l.an, .int .i64 (kn : Int), .int .u32 (l.q.c : Int), .int .u32 (l.q.n : Int), .int .u64 (l.q.sp : Int), .int .u32 (l.q.sl : Int), .int .u64 (l.q.ap : Int), .int .u32 (l.q.al : Int), .string (bs l.q.key), .string (bs l.q.to), .int .i64 (ln : Int), .int .u8 (l.q.pt : Int), .slice wa l.q.ws.length wc, .slice sa l.q.sk.length sc, .int .i64 (rk : Int), .int .i64 (re : Int), .bool l.r.fd, .string (bs l.r.val), .slice pa l.r.ps.length pc, .int .u32 (l.r.c : Int), .int .u32 (l.r.n : Int), .int .u64 (l.r.sp : Int), .int .u32 (l.r.sl : Int), .int .u64 (l.r.ap : Int), .int .u32 (l.r.al : Int), .string (bs l.r.prim), .int .u64 (l.r.np : Int), .int .u32 (l.r.nl : Int)] 37 W1) := by rw [← hb, ← hW1]; exact H0.out
  clear H0
  go_enter Try.func8, Try.ntmps8
  go_wp2_with (refine wpList_load_row rfl 37 _ rfl b rfl 37 _ (0, 0) _ B1.out.x Try.underlying37 rfl (by kernel_rfl) ?_)
  refine (CR.out _ B1.out.bel).mono ?_
  rintro e w2 ⟨rfl, hb2⟩
  have B2 : Hid (Bx w b #[.int .u32 (l.cl : Int), .int .u32 (l.sh : Int), .int .u32 (l.sq : Int), .bool l.an, .int .i64 (kn : Int), .int .u32 (l.q.c : Int), .int .u32 (l.q.n : Int), .int .u64 (l.q.sp : Int), .int .u32 (l.q.sl : Int), .int .u64 (l.q.ap : Int), .int .u32 (l.q.al : Int), .string (bs l.q.key), .string (bs l.q.to), .int .i64 (ln : Int), .int .u8 (l.q.pt : Int), .slice wa l.q.ws.length wc, .slice sa l.q.sk.length sc, .int .i64 (rk : Int), .int .i64 (re : Int), .bool l.r.fd, .string (bs l.r.val), .slice pa l.r.ps.length pc, .int .u32 (l.r.c : Int), .int .u32 (l.r.n : Int), .int .u64 (l.r.sp : Int), .int .u32 (l.r.sl : Int), .int .u64 (l.r.ap : Int), .int .u32 (l.r.al : Int), .string (bs l.r.prim), .int .u64 (l.r.np : Int), .int .u32 (l.r.nl : Int)] 37 w2) := B1.out.on hb2
  clear hb2 hW1 hb B1 CR
  go_upto_region 3 with fail
  obtain ⟨F0_0, hF⟩ : ∃ F, numForm l.cl = F := ⟨_, rfl⟩
  have lf0 : F0_0.length ≤ 9 := by rw [← hF]; exact nf_len (by omega)
  have HF0_0 : Hid (numForm l.cl = F0_0) := hF
  have cc0 : Hid (∀ d os, Calls Try.prog 19 #[.int .u64 (l.cl : Int)] (grow (redrawn w2 d) os) fun r w'' => r = .returned (.string (bs F0_0)) ∧ ∃ p : Regrown, w'' = grow (redrawn w2 p.d) p.os) := fun d os => by rw [← hF]; exact Calls.regrown_of (num19 l.cl _ (by omega))
  clear hF
  obtain ⟨F0_1, hF⟩ : ∃ F, numForm l.sh = F := ⟨_, rfl⟩
  have lf1 : F0_1.length ≤ 9 := by rw [← hF]; exact nf_len (by omega)
  have HF0_1 : Hid (numForm l.sh = F0_1) := hF
  have cc1 : Hid (∀ d os, Calls Try.prog 19 #[.int .u64 (l.sh : Int)] (grow (redrawn w2 d) os) fun r w'' => r = .returned (.string (bs F0_1)) ∧ ∃ p : Regrown, w'' = grow (redrawn w2 p.d) p.os) := fun d os => by rw [← hF]; exact Calls.regrown_of (num19 l.sh _ (by omega))
  clear hF
  obtain ⟨G0_1, hG⟩ : ∃ G, F0_0 ++ F0_1 = G := ⟨_, rfl⟩
  obtain ⟨a1, n1⟩ := add_two F0_0 F0_1 (by omega)
  rw [hG] at a1
  have hg0_1 : G0_1.length ≤ 18 := by rw [← hG, List.length_append]; omega
  have HG0_1 : Hid (F0_0 ++ F0_1 = G0_1) := hG
  clear hG
  obtain ⟨F0_2, hF⟩ : ∃ F, numForm l.sq = F := ⟨_, rfl⟩
  have lf2 : F0_2.length ≤ 9 := by rw [← hF]; exact nf_len (by omega)
  have HF0_2 : Hid (numForm l.sq = F0_2) := hF
  have cc2 : Hid (∀ d os, Calls Try.prog 19 #[.int .u64 (l.sq : Int)] (grow (redrawn w2 d) os) fun r w'' => r = .returned (.string (bs F0_2)) ∧ ∃ p : Regrown, w'' = grow (redrawn w2 p.d) p.os) := fun d os => by rw [← hF]; exact Calls.regrown_of (num19 l.sq _ (by omega))
  clear hF
  obtain ⟨G0_2, hG⟩ : ∃ G, G0_1 ++ F0_2 = G := ⟨_, rfl⟩
  obtain ⟨a2, n2⟩ := add_two G0_1 F0_2 (by omega)
  rw [hG] at a2
  have hg0_2 : G0_2.length ≤ 27 := by rw [← hG, List.length_append]; omega
  have HG0_2 : Hid (G0_1 ++ F0_2 = G0_2) := hG
  clear hG
  obtain ⟨F0_3, hF⟩ : ∃ F, flagForm l.an = F := ⟨_, rfl⟩
  have lf3 : F0_3.length ≤ 1 := by rw [← hF]; exact Nat.le_of_eq (fl_len l.an)
  have HF0_3 : Hid (flagForm l.an = F0_3) := hF
  have cc3 : Hid (∀ d os, Calls Try.prog 20 #[.bool l.an] (grow (redrawn w2 d) os) fun r w'' => r = .returned (.string (bs F0_3)) ∧ ∃ p : Regrown, w'' = grow (redrawn w2 p.d) p.os) := fun d os => by rw [← hF]; exact Calls.regrown_of (flag20 l.an _)
  clear hF
  obtain ⟨G0_3, hG⟩ : ∃ G, G0_2 ++ F0_3 = G := ⟨_, rfl⟩
  obtain ⟨a3, n3⟩ := add_two G0_2 F0_3 (by omega)
  rw [hG] at a3
  have hg0_3 : G0_3.length ≤ 28 := by rw [← hG, List.length_append]; omega
  have HG0_3 : Hid (G0_2 ++ F0_3 = G0_3) := hG
  clear hG
  have v0 := wrap64 l.cl (by omega)
  have v1 := wrap64 l.sh (by omega)
  have v2 := wrap64 l.sq (by omega)
  have g0 := cell_regrown (show w2.cell? ⟨b, 0, none⟩ = some (.int .u32 (l.cl : Int)) from block_cell B2.out.x rfl)
  have g1 := cell_regrown (show w2.cell? ⟨b, 1, none⟩ = some (.int .u32 (l.sh : Int)) from block_cell B2.out.x rfl)
  have g2 := cell_regrown (show w2.cell? ⟨b, 2, none⟩ = some (.int .u32 (l.sq : Int)) from block_cell B2.out.x rfl)
  have g3 := cell_regrown (show w2.cell? ⟨b, 3, none⟩ = some (.bool l.an) from block_cell B2.out.x rfl)
  refine wp_region_quiet_below (by kernel_rfl) (by kernel_rfl) (Veil.out ?_)
  repeat (refine vq_step (fun K hK => ?_); go_simp; refine hK _ ?_; clear hK K)
  (refine vq_step (fun K hK => ?_); go_simp; apply Exists.intro; refine ⟨fun _ => ?_, hK _ ?_⟩; exact cc0.out _ _; clear hK K)
  repeat (refine vq_step (fun K hK => ?_); go_simp; refine hK _ ?_; clear hK K)
  (refine vq_step (fun K hK => ?_); go_simp; apply Exists.intro; refine ⟨fun _ => ?_, hK _ ?_⟩; exact cc1.out _ _; clear hK K)
  repeat (refine vq_step (fun K hK => ?_); go_simp; refine hK _ ?_; clear hK K)
  (refine vq_step (fun K hK => ?_); go_simp; apply Exists.intro; refine ⟨fun _ => ?_, hK _ ?_⟩; exact cc2.out _ _; clear hK K)
  repeat (refine vq_step (fun K hK => ?_); go_simp; refine hK _ ?_; clear hK K)
  (refine vq_step (fun K hK => ?_); go_simp; apply Exists.intro; refine ⟨fun _ => ?_, hK _ ?_⟩; exact cc3.out _ _; clear hK K)
  repeat (refine vq_step (fun K hK => ?_); go_simp; refine hK _ ?_; clear hK K)
  refine vq_nil ?_
  intro _ hw'
  obtain ⟨⟨dq, osq⟩, hw''⟩ := hw'
  subst hw''
  obtain ⟨W3, hW3⟩ : ∃ W3, grow (redrawn w2 dq) osq = W3 := ⟨_, rfl⟩
  have B3 : Hid (Bx w b #[.int .u32 (l.cl : Int), .int .u32 (l.sh : Int), .int .u32 (l.sq : Int), .bool l.an, .int .i64 (kn : Int), .int .u32 (l.q.c : Int), .int .u32 (l.q.n : Int), .int .u64 (l.q.sp : Int), .int .u32 (l.q.sl : Int), .int .u64 (l.q.ap : Int), .int .u32 (l.q.al : Int), .string (bs l.q.key), .string (bs l.q.to), .int .i64 (ln : Int), .int .u8 (l.q.pt : Int), .slice wa l.q.ws.length wc, .slice sa l.q.sk.length sc, .int .i64 (rk : Int), .int .i64 (re : Int), .bool l.r.fd, .string (bs l.r.val), .slice pa l.r.ps.length pc, .int .u32 (l.r.c : Int), .int .u32 (l.r.n : Int), .int .u64 (l.r.sp : Int), .int .u32 (l.r.sl : Int), .int .u64 (l.r.ap : Int), .int .u32 (l.r.al : Int), .string (bs l.r.prim), .int .u64 (l.r.np : Int), .int .u32 (l.r.nl : Int)] 37 W3) := by rw [← hW3]; exact B2.out.on (below_regrown _ _ _)
  rw [hW3]
  clear cc0 lf0 cc1 lf1 cc2 lf2 cc3 lf3 v0 v1 v2 a1 n1 a2 n2 a3 n3 g0 g1 g2 g3 hg0_1 hg0_2 hW3 B2
  have p3 : W3.cell? ⟨b, 3, none⟩ = some (.bool false) := by rw [← HAN.out]; exact block_cell B3.out.x rfl
  have p4 : W3.cell? ⟨b, 4, none⟩ = some (.int .i64 (kn : Int)) := block_cell B3.out.x rfl
  have p5 : W3.cell? ⟨b, 5, none⟩ = some (.int .u32 (l.q.c : Int)) := block_cell B3.out.x rfl
  have p6 : W3.cell? ⟨b, 6, none⟩ = some (.int .u32 (l.q.n : Int)) := block_cell B3.out.x rfl
  have p7 : W3.cell? ⟨b, 7, none⟩ = some (.int .u64 (l.q.sp : Int)) := block_cell B3.out.x rfl
  have p8 : W3.cell? ⟨b, 8, none⟩ = some (.int .u32 (l.q.sl : Int)) := block_cell B3.out.x rfl
  have p9 : W3.cell? ⟨b, 9, none⟩ = some (.int .u64 (l.q.ap : Int)) := block_cell B3.out.x rfl
  have p10 : W3.cell? ⟨b, 10, none⟩ = some (.int .u32 (l.q.al : Int)) := block_cell B3.out.x rfl
  have p11 : W3.cell? ⟨b, 11, none⟩ = some (.string (bs l.q.key)) := block_cell B3.out.x rfl
  have p12 : W3.cell? ⟨b, 12, none⟩ = some (.string (bs l.q.to)) := block_cell B3.out.x rfl
  have p13 : W3.cell? ⟨b, 13, none⟩ = some (.int .i64 (ln : Int)) := block_cell B3.out.x rfl
  have p14 : W3.cell? ⟨b, 14, none⟩ = some (.int .u8 (l.q.pt : Int)) := block_cell B3.out.x rfl
  have p15 : W3.cell? ⟨b, 15, none⟩ = some (.slice wa l.q.ws.length wc) := block_cell B3.out.x rfl
  have p16 : W3.cell? ⟨b, 16, none⟩ = some (.slice sa l.q.sk.length sc) := block_cell B3.out.x rfl
  go_upto_region 6 with fail
  obtain ⟨W4, hW4⟩ : ∃ W4, W3.alloc (.cells #[.int .i64 (kn : Int), .int .u32 (l.q.c : Int), .int .u32 (l.q.n : Int), .int .u64 (l.q.sp : Int), .int .u32 (l.q.sl : Int), .int .u64 (l.q.ap : Int), .int .u32 (l.q.al : Int), .string (bs l.q.key), .string (bs l.q.to), .int .i64 (ln : Int), .int .u8 (l.q.pt : Int), .slice wa l.q.ws.length wc, .slice sa l.q.sk.length sc] 31) = W4 := ⟨_, rfl⟩
  obtain ⟨bq, hbn⟩ : ∃ b, W3.heap.size = b := ⟨_, rfl⟩
  have B4 : Hid (Bx w bq #[.int .i64 (kn : Int), .int .u32 (l.q.c : Int), .int .u32 (l.q.n : Int), .int .u64 (l.q.sp : Int), .int .u32 (l.q.sl : Int), .int .u64 (l.q.ap : Int), .int .u32 (l.q.al : Int), .string (bs l.q.key), .string (bs l.q.to), .int .i64 (ln : Int), .int .u8 (l.q.pt : Int), .slice wa l.q.ws.length wc, .slice sa l.q.sk.length sc] 31 W4) := by
    rw [← hbn, ← hW4]
    exact ⟨B3.out.bel.trans ((al _).mono B3.out.bel.size), heap_alloc_new W3 _⟩
  rw [hW4, hbn]
  clear hW4 hbn B3 p3 p4 p5 p6 p7 p8 p9 p10 p11 p12 p13 p14 p15 p16
  have hwl : l.q.ws.length ≤ 16 := HO.out.1.wl
  have hsl : l.q.sk.length ≤ 16 := HO.out.1.sk
  obtain ⟨F1_0, hF⟩ : ∃ F, numForm kn = F := ⟨_, rfl⟩
  have lf0 : F1_0.length ≤ 9 := by rw [← hF]; exact nf_len (by omega)
  have HF1_0 : Hid (numForm kn = F1_0) := hF
  have cc0 : Hid (∀ d os, Calls Try.prog 19 #[.int .u64 (kn : Int)] (grow (redrawn W4 d) os) fun r w'' => r = .returned (.string (bs F1_0)) ∧ ∃ p : Regrown, w'' = grow (redrawn W4 p.d) p.os) := fun d os => by rw [← hF]; exact Calls.regrown_of (num19 kn _ (by omega))
  clear hF
  obtain ⟨G1_0, hG⟩ : ∃ G, G0_3 ++ F1_0 = G := ⟨_, rfl⟩
  obtain ⟨a0, n0⟩ := add_two G0_3 F1_0 (by omega)
  rw [hG] at a0
  have hg1_0 : G1_0.length ≤ 37 := by rw [← hG, List.length_append]; omega
  have HG1_0 : Hid (G0_3 ++ F1_0 = G1_0) := hG
  clear hG
  obtain ⟨F1_1, hF⟩ : ∃ F, tnForm ⟨l.q.c, l.q.n⟩ = F := ⟨_, rfl⟩
  have lf1 : F1_1.length ≤ 18 := by rw [← hF]; exact tn_len (t := ⟨l.q.c, l.q.n⟩) HG.out.q.c
  have HF1_1 : Hid (tnForm ⟨l.q.c, l.q.n⟩ = F1_1) := hF
  have cc1 : Hid (∀ d os, Calls Try.prog 21 #[.agg #[.int .u32 (l.q.c : Int), .int .u32 (l.q.n : Int)]] (grow (redrawn W4 d) os) fun r w'' => r = .returned (.string (bs F1_1)) ∧ ∃ p : Regrown, w'' = grow (redrawn W4 p.d) p.os) := fun d os => by rw [← hF]; exact Calls.regrown_of (txn21 ⟨l.q.c, l.q.n⟩ _ HG.out.q.c)
  clear hF
  obtain ⟨G1_1, hG⟩ : ∃ G, G1_0 ++ F1_1 = G := ⟨_, rfl⟩
  obtain ⟨a1, n1⟩ := add_two G1_0 F1_1 (by omega)
  rw [hG] at a1
  have hg1_1 : G1_1.length ≤ 55 := by rw [← hG, List.length_append]; omega
  have HG1_1 : Hid (G1_0 ++ F1_1 = G1_1) := hG
  clear hG
  obtain ⟨F1_2, hF⟩ : ∃ F, stampForm l.q.sp l.q.sl = F := ⟨_, rfl⟩
  have lf2 : F1_2.length ≤ 18 := by rw [← hF]; exact st_len HG.out.q.st
  have HF1_2 : Hid (stampForm l.q.sp l.q.sl = F1_2) := hF
  have cc2 : Hid (∀ d os, Calls Try.prog 22 #[.agg #[.int .u64 (l.q.sp : Int), .int .u32 (l.q.sl : Int)]] (grow (redrawn W4 d) os) fun r w'' => r = .returned (.string (bs F1_2)) ∧ ∃ p : Regrown, w'' = grow (redrawn W4 p.d) p.os) := fun d os => by rw [← hF]; exact Calls.regrown_of (refStamp17 l.q.sp l.q.sl _ HG.out.q.st.1 HG.out.q.st.2)
  clear hF
  obtain ⟨G1_2, hG⟩ : ∃ G, G1_1 ++ F1_2 = G := ⟨_, rfl⟩
  obtain ⟨a2, n2⟩ := add_two G1_1 F1_2 (by omega)
  rw [hG] at a2
  have hg1_2 : G1_2.length ≤ 73 := by rw [← hG, List.length_append]; omega
  have HG1_2 : Hid (G1_1 ++ F1_2 = G1_2) := hG
  clear hG
  obtain ⟨F1_3, hF⟩ : ∃ F, stampForm l.q.ap l.q.al = F := ⟨_, rfl⟩
  have lf3 : F1_3.length ≤ 18 := by rw [← hF]; exact st_len HG.out.q.at_
  have HF1_3 : Hid (stampForm l.q.ap l.q.al = F1_3) := hF
  have cc3 : Hid (∀ d os, Calls Try.prog 22 #[.agg #[.int .u64 (l.q.ap : Int), .int .u32 (l.q.al : Int)]] (grow (redrawn W4 d) os) fun r w'' => r = .returned (.string (bs F1_3)) ∧ ∃ p : Regrown, w'' = grow (redrawn W4 p.d) p.os) := fun d os => by rw [← hF]; exact Calls.regrown_of (refStamp17 l.q.ap l.q.al _ HG.out.q.at_.1 HG.out.q.at_.2)
  clear hF
  obtain ⟨G1_3, hG⟩ : ∃ G, G1_2 ++ F1_3 = G := ⟨_, rfl⟩
  obtain ⟨a3, n3⟩ := add_two G1_2 F1_3 (by omega)
  rw [hG] at a3
  have hg1_3 : G1_3.length ≤ 91 := by rw [← hG, List.length_append]; omega
  have HG1_3 : Hid (G1_2 ++ F1_3 = G1_3) := hG
  clear hG
  obtain ⟨F1_4, hF⟩ : ∃ F, textForm l.q.key = F := ⟨_, rfl⟩
  have lf4 : F1_4.length ≤ 41 := by rw [← hF]; exact tx_len HO.out.1.key (by decide)
  have HF1_4 : Hid (textForm l.q.key = F1_4) := hF
  have cc4 : Hid (∀ d os, Calls Try.prog 23 #[.string (bs l.q.key)] (grow (redrawn W4 d) os) fun r w'' => r = .returned (.string (bs F1_4)) ∧ ∃ p : Regrown, w'' = grow (redrawn W4 p.d) p.os) := fun d os => by rw [← hF]; exact Calls.regrown_of (refText13 l.q.key _ (by have := HO.out.1.key; omega))
  clear hF
  obtain ⟨G1_4, hG⟩ : ∃ G, G1_3 ++ F1_4 = G := ⟨_, rfl⟩
  obtain ⟨a4, n4⟩ := add_two G1_3 F1_4 (by omega)
  rw [hG] at a4
  have hg1_4 : G1_4.length ≤ 132 := by rw [← hG, List.length_append]; omega
  have HG1_4 : Hid (G1_3 ++ F1_4 = G1_4) := hG
  clear hG
  obtain ⟨F1_5, hF⟩ : ∃ F, textForm l.q.to = F := ⟨_, rfl⟩
  have lf5 : F1_5.length ≤ 41 := by rw [← hF]; exact tx_len HO.out.1.to (by decide)
  have HF1_5 : Hid (textForm l.q.to = F1_5) := hF
  have cc5 : Hid (∀ d os, Calls Try.prog 23 #[.string (bs l.q.to)] (grow (redrawn W4 d) os) fun r w'' => r = .returned (.string (bs F1_5)) ∧ ∃ p : Regrown, w'' = grow (redrawn W4 p.d) p.os) := fun d os => by rw [← hF]; exact Calls.regrown_of (refText13 l.q.to _ (by have := HO.out.1.to; omega))
  clear hF
  obtain ⟨G1_5, hG⟩ : ∃ G, G1_4 ++ F1_5 = G := ⟨_, rfl⟩
  obtain ⟨a5, n5⟩ := add_two G1_4 F1_5 (by omega)
  rw [hG] at a5
  have hg1_5 : G1_5.length ≤ 173 := by rw [← hG, List.length_append]; omega
  have HG1_5 : Hid (G1_4 ++ F1_5 = G1_5) := hG
  clear hG
  obtain ⟨F1_6, hF⟩ : ∃ F, numForm ln = F := ⟨_, rfl⟩
  have lf6 : F1_6.length ≤ 9 := by rw [← hF]; exact nf_len (by omega)
  have HF1_6 : Hid (numForm ln = F1_6) := hF
  have cc6 : Hid (∀ d os, Calls Try.prog 19 #[.int .u64 (ln : Int)] (grow (redrawn W4 d) os) fun r w'' => r = .returned (.string (bs F1_6)) ∧ ∃ p : Regrown, w'' = grow (redrawn W4 p.d) p.os) := fun d os => by rw [← hF]; exact Calls.regrown_of (num19 ln _ (by omega))
  clear hF
  obtain ⟨G1_6, hG⟩ : ∃ G, G1_5 ++ F1_6 = G := ⟨_, rfl⟩
  obtain ⟨a6, n6⟩ := add_two G1_5 F1_6 (by omega)
  rw [hG] at a6
  have hg1_6 : G1_6.length ≤ 182 := by rw [← hG, List.length_append]; omega
  have HG1_6 : Hid (G1_5 ++ F1_6 = G1_6) := hG
  clear hG
  obtain ⟨F1_7, hF⟩ : ∃ F, numForm l.q.pt = F := ⟨_, rfl⟩
  have lf7 : F1_7.length ≤ 9 := by rw [← hF]; exact nf_len (by omega)
  have HF1_7 : Hid (numForm l.q.pt = F1_7) := hF
  have cc7 : Hid (∀ d os, Calls Try.prog 19 #[.int .u64 (l.q.pt : Int)] (grow (redrawn W4 d) os) fun r w'' => r = .returned (.string (bs F1_7)) ∧ ∃ p : Regrown, w'' = grow (redrawn W4 p.d) p.os) := fun d os => by rw [← hF]; exact Calls.regrown_of (num19 l.q.pt _ (by omega))
  clear hF
  obtain ⟨G1_7, hG⟩ : ∃ G, G1_6 ++ F1_7 = G := ⟨_, rfl⟩
  obtain ⟨a7, n7⟩ := add_two G1_6 F1_7 (by omega)
  rw [hG] at a7
  have hg1_7 : G1_7.length ≤ 191 := by rw [← hG, List.length_append]; omega
  have HG1_7 : Hid (G1_6 ++ F1_7 = G1_7) := hG
  clear hG
  obtain ⟨F1_8, hF⟩ : ∃ F, numForm l.q.ws.length = F := ⟨_, rfl⟩
  have lf8 : F1_8.length ≤ 9 := by rw [← hF]; exact nf_len (by omega)
  have HF1_8 : Hid (numForm l.q.ws.length = F1_8) := hF
  have cc8 : Hid (∀ d os, Calls Try.prog 19 #[.int .u64 (l.q.ws.length : Int)] (grow (redrawn W4 d) os) fun r w'' => r = .returned (.string (bs F1_8)) ∧ ∃ p : Regrown, w'' = grow (redrawn W4 p.d) p.os) := fun d os => by rw [← hF]; exact Calls.regrown_of (num19 l.q.ws.length _ (by omega))
  clear hF
  obtain ⟨G1_8, hG⟩ : ∃ G, G1_7 ++ F1_8 = G := ⟨_, rfl⟩
  obtain ⟨a8, n8⟩ := add_two G1_7 F1_8 (by omega)
  rw [hG] at a8
  have hg1_8 : G1_8.length ≤ 200 := by rw [← hG, List.length_append]; omega
  have HG1_8 : Hid (G1_7 ++ F1_8 = G1_8) := hG
  clear hG
  have v0 := wrap64 kn (by omega)
  have v6 := wrap64 ln (by omega)
  have v7 := wrap64 l.q.pt (by omega)
  have v8 := wrap64 l.q.ws.length (by omega)
  have g0 := cell_regrown (show W4.cell? ⟨bq, 0, none⟩ = some (.int .i64 (kn : Int)) from block_cell B4.out.x rfl)
  have g1 := cell_regrown (show W4.cell? ⟨bq, 1, none⟩ = some (.int .u32 (l.q.c : Int)) from block_cell B4.out.x rfl)
  have g2 := cell_regrown (show W4.cell? ⟨bq, 2, none⟩ = some (.int .u32 (l.q.n : Int)) from block_cell B4.out.x rfl)
  have g3 := cell_regrown (show W4.cell? ⟨bq, 3, none⟩ = some (.int .u64 (l.q.sp : Int)) from block_cell B4.out.x rfl)
  have g4 := cell_regrown (show W4.cell? ⟨bq, 4, none⟩ = some (.int .u32 (l.q.sl : Int)) from block_cell B4.out.x rfl)
  have g5 := cell_regrown (show W4.cell? ⟨bq, 5, none⟩ = some (.int .u64 (l.q.ap : Int)) from block_cell B4.out.x rfl)
  have g6 := cell_regrown (show W4.cell? ⟨bq, 6, none⟩ = some (.int .u32 (l.q.al : Int)) from block_cell B4.out.x rfl)
  have g7 := cell_regrown (show W4.cell? ⟨bq, 7, none⟩ = some (.string (bs l.q.key)) from block_cell B4.out.x rfl)
  have g8 := cell_regrown (show W4.cell? ⟨bq, 8, none⟩ = some (.string (bs l.q.to)) from block_cell B4.out.x rfl)
  have g9 := cell_regrown (show W4.cell? ⟨bq, 9, none⟩ = some (.int .i64 (ln : Int)) from block_cell B4.out.x rfl)
  have g10 := cell_regrown (show W4.cell? ⟨bq, 10, none⟩ = some (.int .u8 (l.q.pt : Int)) from block_cell B4.out.x rfl)
  have g11 := cell_regrown (show W4.cell? ⟨bq, 11, none⟩ = some (.slice wa l.q.ws.length wc) from block_cell B4.out.x rfl)
  refine wp_region_quiet_below (by kernel_rfl) (by kernel_rfl) (Veil.out ?_)
  repeat (refine vq_step (fun K hK => ?_); go_simp; refine hK _ ?_; clear hK K)
  (refine vq_step (fun K hK => ?_); go_simp; apply Exists.intro; refine ⟨fun _ => ?_, hK _ ?_⟩; exact cc0.out _ _; clear hK K)
  repeat (refine vq_step (fun K hK => ?_); go_simp; refine hK _ ?_; clear hK K)
  (refine vq_step (fun K hK => ?_); go_simp; apply Exists.intro; refine ⟨fun _ => ?_, hK _ ?_⟩; exact cc1.out _ _; clear hK K)
  repeat (refine vq_step (fun K hK => ?_); go_simp; refine hK _ ?_; clear hK K)
  (refine vq_step (fun K hK => ?_); go_simp; apply Exists.intro; refine ⟨fun _ => ?_, hK _ ?_⟩; exact cc2.out _ _; clear hK K)
  repeat (refine vq_step (fun K hK => ?_); go_simp; refine hK _ ?_; clear hK K)
  (refine vq_step (fun K hK => ?_); go_simp; apply Exists.intro; refine ⟨fun _ => ?_, hK _ ?_⟩; exact cc3.out _ _; clear hK K)
  repeat (refine vq_step (fun K hK => ?_); go_simp; refine hK _ ?_; clear hK K)
  (refine vq_step (fun K hK => ?_); go_simp; apply Exists.intro; refine ⟨fun _ => ?_, hK _ ?_⟩; exact cc4.out _ _; clear hK K)
  repeat (refine vq_step (fun K hK => ?_); go_simp; refine hK _ ?_; clear hK K)
  (refine vq_step (fun K hK => ?_); go_simp; apply Exists.intro; refine ⟨fun _ => ?_, hK _ ?_⟩; exact cc5.out _ _; clear hK K)
  repeat (refine vq_step (fun K hK => ?_); go_simp; refine hK _ ?_; clear hK K)
  (refine vq_step (fun K hK => ?_); go_simp; apply Exists.intro; refine ⟨fun _ => ?_, hK _ ?_⟩; exact cc6.out _ _; clear hK K)
  repeat (refine vq_step (fun K hK => ?_); go_simp; refine hK _ ?_; clear hK K)
  (refine vq_step (fun K hK => ?_); go_simp; apply Exists.intro; refine ⟨fun _ => ?_, hK _ ?_⟩; exact cc7.out _ _; clear hK K)
  repeat (refine vq_step (fun K hK => ?_); go_simp; refine hK _ ?_; clear hK K)
  (refine vq_step (fun K hK => ?_); go_simp; apply Exists.intro; refine ⟨fun _ => ?_, hK _ ?_⟩; exact cc8.out _ _; clear hK K)
  repeat (refine vq_step (fun K hK => ?_); go_simp; refine hK _ ?_; clear hK K)
  refine vq_nil ?_
  intro _ hw'
  obtain ⟨⟨dq, osq⟩, hw''⟩ := hw'
  subst hw''
  obtain ⟨W5, hWn⟩ : ∃ W, grow (redrawn W4 dq) osq = W := ⟨_, rfl⟩
  have B5 : Hid (Bx w bq #[.int .i64 (kn : Int), .int .u32 (l.q.c : Int), .int .u32 (l.q.n : Int), .int .u64 (l.q.sp : Int), .int .u32 (l.q.sl : Int), .int .u64 (l.q.ap : Int), .int .u32 (l.q.al : Int), .string (bs l.q.key), .string (bs l.q.to), .int .i64 (ln : Int), .int .u8 (l.q.pt : Int), .slice wa l.q.ws.length wc, .slice sa l.q.sk.length sc] 31 W5) := by rw [← hWn]; exact B4.out.on (below_regrown _ _ _)
  rw [hWn]
  clear cc0 lf0 cc1 lf1 cc2 lf2 cc3 lf3 cc4 lf4 cc5 lf5 cc6 lf6 cc7 lf7 cc8 lf8 v0 v6 v7 v8 a0 n0 a1 n1 a2 n2 a3 n3 a4 n4 a5 n5 a6 n6 a7 n7 a8 n8 g0 g1 g2 g3 g4 g5 g6 g7 g8 g9 g10 g11 hg1_0 hg1_1 hg1_2 hg1_3 hg1_4 hg1_5 hg1_6 hg1_7 hWn B4
  have HE : Hid (∀ W, Below w.heap.size w W → ∀ i, i < l.q.ws.length → ∃ b off, wa = some ⟨b, off, none⟩ ∧ WtAt W b (off + i * 3) (l.q.ws.getD i dw)) := fun W hW i hi => (HL.out.q.ws.on hW).el hi
  have HE2 : Hid (∀ W, Below w.heap.size w W → ∀ i, i < l.q.sk.length → ∃ b off, sa = some ⟨b, off, none⟩ ∧ TtAt W b (off + i * 2) (l.q.sk.getD i dt)) := fun W hW i hi => (HL.out.q.sk.on hW).el hi
  have HX : Hid (∀ i, i < l.q.ws.length → (l.q.ws.getD i dw).key.length ≤ 32 ∧ (l.q.ws.getD i dw).val.length ≤ 256) := fun i hi => HO.out.1.ws _ (getD_memWr hi)
  have HX2 : Hid (∀ i, i < l.q.sk.length → (l.q.sk.getD i dt).c < 4294967296 ∧ (l.q.sk.getD i dt).n < 4294967296) := fun i hi => HG.out.q.sk _ (getD_memTn hi)
  have HT : Hid (∀ m, m < l.q.ws.length → (l.q.ws.take (m + 1)).flatMap wrForm = (l.q.ws.take m).flatMap wrForm ++ wrForm (l.q.ws.getD m dw)) := fun m h => take_snoc h
  have HT2 : Hid (∀ m, m < l.q.sk.length → (l.q.sk.take (m + 1)).flatMap tnForm = (l.q.sk.take m).flatMap tnForm ++ tnForm (l.q.sk.getD m dt)) := fun m h => take_snoc h
  have HLn : Hid (∀ m, m ≤ l.q.ws.length → ((l.q.ws.take m).flatMap wrForm).length ≤ m * 307) := fun m h => take_len h (fun x hx => wr_len (HO.out.1.ws x hx))
  have HLn2 : Hid (∀ m, m ≤ l.q.sk.length → ((l.q.sk.take m).flatMap tnForm).length ≤ m * 18) := fun m h => take_len h (fun x hx => tn_len (HG.out.q.sk x hx))
  have p11 : W5.cell? ⟨bq, 11, none⟩ = some (.slice wa l.q.ws.length wc) := block_cell B5.out.x rfl
  go_wp2_with fail
  clear p11
  go_loopw [4, 6] (fun s i wr => ∃ m : Nat, m ≤ l.q.ws.length ∧ s = .string (bs (G1_8 ++ (l.q.ws.take m).flatMap wrForm)) ∧ i = .int .i64 m ∧ Bx w bq #[.int .i64 (kn : Int), .int .u32 (l.q.c : Int), .int .u32 (l.q.n : Int), .int .u64 (l.q.sp : Int), .int .u32 (l.q.sl : Int), .int .u64 (l.q.ap : Int), .int .u32 (l.q.al : Int), .string (bs l.q.key), .string (bs l.q.to), .int .i64 (ln : Int), .int .u8 (l.q.pt : Int), .slice wa l.q.ws.length wc, .slice sa l.q.sk.length sc] 31 wr) (fun _ i _ => l.q.ws.length - (intOf i).toNat)
  case atStart => exact ⟨0, Nat.zero_le _, by rw [List.take_zero, List.flatMap_nil, List.append_nil], rfl, B5.out⟩
  case round =>
    obtain ⟨m, hm, rfl, rfl, hB⟩ := hrel
    have HB : Hid (Bx w bq #[.int .i64 (kn : Int), .int .u32 (l.q.c : Int), .int .u32 (l.q.n : Int), .int .u64 (l.q.sp : Int), .int .u32 (l.q.sl : Int), .int .u64 (l.q.ap : Int), .int .u32 (l.q.al : Int), .string (bs l.q.key), .string (bs l.q.to), .int .i64 (ln : Int), .int .u8 (l.q.pt : Int), .slice wa l.q.ws.length wc, .slice sa l.q.sk.length sc] 31 wr) := hB
    clear hB B5
    have p11 : wr.cell? ⟨bq, 11, none⟩ = some (.slice wa l.q.ws.length wc) := block_cell HB.out.x rfl
    by_cases hml : m < l.q.ws.length
    · obtain ⟨c1, o1, rfl, d0, d1, d2⟩ := HE.out wr HB.out.bel m hml
      have hml1 : (m : Int) < l.q.ws.length := by omega
      have HQ : Hid (m + 1 ≤ l.q.ws.length) := hml
      have HTm : Hid _ := HT.out m hml
      have HXm : Hid _ := HX.out m hml
      have hLm := HLn.out m hm
      generalize l.q.ws.getD m dw = x at *
      obtain ⟨GL, hGL⟩ : ∃ L, G1_8 ++ (l.q.ws.take m).flatMap wrForm = L := ⟨_, rfl⟩
      rw [hGL]
      have HGL : Hid (G1_8 ++ (l.q.ws.take m).flatMap wrForm = GL) := hGL
      have hGl : GL.length ≤ 6000 := by rw [← hGL, List.length_append]; omega
      clear hGL hLm
      go_upto_region 10 with fail
      obtain ⟨F2_0, hF⟩ : ∃ F, textForm x.key = F := ⟨_, rfl⟩
      have lf0 : F2_0.length ≤ 41 := by rw [← hF]; exact tx_len HXm.out.1 (by decide)
      have HF2_0 : Hid (textForm x.key = F2_0) := hF
      have cc0 : Hid (∀ d os, Calls Try.prog 23 #[.string (bs x.key)] (grow (redrawn wr d) os) fun r w'' => r = .returned (.string (bs F2_0)) ∧ ∃ p : Regrown, w'' = grow (redrawn wr p.d) p.os) := fun d os => by rw [← hF]; exact Calls.regrown_of (refText13 x.key _ (by have := HXm.out.1; omega))
      clear hF
      obtain ⟨G2_0, hG⟩ : ∃ G, GL ++ F2_0 = G := ⟨_, rfl⟩
      obtain ⟨a0, n0⟩ := add_two GL F2_0 (by omega)
      rw [hG] at a0
      have hg2_0 : G2_0.length ≤ 6041 := by rw [← hG, List.length_append]; omega
      have HG2_0 : Hid (GL ++ F2_0 = G2_0) := hG
      clear hG
      obtain ⟨F2_1, hF⟩ : ∃ F, flagForm x.dead = F := ⟨_, rfl⟩
      have lf1 : F2_1.length ≤ 1 := by rw [← hF]; exact Nat.le_of_eq (fl_len x.dead)
      have HF2_1 : Hid (flagForm x.dead = F2_1) := hF
      have cc1 : Hid (∀ d os, Calls Try.prog 20 #[.bool x.dead] (grow (redrawn wr d) os) fun r w'' => r = .returned (.string (bs F2_1)) ∧ ∃ p : Regrown, w'' = grow (redrawn wr p.d) p.os) := fun d os => by rw [← hF]; exact Calls.regrown_of (flag20 x.dead _)
      clear hF
      obtain ⟨G2_1, hG⟩ : ∃ G, G2_0 ++ F2_1 = G := ⟨_, rfl⟩
      obtain ⟨a1, n1⟩ := add_two G2_0 F2_1 (by omega)
      rw [hG] at a1
      have hg2_1 : G2_1.length ≤ 6042 := by rw [← hG, List.length_append]; omega
      have HG2_1 : Hid (G2_0 ++ F2_1 = G2_1) := hG
      clear hG
      obtain ⟨F2_2, hF⟩ : ∃ F, textForm x.val = F := ⟨_, rfl⟩
      have lf2 : F2_2.length ≤ 265 := by rw [← hF]; exact tx_len HXm.out.2 (by decide)
      have HF2_2 : Hid (textForm x.val = F2_2) := hF
      have cc2 : Hid (∀ d os, Calls Try.prog 23 #[.string (bs x.val)] (grow (redrawn wr d) os) fun r w'' => r = .returned (.string (bs F2_2)) ∧ ∃ p : Regrown, w'' = grow (redrawn wr p.d) p.os) := fun d os => by rw [← hF]; exact Calls.regrown_of (refText13 x.val _ (by have := HXm.out.2; omega))
      clear hF
      obtain ⟨G2_2, hG⟩ : ∃ G, G2_1 ++ F2_2 = G := ⟨_, rfl⟩
      obtain ⟨a2, n2⟩ := add_two G2_1 F2_2 (by omega)
      rw [hG] at a2
      have hg2_2 : G2_2.length ≤ 6307 := by rw [← hG, List.length_append]; omega
      have HG2_2 : Hid (G2_1 ++ F2_2 = G2_2) := hG
      clear hG
      have g11 := cell_regrown (show wr.cell? ⟨bq, 11, none⟩ = some (.slice (some ⟨c1, o1, none⟩) l.q.ws.length wc) from p11)
      have k0 := cell_regrown (show wr.cell? ⟨c1, o1 + m * 3, none⟩ = some (.string (bs x.key)) from d0)
      have k1 := cell_regrown (show wr.cell? ⟨c1, o1 + m * 3 + 1, none⟩ = some (.string (bs x.val)) from d1)
      have k2 := cell_regrown (show wr.cell? ⟨c1, o1 + m * 3 + 2, none⟩ = some (.bool x.dead) from d2)
      refine wp_region_quiet_below (by kernel_rfl) (by kernel_rfl) (Veil.out ?_)
      repeat (refine vq_step (fun K hK => ?_); go_simp; refine hK _ ?_; clear hK K)
      (refine vq_step (fun K hK => ?_); go_simp; apply Exists.intro; refine ⟨fun _ => ?_, hK _ ?_⟩; exact cc0.out _ _; clear hK K)
      repeat (refine vq_step (fun K hK => ?_); go_simp; refine hK _ ?_; clear hK K)
      (refine vq_step (fun K hK => ?_); go_simp; apply Exists.intro; refine ⟨fun _ => ?_, hK _ ?_⟩; exact cc1.out _ _; clear hK K)
      repeat (refine vq_step (fun K hK => ?_); go_simp; refine hK _ ?_; clear hK K)
      (refine vq_step (fun K hK => ?_); go_simp; apply Exists.intro; refine ⟨fun _ => ?_, hK _ ?_⟩; exact cc2.out _ _; clear hK K)
      repeat (refine vq_step (fun K hK => ?_); go_simp; refine hK _ ?_; clear hK K)
      refine vq_nil ?_
      intro _ hw'
      obtain ⟨⟨dq, osq⟩, hw''⟩ := hw'
      subst hw''
      have B6 : Hid (Bx w bq _ 31 (grow (redrawn wr dq) osq)) := HB.out.on (below_regrown _ _ _)
      clear cc0 lf0 cc1 lf1 cc2 lf2 a0 n0 a1 n1 a2 n2 g11 k0 k1 k2 hg2_0 hg2_1 p11 d0 d1 d2
      go_wp2_with fail
      go_roundw
      case rel => exact ⟨m + 1, HQ.out, by rw [HTm.out, ← List.append_assoc, HGL.out, wrForm, HF2_0.out, HF2_1.out, HF2_2.out, ← List.append_assoc, ← List.append_assoc, HG2_0.out, HG2_1.out, HG2_2.out], by go_num, B6.out⟩
      case measure => simp [intOf]; omega
    · have hml1 : ¬ (m : Int) < l.q.ws.length := by omega
      have HM : Hid (m = l.q.ws.length) := by show _ = _; omega
      have hLm := HLn.out m hm
      obtain ⟨GL, hGL⟩ : ∃ L, G1_8 ++ (l.q.ws.take m).flatMap wrForm = L := ⟨_, rfl⟩
      rw [hGL]
      have HGL : Hid (G1_8 ++ (l.q.ws.take m).flatMap wrForm = GL) := hGL
      have hGl : GL.length ≤ 6000 := by rw [← hGL, List.length_append]; omega
      obtain ⟨a1, n1⟩ := add_two GL (numForm l.q.sk.length) (by have := nf_len (n := l.q.sk.length) (by omega); omega)
      have p12 : wr.cell? ⟨bq, 12, none⟩ = some (.slice sa l.q.sk.length sc) := block_cell HB.out.x rfl
      clear hGL hLm hm hml
      go_wp2_with fail
      refine (num19 l.q.sk.length _ (by omega)).mono ?_
      rintro e w7 ⟨rfl, hb7⟩
      have B7 : Hid (Bx w bq #[.int .i64 (kn : Int), .int .u32 (l.q.c : Int), .int .u32 (l.q.n : Int), .int .u64 (l.q.sp : Int), .int .u32 (l.q.sl : Int), .int .u64 (l.q.ap : Int), .int .u32 (l.q.al : Int), .string (bs l.q.key), .string (bs l.q.to), .int .i64 (ln : Int), .int .u8 (l.q.pt : Int), .slice wa l.q.ws.length wc, .slice sa l.q.sk.length sc] 31 w7) := HB.out.on hb7
      clear hb7 HB p11 p12
      obtain ⟨GK, hGK⟩ : ∃ L, GL ++ numForm l.q.sk.length = L := ⟨_, rfl⟩
      rw [hGK] at a1
      have HGK : Hid (GL ++ numForm l.q.sk.length = GK) := hGK
      have hGk : GK.length ≤ 6009 := by have := nf_len (n := l.q.sk.length) (by omega); rw [← hGK, List.length_append]; omega
      clear hGK
      have p12 : w7.cell? ⟨bq, 12, none⟩ = some (.slice sa l.q.sk.length sc) := block_cell B7.out.x rfl
      go_wp2_with fail
      clear p12 a1 n1 hGl
      go_loopw [4, 7] (fun s i wr => ∃ m : Nat, m ≤ l.q.sk.length ∧ s = .string (bs (GK ++ (l.q.sk.take m).flatMap tnForm)) ∧ i = .int .i64 m ∧ Bx w bq #[.int .i64 (kn : Int), .int .u32 (l.q.c : Int), .int .u32 (l.q.n : Int), .int .u64 (l.q.sp : Int), .int .u32 (l.q.sl : Int), .int .u64 (l.q.ap : Int), .int .u32 (l.q.al : Int), .string (bs l.q.key), .string (bs l.q.to), .int .i64 (ln : Int), .int .u8 (l.q.pt : Int), .slice wa l.q.ws.length wc, .slice sa l.q.sk.length sc] 31 wr) (fun _ i _ => l.q.sk.length - (intOf i).toNat)
      case atStart => exact ⟨0, Nat.zero_le _, by rw [List.take_zero, List.flatMap_nil, List.append_nil], rfl, B7.out⟩
      case round =>
        obtain ⟨m2, hm, rfl, rfl, hB⟩ := hrel
        have HB : Hid (Bx w bq #[.int .i64 (kn : Int), .int .u32 (l.q.c : Int), .int .u32 (l.q.n : Int), .int .u64 (l.q.sp : Int), .int .u32 (l.q.sl : Int), .int .u64 (l.q.ap : Int), .int .u32 (l.q.al : Int), .string (bs l.q.key), .string (bs l.q.to), .int .i64 (ln : Int), .int .u8 (l.q.pt : Int), .slice wa l.q.ws.length wc, .slice sa l.q.sk.length sc] 31 wr) := hB
        clear hB B7
        have p12 : wr.cell? ⟨bq, 12, none⟩ = some (.slice sa l.q.sk.length sc) := block_cell HB.out.x rfl
        by_cases hml : m2 < l.q.sk.length
        · obtain ⟨c1, o1, rfl, d0, d1⟩ := HE2.out wr HB.out.bel m2 hml
          have hml1 : (m2 : Int) < l.q.sk.length := by omega
          have HQ : Hid (m2 + 1 ≤ l.q.sk.length) := hml
          have HTm : Hid _ := HT2.out m2 hml
          have HXm : Hid _ := HX2.out m2 hml
          have hLm := HLn2.out m2 hm
          generalize l.q.sk.getD m2 dt = x at *
          obtain ⟨GM, hGM⟩ : ∃ L, GK ++ (l.q.sk.take m2).flatMap tnForm = L := ⟨_, rfl⟩
          rw [hGM]
          have HGM : Hid (GK ++ (l.q.sk.take m2).flatMap tnForm = GM) := hGM
          have hGm : GM.length ≤ 7000 := by rw [← hGM, List.length_append]; omega
          have hxl := tn_len HXm.out
          obtain ⟨a1, n1⟩ := add_two GM (tnForm x) (by omega)
          clear hGM hLm hxl
          go_wp2_with fail
          refine (txn21 x _ HXm.out).mono ?_
          rintro e w8 ⟨rfl, hb8⟩
          have B8 : Hid (Bx w bq _ 31 w8) := HB.out.on hb8
          clear hb8 HB p12 d0 d1
          go_wp2_with fail
          go_roundw
          case rel => exact ⟨m2 + 1, HQ.out, by rw [HTm.out, ← List.append_assoc, HGM.out], by go_num, B8.out⟩
          case measure => simp [intOf]; omega
        · have hml1 : ¬ (m2 : Int) < l.q.sk.length := by omega
          have HM2 : Hid (m2 = l.q.sk.length) := by show _ = _; omega
          clear hm hml
          go_wp2_with fail
          go_ret2
          refine ⟨?_, HB.out.bel⟩
          have hE : GK ++ (l.q.sk.take m2).flatMap tnForm = formL l := by
            rw [HFm.out, HM2.out, List.take_length, ← HGK.out, ← HGL.out, HM.out, List.take_length]
            rw [← HG1_8.out, ← HG1_7.out, ← HG1_6.out, ← HG1_5.out, ← HG1_4.out, ← HG1_3.out, ← HG1_2.out, ← HG1_1.out, ← HG1_0.out, ← HG0_3.out, ← HG0_2.out, ← HG0_1.out]
            rw [← HF1_8.out, ← HF1_7.out, ← HF1_6.out, ← HF1_5.out, ← HF1_4.out, ← HF1_3.out, ← HF1_2.out, ← HF1_1.out, ← HF1_0.out, ← HF0_3.out, ← HF0_2.out, ← HF0_1.out, ← HF0_0.out]
            rw [HK.out.1, HK.out.2]
            simp only [formQ, liForm, List.append_assoc]
          rw [← hE]
          rfl
end Go.Proofs.Ytmldgfepnmencaa
