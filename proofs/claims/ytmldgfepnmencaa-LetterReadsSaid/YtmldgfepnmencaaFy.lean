/-
  The program's Write.
-/
import Derived.Test.YtmldgfepnmencaaFx
import Derived.Laws.Rows
import Derived.Laws.Tables
namespace Go.Proofs.Ytmldgfepnmencaa
open Go.RowKit Go.Sort

set_option maxHeartbeats 6400000 in
set_option maxRecDepth 100000 in
theorem write7 (l : Le) (wa sa pa : Option Addr) (wc sc pc : Nat) (w : World) (rg : RgL l) (hl : LAt w.heap.size l (.slice wa l.q.ws.length wc) (.slice sa l.q.sk.length sc) (.slice pa l.r.ps.length pc) w) :
    Calls Try.prog 7 #[.agg #[.int .u32 (l.cl : Int), .int .u32 (l.sh : Int), .int .u32 (l.sq : Int), .bool l.an, .int .i64 l.q.k, .int .u32 (l.q.c : Int), .int .u32 (l.q.n : Int), .int .u64 (l.q.sp : Int), .int .u32 (l.q.sl : Int), .int .u64 (l.q.ap : Int), .int .u32 (l.q.al : Int), .string (bs l.q.key), .string (bs l.q.to), .int .i64 l.q.lim, .int .u8 (l.q.pt : Int), .slice wa l.q.ws.length wc, .slice sa l.q.sk.length sc, .int .i64 l.r.k, .int .i64 l.r.er, .bool l.r.fd, .string (bs l.r.val), .slice pa l.r.ps.length pc, .int .u32 (l.r.c : Int), .int .u32 (l.r.n : Int), .int .u64 (l.r.sp : Int), .int .u32 (l.r.sl : Int), .int .u64 (l.r.ap : Int), .int .u32 (l.r.al : Int), .string (bs l.r.prim), .int .u64 (l.r.np : Int), .int .u32 (l.r.nl : Int)]] w fun e w' => e = .returned (.tuple #[.string (bs (writeL l).1), .int .i64 (writeL l).2]) ∧ Below w.heap.size w w' := by
  have HL : Hid (LAt w.heap.size l (.slice wa l.q.ws.length wc) (.slice sa l.q.sk.length sc) (.slice pa l.r.ps.length pc) w) := hl
  have HG : Hid (RgL l) := rg
  clear hl rg
  have H0 : Hid _ := bx_new w #[.int .u32 (l.cl : Int), .int .u32 (l.sh : Int), .int .u32 (l.sq : Int), .bool l.an, .int .i64 l.q.k, .int .u32 (l.q.c : Int), .int .u32 (l.q.n : Int), .int .u64 (l.q.sp : Int), .int .u32 (l.q.sl : Int), .int .u64 (l.q.ap : Int), .int .u32 (l.q.al : Int), .string (bs l.q.key), .string (bs l.q.to), .int .i64 l.q.lim, .int .u8 (l.q.pt : Int), .slice wa l.q.ws.length wc, .slice sa l.q.sk.length sc, .int .i64 l.r.k, .int .i64 l.r.er, .bool l.r.fd, .string (bs l.r.val), .slice pa l.r.ps.length pc, .int .u32 (l.r.c : Int), .int .u32 (l.r.n : Int), .int .u64 (l.r.sp : Int), .int .u32 (l.r.sl : Int), .int .u64 (l.r.ap : Int), .int .u32 (l.r.al : Int), .string (bs l.r.prim), .int .u64 (l.r.np : Int), .int .u32 (l.r.nl : Int)] 37
  obtain ⟨W1, hW1⟩ : ∃ W1, w.alloc (.cells #[.int .u32 (l.cl : Int), .int .u32 (l.sh : Int), .int .u32 (l.sq : Int), .bool l.an, .int .i64 l.q.k, .int .u32 (l.q.c : Int), .int .u32 (l.q.n : Int), .int .u64 (l.q.sp : Int), .int .u32 (l.q.sl : Int), .int .u64 (l.q.ap : Int), .int .u32 (l.q.al : Int), .string (bs l.q.key), .string (bs l.q.to), .int .i64 l.q.lim, .int .u8 (l.q.pt : Int), .slice wa l.q.ws.length wc, .slice sa l.q.sk.length sc, .int .i64 l.r.k, .int .i64 l.r.er, .bool l.r.fd, .string (bs l.r.val), .slice pa l.r.ps.length pc, .int .u32 (l.r.c : Int), .int .u32 (l.r.n : Int), .int .u64 (l.r.sp : Int), .int .u32 (l.r.sl : Int), .int .u64 (l.r.ap : Int), .int .u32 (l.r.al : Int), .string (bs l.r.prim), .int .u64 (l.r.np : Int), .int .u32 (l.r.nl : Int)] 37) = W1 := ⟨_, rfl⟩
  obtain ⟨b, hb⟩ : ∃ b, w.heap.size = b := ⟨_, rfl⟩
  have B1 : Hid (Bx w b #[.int .u32 (l.cl : Int), .int .u32 (l.sh : Int), .int .u32 (l.sq : Int), .bool l.an, .int .i64 l.q.k, .int .u32 (l.q.c : Int), .int .u32 (l.q.n : Int), .int .u64 (l.q.sp : Int), .int .u32 (l.q.sl : Int), .int .u64 (l.q.ap : Int), .int .u32 (l.q.al : Int), .string (bs l.q.key), .string (bs l.q.to), .int .i64 l.q.lim, .int .u8 (l.q.pt : Int), .slice wa l.q.ws.length wc, .slice sa l.q.sk.length sc, .int .i64 l.r.k, .int .i64 l.r.er, .bool l.r.fd, .string (bs l.r.val), .slice pa l.r.ps.length pc, .int .u32 (l.r.c : Int), .int .u32 (l.r.n : Int), .int .u64 (l.r.sp : Int), .int .u32 (l.r.sl : Int), .int .u64 (l.r.ap : Int), .int .u32 (l.r.al : Int), .string (bs l.r.prim), .int .u64 (l.r.np : Int), .int .u32 (l.r.nl : Int)] 37 W1) := by rw [← hb, ← hW1]; exact H0.out
  clear H0
  go_enter Try.func7, Try.ntmps7
  go_wp2_with (refine wpList_load_row rfl 37 _ rfl b rfl 37 _ (0, 0) _ B1.out.x Try.underlying37 rfl (by kernel_rfl) ?_)
  refine (right9 l wa sa pa wc sc pc _ (HL.out.up B1.out.bel)).mono ?_
  rintro e w2 ⟨rfl, hb2⟩
  have B2 : Hid (Bx w b #[.int .u32 (l.cl : Int), .int .u32 (l.sh : Int), .int .u32 (l.sq : Int), .bool l.an, .int .i64 l.q.k, .int .u32 (l.q.c : Int), .int .u32 (l.q.n : Int), .int .u64 (l.q.sp : Int), .int .u32 (l.q.sl : Int), .int .u64 (l.q.ap : Int), .int .u32 (l.q.al : Int), .string (bs l.q.key), .string (bs l.q.to), .int .i64 l.q.lim, .int .u8 (l.q.pt : Int), .slice wa l.q.ws.length wc, .slice sa l.q.sk.length sc, .int .i64 l.r.k, .int .i64 l.r.er, .bool l.r.fd, .string (bs l.r.val), .slice pa l.r.ps.length pc, .int .u32 (l.r.c : Int), .int .u32 (l.r.n : Int), .int .u64 (l.r.sp : Int), .int .u32 (l.r.sl : Int), .int .u64 (l.r.ap : Int), .int .u32 (l.r.al : Int), .string (bs l.r.prim), .int .u64 (l.r.np : Int), .int .u32 (l.r.nl : Int)] 37 w2) := B1.out.on hb2
  clear hb2 hW1 hb B1
  as_aux_lemma =>
    obtain ⟨z, hz⟩ : ∃ z, rightL l = z := ⟨_, rfl⟩
    rw [hz]
    have HZ : Hid (rightL l = z) := hz
    clear hz
    cases z
    · go_wp2_with fail
      go_ret2
      refine ⟨?_, B2.out.bel⟩
      unfold writeL
      rw [HZ.out]
      rfl
    have HF : Hid (l.cl < 4 ∧ l.sh < 8 ∧ (l.an = true ∧ l.q = zQ ∧ OkR l.r ∨ l.an = false ∧ l.r = zR ∧ OkQ l.q)) := rightL_iff.1 HZ.out
    have HWr : Hid (writeL l = (formL l, 0)) := by show _ = _; unfold writeL; rw [HZ.out]; rfl
    have X0 : Hid _ := pz_two B2.out
    obtain ⟨W3, hW3⟩ : ∃ W3, w2.alloc (.cells #[.slice none 0 0] 52) = W3 := ⟨_, rfl⟩
    obtain ⟨pb, hpb⟩ : ∃ pb, w2.heap.size = pb := ⟨_, rfl⟩
    have P0 : Hid (Pz W3 pb b #[.int .u32 (l.cl : Int), .int .u32 (l.sh : Int), .int .u32 (l.sq : Int), .bool l.an, .int .i64 l.q.k, .int .u32 (l.q.c : Int), .int .u32 (l.q.n : Int), .int .u64 (l.q.sp : Int), .int .u32 (l.q.sl : Int), .int .u64 (l.q.ap : Int), .int .u32 (l.q.al : Int), .string (bs l.q.key), .string (bs l.q.to), .int .i64 l.q.lim, .int .u8 (l.q.pt : Int), .slice wa l.q.ws.length wc, .slice sa l.q.sk.length sc, .int .i64 l.r.k, .int .i64 l.r.er, .bool l.r.fd, .string (bs l.r.val), .slice pa l.r.ps.length pc, .int .u32 (l.r.c : Int), .int .u32 (l.r.n : Int), .int .u64 (l.r.sp : Int), .int .u32 (l.r.sl : Int), .int .u64 (l.r.ap : Int), .int .u32 (l.r.al : Int), .string (bs l.r.prim), .int .u64 (l.r.np : Int), .int .u32 (l.r.nl : Int)] 37 [] W3) := by rw [← hpb, ← hW3]; exact X0.out
    have HA : Hid (LAt pb l (.slice wa l.q.ws.length wc) (.slice sa l.q.sk.length sc) (.slice pa l.r.ps.length pc) W3) := by
      rw [← hpb, ← hW3]
      exact (HL.out.up B2.out.bel).on (al _)
    have HBl : Hid (Below w.heap.size w W3 ∧ w.heap.size ≤ pb) := by
      rw [← hpb, ← hW3]
      exact ⟨B2.out.bel.alloc B2.out.bel.size _, B2.out.bel.size⟩
    clear X0 B2 HL HZ
    as_aux_lemma =>
      have hcl : l.cl < 4 := HF.out.1
      have hsh : l.sh < 8 := HF.out.2.1
      have hsq : l.sq < 4294967296 := HG.out.sq
      have p0 : W3.cell? ⟨b, 0, none⟩ = some (.int .u32 (l.cl : Int)) := block_cell P0.out.x rfl
      go_wp2_with fail
      refine (num10 pb [] l.cl _ (by omega) P0.out.wr (by simp)).mono ?_
      rintro e w4 ⟨rfl, hw, hk⟩
      clear hW3 hpb
      obtain ⟨L1, hL1⟩ : ∃ L, [] ++ numForm l.cl = L := ⟨_, rfl⟩
      rw [hL1] at hw
      have HL1 : Hid ([] ++ numForm l.cl = L1) := hL1
      have hl1 : L1.length ≤ 9 := by
        have h0 := congrArg List.length hL1
        rw [List.length_append] at h0
        have := nf_len (n := l.cl) (by omega)
        simp only [List.length_nil] at h0
        omega
      have P1 : Hid (Pz W3 pb b #[.int .u32 (l.cl : Int), .int .u32 (l.sh : Int), .int .u32 (l.sq : Int), .bool l.an, .int .i64 l.q.k, .int .u32 (l.q.c : Int), .int .u32 (l.q.n : Int), .int .u64 (l.q.sp : Int), .int .u32 (l.q.sl : Int), .int .u64 (l.q.ap : Int), .int .u32 (l.q.al : Int), .string (bs l.q.key), .string (bs l.q.to), .int .i64 l.q.lim, .int .u8 (l.q.pt : Int), .slice wa l.q.ws.length wc, .slice sa l.q.sk.length sc, .int .i64 l.r.k, .int .i64 l.r.er, .bool l.r.fd, .string (bs l.r.val), .slice pa l.r.ps.length pc, .int .u32 (l.r.c : Int), .int .u32 (l.r.n : Int), .int .u64 (l.r.sp : Int), .int .u32 (l.r.sl : Int), .int .u64 (l.r.ap : Int), .int .u32 (l.r.al : Int), .string (bs l.r.prim), .int .u64 (l.r.np : Int), .int .u32 (l.r.nl : Int)] 37 L1 w4) := P0.out.go (by decide) hw hk
      clear hw hk hL1 p0 P0
      have p1 : w4.cell? ⟨b, 1, none⟩ = some (.int .u32 (l.sh : Int)) := block_cell P1.out.x rfl
      go_wp2_with fail
      refine (num10 pb L1 l.sh _ (by omega) P1.out.wr (by omega)).mono ?_
      rintro e w5 ⟨rfl, hw, hk⟩
      as_aux_lemma =>
        obtain ⟨L2, hL2⟩ : ∃ L, L1 ++ numForm l.sh = L := ⟨_, rfl⟩
        rw [hL2] at hw
        have HL2 : Hid (L1 ++ numForm l.sh = L2) := hL2
        have hl2 : L2.length ≤ 18 := by
          have h0 := congrArg List.length hL2
          rw [List.length_append] at h0
          have := nf_len (n := l.sh) (by omega)
          skip
          omega
        have P2 : Hid (Pz W3 pb b #[.int .u32 (l.cl : Int), .int .u32 (l.sh : Int), .int .u32 (l.sq : Int), .bool l.an, .int .i64 l.q.k, .int .u32 (l.q.c : Int), .int .u32 (l.q.n : Int), .int .u64 (l.q.sp : Int), .int .u32 (l.q.sl : Int), .int .u64 (l.q.ap : Int), .int .u32 (l.q.al : Int), .string (bs l.q.key), .string (bs l.q.to), .int .i64 l.q.lim, .int .u8 (l.q.pt : Int), .slice wa l.q.ws.length wc, .slice sa l.q.sk.length sc, .int .i64 l.r.k, .int .i64 l.r.er, .bool l.r.fd, .string (bs l.r.val), .slice pa l.r.ps.length pc, .int .u32 (l.r.c : Int), .int .u32 (l.r.n : Int), .int .u64 (l.r.sp : Int), .int .u32 (l.r.sl : Int), .int .u64 (l.r.ap : Int), .int .u32 (l.r.al : Int), .string (bs l.r.prim), .int .u64 (l.r.np : Int), .int .u32 (l.r.nl : Int)] 37 L2 w5) := P1.out.go (by decide) hw hk
        clear hw hk hL2 p1 P1
        have p2 : w5.cell? ⟨b, 2, none⟩ = some (.int .u32 (l.sq : Int)) := block_cell P2.out.x rfl
        go_wp2_with fail
        refine (num10 pb L2 l.sq _ (by omega) P2.out.wr (by omega)).mono ?_
        rintro e w6 ⟨rfl, hw, hk⟩
        obtain ⟨L3, hL3⟩ : ∃ L, L2 ++ numForm l.sq = L := ⟨_, rfl⟩
        rw [hL3] at hw
        have HL3 : Hid (L2 ++ numForm l.sq = L3) := hL3
        have hl3 : L3.length ≤ 27 := by
          have h0 := congrArg List.length hL3
          rw [List.length_append] at h0
          have := nf_len (n := l.sq) (by omega)
          skip
          omega
        have P3 : Hid (Pz W3 pb b #[.int .u32 (l.cl : Int), .int .u32 (l.sh : Int), .int .u32 (l.sq : Int), .bool l.an, .int .i64 l.q.k, .int .u32 (l.q.c : Int), .int .u32 (l.q.n : Int), .int .u64 (l.q.sp : Int), .int .u32 (l.q.sl : Int), .int .u64 (l.q.ap : Int), .int .u32 (l.q.al : Int), .string (bs l.q.key), .string (bs l.q.to), .int .i64 l.q.lim, .int .u8 (l.q.pt : Int), .slice wa l.q.ws.length wc, .slice sa l.q.sk.length sc, .int .i64 l.r.k, .int .i64 l.r.er, .bool l.r.fd, .string (bs l.r.val), .slice pa l.r.ps.length pc, .int .u32 (l.r.c : Int), .int .u32 (l.r.n : Int), .int .u64 (l.r.sp : Int), .int .u32 (l.r.sl : Int), .int .u64 (l.r.ap : Int), .int .u32 (l.r.al : Int), .string (bs l.r.prim), .int .u64 (l.r.np : Int), .int .u32 (l.r.nl : Int)] 37 L3 w6) := P2.out.go (by decide) hw hk
        clear hw hk hL3 p2 P2
        have p3 : w6.cell? ⟨b, 3, none⟩ = some (.bool l.an) := block_cell P3.out.x rfl
        go_wp2_with fail
        refine (flag14 pb L3 l.an _ P3.out.wr (by omega)).mono ?_
        rintro e w7 ⟨rfl, hw, hk⟩
        obtain ⟨L4, hL4⟩ : ∃ L, L3 ++ flagForm l.an = L := ⟨_, rfl⟩
        rw [hL4] at hw
        have HL4 : Hid (L3 ++ flagForm l.an = L4) := hL4
        have hl4 : L4.length ≤ 28 := by
          have h0 := congrArg List.length hL4
          rw [List.length_append] at h0
          have := fl_len l.an
          skip
          omega
        have P4 : Hid (Pz W3 pb b #[.int .u32 (l.cl : Int), .int .u32 (l.sh : Int), .int .u32 (l.sq : Int), .bool l.an, .int .i64 l.q.k, .int .u32 (l.q.c : Int), .int .u32 (l.q.n : Int), .int .u64 (l.q.sp : Int), .int .u32 (l.q.sl : Int), .int .u64 (l.q.ap : Int), .int .u32 (l.q.al : Int), .string (bs l.q.key), .string (bs l.q.to), .int .i64 l.q.lim, .int .u8 (l.q.pt : Int), .slice wa l.q.ws.length wc, .slice sa l.q.sk.length sc, .int .i64 l.r.k, .int .i64 l.r.er, .bool l.r.fd, .string (bs l.r.val), .slice pa l.r.ps.length pc, .int .u32 (l.r.c : Int), .int .u32 (l.r.n : Int), .int .u64 (l.r.sp : Int), .int .u32 (l.r.sl : Int), .int .u64 (l.r.ap : Int), .int .u32 (l.r.al : Int), .string (bs l.r.prim), .int .u64 (l.r.np : Int), .int .u32 (l.r.nl : Int)] 37 L4 w7) := P3.out.go (by decide) hw hk
        clear hw hk hL4 p3 P3
        obtain ⟨an, han⟩ : ∃ an, l.an = an := ⟨_, rfl⟩
        have p3 : w7.cell? ⟨b, 3, none⟩ = some (.bool an) := by rw [← han]; exact block_cell P4.out.x rfl
        have HAN : Hid (l.an = an) := han
        clear han
        as_aux_lemma =>
          cases an
          · have HO : Hid (OkQ l.q) := by
              rcases HF.out.2.2 with ⟨h, _⟩ | ⟨_, _, h⟩
              · rw [HAN.out] at h; cases h
              · exact h
            have p4 : w7.cell? ⟨b, 4, none⟩ = some (.int .i64 l.q.k) := block_cell P4.out.x rfl
            have p5 : w7.cell? ⟨b, 5, none⟩ = some (.int .u32 (l.q.c : Int)) := block_cell P4.out.x rfl
            have p6 : w7.cell? ⟨b, 6, none⟩ = some (.int .u32 (l.q.n : Int)) := block_cell P4.out.x rfl
            have p7 : w7.cell? ⟨b, 7, none⟩ = some (.int .u64 (l.q.sp : Int)) := block_cell P4.out.x rfl
            have p8 : w7.cell? ⟨b, 8, none⟩ = some (.int .u32 (l.q.sl : Int)) := block_cell P4.out.x rfl
            have p9 : w7.cell? ⟨b, 9, none⟩ = some (.int .u64 (l.q.ap : Int)) := block_cell P4.out.x rfl
            have p10 : w7.cell? ⟨b, 10, none⟩ = some (.int .u32 (l.q.al : Int)) := block_cell P4.out.x rfl
            have p11 : w7.cell? ⟨b, 11, none⟩ = some (.string (bs l.q.key)) := block_cell P4.out.x rfl
            have p12 : w7.cell? ⟨b, 12, none⟩ = some (.string (bs l.q.to)) := block_cell P4.out.x rfl
            have p13 : w7.cell? ⟨b, 13, none⟩ = some (.int .i64 l.q.lim) := block_cell P4.out.x rfl
            have p14 : w7.cell? ⟨b, 14, none⟩ = some (.int .u8 (l.q.pt : Int)) := block_cell P4.out.x rfl
            have p15 : w7.cell? ⟨b, 15, none⟩ = some (.slice wa l.q.ws.length wc) := block_cell P4.out.x rfl
            have p16 : w7.cell? ⟨b, 16, none⟩ = some (.slice sa l.q.sk.length sc) := block_cell P4.out.x rfl
            go_wp2_with fail
            refine (ask16 pb L4 l.q wa sa wc sc _ P4.out.wr (by omega) HO.out HG.out.q (HA.out.on P4.out.kept.below).q).mono ?_
            rintro e w8 ⟨rfl, hw, hk⟩
            have P5 : Hid (Pz W3 pb b #[.int .u32 (l.cl : Int), .int .u32 (l.sh : Int), .int .u32 (l.sq : Int), .bool l.an, .int .i64 l.q.k, .int .u32 (l.q.c : Int), .int .u32 (l.q.n : Int), .int .u64 (l.q.sp : Int), .int .u32 (l.q.sl : Int), .int .u64 (l.q.ap : Int), .int .u32 (l.q.al : Int), .string (bs l.q.key), .string (bs l.q.to), .int .i64 l.q.lim, .int .u8 (l.q.pt : Int), .slice wa l.q.ws.length wc, .slice sa l.q.sk.length sc, .int .i64 l.r.k, .int .i64 l.r.er, .bool l.r.fd, .string (bs l.r.val), .slice pa l.r.ps.length pc, .int .u32 (l.r.c : Int), .int .u32 (l.r.n : Int), .int .u64 (l.r.sp : Int), .int .u32 (l.r.sl : Int), .int .u64 (l.r.ap : Int), .int .u32 (l.r.al : Int), .string (bs l.r.prim), .int .u64 (l.r.np : Int), .int .u32 (l.r.nl : Int)] 37 (L4 ++ formQ l.q) w8) := P4.out.go (by decide) hw hk
            clear hw hk p3 p4 p5 p6 p7 p8 p9 p10 p11 p12 p13 p14 p15 p16 P4
            go_wp2_with fail
            refine (bytes18 pb _ _ P5.out.wr).mono ?_
            rintro e w9 ⟨rfl, rfl⟩
            go_wp2_with fail
            go_ret2
            refine ⟨?_, HBl.out.1.trans (P5.out.kept.below.mono HBl.out.2)⟩
            have hE : L4 ++ formQ l.q = formL l := by
              rw [← HL4.out, ← HL3.out, ← HL2.out, ← HL1.out]
              simp only [formL, HAN.out, Bool.false_eq_true, if_false, List.append_assoc, List.nil_append]
            rw [HWr.out, ← hE]
            rfl
          · have HO : Hid (OkR l.r) := by
              rcases HF.out.2.2 with ⟨_, _, h⟩ | ⟨h, _⟩
              · exact h
              · rw [HAN.out] at h; cases h
            have p17 : w7.cell? ⟨b, 17, none⟩ = some (.int .i64 l.r.k) := block_cell P4.out.x rfl
            have p18 : w7.cell? ⟨b, 18, none⟩ = some (.int .i64 l.r.er) := block_cell P4.out.x rfl
            have p19 : w7.cell? ⟨b, 19, none⟩ = some (.bool l.r.fd) := block_cell P4.out.x rfl
            have p20 : w7.cell? ⟨b, 20, none⟩ = some (.string (bs l.r.val)) := block_cell P4.out.x rfl
            have p21 : w7.cell? ⟨b, 21, none⟩ = some (.slice pa l.r.ps.length pc) := block_cell P4.out.x rfl
            have p22 : w7.cell? ⟨b, 22, none⟩ = some (.int .u32 (l.r.c : Int)) := block_cell P4.out.x rfl
            have p23 : w7.cell? ⟨b, 23, none⟩ = some (.int .u32 (l.r.n : Int)) := block_cell P4.out.x rfl
            have p24 : w7.cell? ⟨b, 24, none⟩ = some (.int .u64 (l.r.sp : Int)) := block_cell P4.out.x rfl
            have p25 : w7.cell? ⟨b, 25, none⟩ = some (.int .u32 (l.r.sl : Int)) := block_cell P4.out.x rfl
            have p26 : w7.cell? ⟨b, 26, none⟩ = some (.int .u64 (l.r.ap : Int)) := block_cell P4.out.x rfl
            have p27 : w7.cell? ⟨b, 27, none⟩ = some (.int .u32 (l.r.al : Int)) := block_cell P4.out.x rfl
            have p28 : w7.cell? ⟨b, 28, none⟩ = some (.string (bs l.r.prim)) := block_cell P4.out.x rfl
            have p29 : w7.cell? ⟨b, 29, none⟩ = some (.int .u64 (l.r.np : Int)) := block_cell P4.out.x rfl
            have p30 : w7.cell? ⟨b, 30, none⟩ = some (.int .u32 (l.r.nl : Int)) := block_cell P4.out.x rfl
            go_wp2_with fail
            refine (reply15 pb L4 l.r pa pc _ P4.out.wr (by omega) HO.out HG.out.r (HA.out.on P4.out.kept.below).r).mono ?_
            rintro e w8 ⟨rfl, hw, hk⟩
            have P5 : Hid (Pz W3 pb b #[.int .u32 (l.cl : Int), .int .u32 (l.sh : Int), .int .u32 (l.sq : Int), .bool l.an, .int .i64 l.q.k, .int .u32 (l.q.c : Int), .int .u32 (l.q.n : Int), .int .u64 (l.q.sp : Int), .int .u32 (l.q.sl : Int), .int .u64 (l.q.ap : Int), .int .u32 (l.q.al : Int), .string (bs l.q.key), .string (bs l.q.to), .int .i64 l.q.lim, .int .u8 (l.q.pt : Int), .slice wa l.q.ws.length wc, .slice sa l.q.sk.length sc, .int .i64 l.r.k, .int .i64 l.r.er, .bool l.r.fd, .string (bs l.r.val), .slice pa l.r.ps.length pc, .int .u32 (l.r.c : Int), .int .u32 (l.r.n : Int), .int .u64 (l.r.sp : Int), .int .u32 (l.r.sl : Int), .int .u64 (l.r.ap : Int), .int .u32 (l.r.al : Int), .string (bs l.r.prim), .int .u64 (l.r.np : Int), .int .u32 (l.r.nl : Int)] 37 (L4 ++ formR l.r) w8) := P4.out.go (by decide) hw hk
            clear hw hk p3 p17 p18 p19 p20 p21 p22 p23 p24 p25 p26 p27 p28 p29 p30 P4
            go_wp2_with fail
            refine (bytes18 pb _ _ P5.out.wr).mono ?_
            rintro e w9 ⟨rfl, rfl⟩
            go_wp2_with fail
            go_ret2
            refine ⟨?_, HBl.out.1.trans (P5.out.kept.below.mono HBl.out.2)⟩
            have hE : L4 ++ formR l.r = formL l := by
              rw [← HL4.out, ← HL3.out, ← HL2.out, ← HL1.out]
              simp only [formL, HAN.out, if_true, List.append_assoc, List.nil_append]
            rw [HWr.out, ← hE]
            rfl
end Go.Proofs.Ytmldgfepnmencaa
