/-
  The document's table: Cut.
-/
import Derived.Test.YtknfkpnicjellaaSame
namespace Go.Proofs.Ytknfkpnicjellaa
open Go.RowKit

theorem run_neq32 (p l q m : Int) (w : World) : (binOp .neq 32 (.agg #[.int .u32 p, .int .u32 l]) (.agg #[.int .u32 q, .int .u32 m])).run Try.prog w = .ok (.bool (!(p == q && l == m))) w := by
  by_cases h : p = q <;> by_cases h2 : l = m <;> simp [go_sem, h, h2]

theorem set_kept' (w : World) (b j : Nat) (u : Value) : Kept (fun c => c = b) w (w.setCell ⟨b, j, none⟩ u) := by
  have hb : Below b w (w.setCell ⟨b, j, none⟩ u) := (Below.refl b w).setCell (p := ⟨b, j, none⟩) (Nat.le_refl b) u
  exact ⟨hb.os, hb.tape, hb.output, hb.size, fun k _ hF => Below.heap_setCell w ⟨b, j, none⟩ u k hF⟩
theorem cut_after {B rb : Nat} {s0 : Value} {T R Y : Tb} {sa : Option Addr} {sc nn : Nat} {vl : Value} {w W0 wr : World} (hr : RtAt B rb s0 T w) (hb0 : Below w.heap.size w W0) (hb : Below W0.heap.size W0 wr) (ho : wr.ownsRow W0.heap.size 49 10 (.slice sa nn sc) R.length (rowC inc R)) (hy : W0.ownsRow w.heap.size 49 10 vl Y.length (rowC inc Y)) (hR : TOk R) :
    RtAt B rb (.slice sa nn sc) R (wr.setCell ⟨rb, 0, none⟩ (.slice sa nn sc)) ∧ IsAt (wr.setCell ⟨rb, 0, none⟩ (.slice sa nn sc)).heap.size vl Y (wr.setCell ⟨rb, 0, none⟩ (.slice sa nn sc)) ∧ Kept (fun i => i = rb) w (wr.setCell ⟨rb, 0, none⟩ (.slice sa nn sc)) ∧ ∀ i, (Value.slice sa nn sc).ownBlock = some i → w.heap.size ≤ i := by
  have hk := set_kept' wr rb 0 (.slice sa nn sc)
  have hrw := (hr.on hb0).on hb
  have hrb := (hr.lt (.inl rfl)).2
  have hs := hb0.size
  refine ⟨⟨block_set _ hrw.box, own_le (own_kept ho hk (fun k e he => ?_)) ?_, hr.lo, fun e => ?_, hR⟩, rw_own (own_kept (own_on hy hb) hk (fun k e he => ?_)), (Kept.of_below (hb0.trans (hb.mono hs))).trans hk (fun i e => .inl e), fun i e => ?_⟩
  · have := (World.ownsRow.lt ho k e).1; omega
  · have := hr.lo; omega
  · have := (World.ownsRow.lt ho rb e).1; omega
  · have := (World.ownsRow.lt hy k e).1; omega
  · have := (World.ownsRow.lt ho i e).1; omega

set_option maxHeartbeats 800000 in
set_option maxRecDepth 100000 in
theorem cut14 (B rb : Nat) (sl : Value) (T : Tb) (c n : Int) (w : World) (h : RtAt B rb sl T w) (hl : T.length < 100000) :
    Calls Try.prog 14 #[.pointer (some ⟨rb, 0, none⟩), .agg #[.int .u32 c, .int .u32 n]] w fun e w' => ∃ v' sl', e = .returned v' ∧ IsAt w'.heap.size v' (byF c n T) w' ∧ RtAt B rb sl' (restF c n T) w' ∧ Kept (fun i => i = rb) w w' ∧ ∀ i, sl'.ownBlock = some i → w.heap.size ≤ i := by
  obtain ⟨i0, hin, hi0, hi1, hi2⟩ := info_parts info49
  obtain ⟨ao, cap, rfl, hlc, hcm⟩ := h.is.shape
  have HR : Hid (RtAt B rb (.slice ao T.length cap) T w) := h
  have c0 := h.cell
  have hrb : rb < w.heap.size := World.block_lt_of_cell? _ _ c0
  have hL9 : T.length < 9223372036854775808 := by omega
  have CB : Hid (∀ W, Below w.heap.size w W → _) := fun W hb => by22 B rb _ T c n W (h.on hb) hl
  clear h hlc hcm
  go_enter Try.func14, Try.ntmps14
  go_wp2_with fail
  refine (CB.out _ (al _)).mono ?_
  rintro e W0 ⟨v0, rfl, ho0, hb0⟩
  obtain ⟨la, lc, rfl, -⟩ := rw_own ho0
  have HB0 : Hid (W0.heap[w.heap.size]? = some (.cells #[.int .u32 c, .int .u32 n] 32 (0, 0)) ∧ Below w.heap.size w W0) := ⟨by rw [hb0.block w.heap.size (by simp)]; exact heap_alloc_new w _, (al _).trans (hb0.mono (al _).size)⟩
  have HO0 : Hid (W0.ownsRow w.heap.size 49 10 (.slice la (byF c n T).length lc) (byF c n T).length (rowC inc (byF c n T))) := own_le ho0 (al _).size
  clear ho0 hb0 CB
  obtain ⟨bx, hbx⟩ : ∃ bx, w.heap.size = bx := ⟨_, rfl⟩
  have HBX : Hid (w.heap.size = bx) := hbx
  have HEW : Hid (∀ W, Below W0.heap.size W0 W → W.cell? ⟨w.heap.size, 0, none⟩ = some (.int .u32 c) ∧ W.cell? ⟨w.heap.size, 1, none⟩ = some (.int .u32 n) ∧ W.cell? ⟨rb, 0, none⟩ = some (.slice ao T.length cap) ∧ ∀ i, i < T.length → ∃ b off, ao = some ⟨b, off, none⟩ ∧ InAt W b (off + i * 10) (T.getD i di)) := fun W hb => by
    have hx : W.heap[w.heap.size]? = some (.cells #[.int .u32 c, .int .u32 n] 32 (0, 0)) := by rw [hb.block _ (Array.getElem?_eq_some_iff.1 HB0.out.1).1]; exact HB0.out.1
    have hr := (HR.out.on HB0.out.2).on hb
    exact ⟨block_cell hx rfl, block_cell hx rfl, hr.cell, fun i hi => hr.is.el hi⟩
  rw [hbx] at HEW ⊢
  generalize hY : byF c n T = Y at *
  have HYe : Hid (byF c n T = Y) := hY
  clear hY
  clear hbx c0
  go_wp2_with fail
  go_loopw [6, 7] (fun vv i wr => ∃ m : Nat, m ≤ T.length ∧ i = .int .i64 m ∧ wr.ownsRow W0.heap.size 49 10 vv (restF c n (T.take m)).length (rowC inc (restF c n (T.take m))) ∧ Below W0.heap.size W0 wr) (fun _ i _ => T.length - (intOf i).toNat)
  case atStart => exact ⟨0, Nat.zero_le _, rfl, own_nil _ _ _ _, Below.refl _ _⟩
  case round =>
    obtain ⟨m, hm, rfl, hown, hbr⟩ := hrel
    obtain ⟨sa, sc, rfl, -, -, -, -⟩ := rw_own hown
    have HO : Hid _ := hown
    have HB : Hid (Below W0.heap.size W0 wr) := hbr
    obtain ⟨x0, x1, d0, hel⟩ := HEW.out wr hbr
    clear hown hbr
    by_cases hml : m < T.length
    · obtain ⟨b, off, rfl, e0, e1, e2, e3, e4, e5, e6, e7, e8, e9⟩ := hel m hml
      have hml' : (m : Int) < T.length := by omega
      have hst := rest_snoc (c := c) (n := n) hml
      have hln : (restF c n (T.take m)).length < 100000 := by have h1 := len_rest c n (T.take m); have h2 := List.length_take_le m T; omega
      obtain ⟨R, hR⟩ : ∃ R, restF c n (T.take m) = R := ⟨_, rfl⟩
      obtain ⟨R1, hR1⟩ : ∃ R1, restF c n (T.take (m + 1)) = R1 := ⟨_, rfl⟩
      rw [hR] at HO hst hln
      rw [hR1] at hst
      have HR1 : Hid (restF c n (T.take (m + 1)) = R1) := hR1
      rw [hR]
      clear hR hR1 hel
      generalize T.getD m di = x at *
      obtain ⟨a, s⟩ := x
      dsimp only at e0 e1 e2 e3 e4 e5 e6 e7 e8 e9 hst
      have hq := run_neq32 s.c s.n c n
      have HF : Hid (wr.cell? ⟨bx, 0, none⟩ = some (.int .u32 c) ∧ wr.cell? ⟨bx, 1, none⟩ = some (.int .u32 n) ∧ wr.cell? ⟨rb, 0, none⟩ = some (.slice (some ⟨b, off, none⟩) T.length cap) ∧ wr.cell? ⟨b, off + m * 10, none⟩ = some (.int .u32 s.c) ∧ wr.cell? ⟨b, off + m * 10 + 1, none⟩ = some (.int .u32 s.n)) := ⟨x0, x1, d0, e0, e1⟩
      have HI : Hid (InAt wr.drew b (off + m * 10) (a, s) ∧ wr.drew.cell? ⟨rb, 0, none⟩ = some (.slice (some ⟨b, off, none⟩) T.length cap)) := ⟨⟨e0, e1, e2, e3, e4, e5, e6, e7, e8, e9⟩, d0⟩
      have HBd : Hid (Below W0.heap.size W0 wr.drew) := HB.out.drew
      have HOd : Hid (wr.drew.ownsRow W0.heap.size 49 10 (.slice sa R.length sc) R.length (rowC inc R)) := HO.out
      have HGo : Hid (∀ z : Bool, (s.c == c && s.n == n) = z → ofBy c n s = z) := fun z h => h
      generalize hz : (s.c == c && s.n == n) = z at hq
      have hof := HGo.out z hz
      clear e2 e3 e4 e5 e6 e7 e8 e9 hz HGo HO HB
      go_upto_region 6 with fail
      go_region_held3 (fun W => W.cell? ⟨bx, 0, none⟩ = some (.int .u32 c) ∧ W.cell? ⟨bx, 1, none⟩ = some (.int .u32 n) ∧ W.cell? ⟨rb, 0, none⟩ = some (.slice (some ⟨b, off, none⟩) T.length cap) ∧ W.cell? ⟨b, off + m * 10, none⟩ = some (.int .u32 s.c) ∧ W.cell? ⟨b, off + m * 10 + 1, none⟩ = some (.int .u32 s.n))
        (exact HF.out) (fail)
      rename_i hHeld
      clear hHeld x0 x1 d0 e0 e1 hq HF
      generalize wr.drew = wd at *
      obtain ⟨⟨e0, e1, e2, e3, e4, e5, e6, e7, e8, e9⟩, d0⟩ := HI.out
      dsimp only at e0 e1 e2 e3 e4 e5 e6 e7 e8 e9
      have HB : Hid (Below W0.heap.size W0 wd) := HBd.out
      have HO : Hid (wd.ownsRow W0.heap.size 49 10 (.slice sa R.length sc) R.length (rowC inc R)) := HOd.out
      clear HBd HOd HI
      cases z
      · rw [if_neg (by rw [hof]; simp)] at hst
        have HS : Hid (R1 = R ++ [(a, s)]) := hst
        have HOw : Hid (Ow W0.heap.size 49 10 (.slice sa R.length sc) R.length (rowC inc R) (wd.heap.size + 1) (.slice (some ⟨wd.heap.size, 0, none⟩) 1 1) 1 (rowC inc [(a, s)]) (wd.alloc (.cells #[.int .u32 s.c, .int .u32 s.n, .int .u64 s.sp, .int .u32 s.sl, .int .u64 s.mp, .int .u32 s.ml, .string (bs s.prim), .string (bs a), .string (bs s.val), .bool s.dead] 49))) := in_ow (a, s) HO.out HB.out.size (by omega)
        clear hst hof
        go_wp2_with (at_builtin; refine wpList_append_rw HOw.out Try.underlying27 hin hi0 hi1 hi2 rfl (by decide) (by decide) (.tmp 30) (.tmp 38) rfl rfl rfl rfl ?_)
        intro v' w4 hown hg hat
        have HB4 : Hid (Below W0.heap.size W0 w4) := below_own (HB.out.alloc HB.out.size _) HOw.out.size HOw.out.own hg
        obtain ⟨sa4, sc4, rfl, -, -, -, -⟩ := rw_own hown
        have HO4 : Hid (w4.ownsRow W0.heap.size 49 10 (.slice sa4 (R.length + 1) sc4) (R ++ [(a, s)]).length (rowC inc (R ++ [(a, s)]))) := by
          rw [rowC_append, List.length_append]
          exact hown
        clear hown hg hat HOw d0 e0 e1 e2 e3 e4 e5 e6 e7 e8 e9
        go_wp2_with fail
        go_roundw
        case rel => exact ⟨m + 1, by omega, by go_num, by rw [HR1.out, HS.out]; exact HO4.out, HB4.out⟩
        case measure => simp [intOf]; omega
      · rw [if_pos hof] at hst
        have HS : Hid (R1 = R) := by show _ = _; rw [hst, List.append_nil]
        clear hst hof
        go_wp2_with fail
        go_roundw
        case rel => exact ⟨m + 1, by omega, by go_num, by rw [HR1.out, HS.out]; exact HO.out, HB.out⟩
        case measure => simp [intOf]; omega
    · have hml' : ¬ (m : Int) < T.length := by omega
      have HZ : Hid (restF c n (T.take m) = restF c n T) := by show _ = _; rw [List.take_of_length_le (by omega)]
      rw [HZ.out] at HO ⊢
      have HRw : Hid (RtAt B rb (.slice ao T.length cap) T wr) := (HR.out.on HB0.out.2).on HB.out
      have HX : Hid (RtAt B rb (.slice sa (restF c n T).length sc) (restF c n T) (wr.setCell ⟨rb, 0, none⟩ (.slice sa (restF c n T).length sc)) ∧ IsAt (wr.setCell ⟨rb, 0, none⟩ (.slice sa (restF c n T).length sc)).heap.size (.slice la Y.length lc) Y (wr.setCell ⟨rb, 0, none⟩ (.slice sa (restF c n T).length sc)) ∧ Kept (fun i => i = rb) w (wr.setCell ⟨rb, 0, none⟩ (.slice sa (restF c n T).length sc)) ∧ ∀ i, (Value.slice sa (restF c n T).length sc).ownBlock = some i → w.heap.size ≤ i) := cut_after HR.out HB0.out.2 HB.out HO.out HO0.out (HR.out.ok.rest c n)
      have f0 := HRw.out.frozen
      clear hel
      go_wp2_with fail
      go_ret
      exact ⟨_, rfl, by rw [HYe.out]; exact HX.out.2.1, _, HX.out.1, HX.out.2.2.1, HX.out.2.2.2⟩
end Go.Proofs.Ytknfkpnicjellaa
