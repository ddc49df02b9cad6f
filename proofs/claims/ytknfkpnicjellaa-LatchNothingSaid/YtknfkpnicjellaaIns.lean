/-
  The landed table keeps to all that the laws ask.
-/
import Derived.Test.YtknfkpnicjellaaLys
import Derived.Test.YtknfkpnicjellaaFps
namespace Go.Proofs.Ytknfkpnicjellaa
open Go.RowKit

set_option maxHeartbeats 800000 in
set_option maxRecDepth 100000 in
theorem lay10_nil (c n sp sl mp ml : Int) (prim : List UInt8) (v : Value) (w : World) (hv : ∃ ao l cap, v = .slice ao l cap) : Calls Try.prog 10 #[.pointer none, .agg #[.int .u32 c, .int .u32 n], .agg #[.int .u64 sp, .int .u32 sl], .agg #[.int .u64 mp, .int .u32 ml], .string (bs prim), v] w fun e w' => e = .returned (.int .i64 1) ∧ Below w.heap.size w w' := by
  obtain ⟨ao, l, cap, rfl⟩ := hv
  have HB : Hid (∀ a b c d : Obj, Below w.heap.size w ((((w.alloc a).alloc b).alloc c).alloc d)) := fun a b c d => ((((Below.refl _ _).alloc (Nat.le_refl _) a).alloc (by simp) b).alloc (by simp; omega) c).alloc (by simp; omega) d
  go_enter Try.func10, Try.ntmps10
  go_wp2_with fail
  go_ret
  exact ⟨rfl, HB.out _ _ _ _⟩
set_option maxHeartbeats 800000 in
set_option maxRecDepth 100000 in
theorem first17_nil (lo hi : List UInt8) (ap aq : Int) (v : Value) (w : World) (hv : ∃ ao l cap, v = .slice ao l cap) : Calls Try.prog 17 #[.pointer none, .string (bs lo), .string (bs hi), .agg #[.int .u64 ap, .int .u32 aq], v] w fun e w' => e = .returned (fsV none) ∧ Below w.heap.size w w' := by
  obtain ⟨ao, l, cap, rfl⟩ := hv
  have HX : Hid (Fb w.heap.size ap aq w ((w.alloc (.cells #[.int .u64 ap, .int .u32 aq] 35)).alloc (.cells #[.int .u32 0, .int .u32 0, .int .u64 0, .int .u32 0, .int .u64 0, .int .u32 0, .string ⟨#[]⟩, .string ⟨#[]⟩, .string ⟨#[]⟩, .bool false] 49))) := by
    obtain ⟨h1, h2, h3⟩ := two_boxes w (.cells #[.int .u64 ap, .int .u32 aq] 35) (.cells #[.int .u32 0, .int .u32 0, .int .u64 0, .int .u32 0, .int .u64 0, .int .u32 0, .string ⟨#[]⟩, .string ⟨#[]⟩, .string ⟨#[]⟩, .bool false] 49)
    exact ⟨h1, h2, h3⟩
  obtain ⟨W0, hW0⟩ : ∃ W0, ((w.alloc (.cells #[.int .u64 ap, .int .u32 aq] 35)).alloc (.cells #[.int .u32 0, .int .u32 0, .int .u64 0, .int .u32 0, .int .u64 0, .int .u32 0, .string ⟨#[]⟩, .string ⟨#[]⟩, .string ⟨#[]⟩, .bool false] 49)) = W0 := ⟨_, rfl⟩
  rw [hW0] at HX
  obtain ⟨bx, hbx⟩ : ∃ bx, w.heap.size = bx := ⟨_, rfl⟩
  have HBX : Hid (w.heap.size = bx) := hbx
  rw [hbx] at HX
  have HB1 := HX.out.b1
  have z0 : W0.cell? ⟨bx + 1, 0, none⟩ = some (.int .u32 0) := block_cell HB1 rfl
  have f0 : W0.frozen? ⟨bx + 1, 0, none⟩ = false := block_frozen HB1 0
  have z1 : W0.cell? ⟨bx + 1, 1, none⟩ = some (.int .u32 0) := block_cell HB1 rfl
  have f1 : W0.frozen? ⟨bx + 1, 1, none⟩ = false := block_frozen HB1 1
  have z2 : W0.cell? ⟨bx + 1, 2, none⟩ = some (.int .u64 0) := block_cell HB1 rfl
  have f2 : W0.frozen? ⟨bx + 1, 2, none⟩ = false := block_frozen HB1 2
  have z3 : W0.cell? ⟨bx + 1, 3, none⟩ = some (.int .u32 0) := block_cell HB1 rfl
  have f3 : W0.frozen? ⟨bx + 1, 3, none⟩ = false := block_frozen HB1 3
  have z4 : W0.cell? ⟨bx + 1, 4, none⟩ = some (.int .u64 0) := block_cell HB1 rfl
  have f4 : W0.frozen? ⟨bx + 1, 4, none⟩ = false := block_frozen HB1 4
  have z5 : W0.cell? ⟨bx + 1, 5, none⟩ = some (.int .u32 0) := block_cell HB1 rfl
  have f5 : W0.frozen? ⟨bx + 1, 5, none⟩ = false := block_frozen HB1 5
  have z6 : W0.cell? ⟨bx + 1, 6, none⟩ = some (.string ⟨#[]⟩) := block_cell HB1 rfl
  have f6 : W0.frozen? ⟨bx + 1, 6, none⟩ = false := block_frozen HB1 6
  have z7 : W0.cell? ⟨bx + 1, 7, none⟩ = some (.string ⟨#[]⟩) := block_cell HB1 rfl
  have f7 : W0.frozen? ⟨bx + 1, 7, none⟩ = false := block_frozen HB1 7
  have z8 : W0.cell? ⟨bx + 1, 8, none⟩ = some (.string ⟨#[]⟩) := block_cell HB1 rfl
  have f8 : W0.frozen? ⟨bx + 1, 8, none⟩ = false := block_frozen HB1 8
  have z9 : W0.cell? ⟨bx + 1, 9, none⟩ = some (.bool false) := block_cell HB1 rfl
  have f9 : W0.frozen? ⟨bx + 1, 9, none⟩ = false := block_frozen HB1 9
  have HP : Hid _ := ten_set ([], zi) HB1
  have HBw : Hid _ := fb_put ([], zi) HX.out HBX.out
  simp only [zi, show bs [] = ⟨#[]⟩ from rfl] at HBw
  clear HB1
  go_enter Try.func17, Try.ntmps17
  go_wp2_with fail
  obtain ⟨g0, g1, g2, g3, g4, g5, g6, g7, g8, g9⟩ := HP.out
  simp only [Nat.zero_add, zi, show bs [] = ⟨#[]⟩ from rfl] at g0 g1 g2 g3 g4 g5 g6 g7 g8 g9
  refine bodyPost_ret (v := fsV none) (by simp [results, Try.results17, go_sem, g0, g1, g2, g3, g4, g5, g6, g7, g8, g9, fsV, inV, zi, show bs [] = ⟨#[]⟩ from rfl]) rfl ?_
  exact ⟨rfl, below_of HBX.out HBw.out⟩

theorem tableIfl : Ifl TabAt where
  lt := by
    rintro B p M T w ⟨pm, hb, t, m, h, _, rfl⟩ k hk
    exact h.lt hk
  keep := by
    rintro B p M G T w w' ⟨pm, hb, t, m, h, hr, rfl⟩ hk hM
    exact ⟨pm, hb, t, m, h.kept hk hM, hr, rfl⟩
  ok := by
    rintro B p M T w ⟨pm, hb, t, m, _, hr, _⟩
    exact hr.ok
  new := new9
  right := right24
  lay := by
    rintro B p M T w c n sp sl mp ml prim L v ⟨pm, hb, t, m, h, hr, rfl⟩ hl hv hn hst
    exact lay10 c n sp sl mp ml prim L v h hr hl hv hn hst
  cut := by
    rintro B p M T w c n ⟨pm, hb, t, m, h, hr, rfl⟩ hl
    refine (cut13 c n h hr hl).mono ?_
    rintro e w' ⟨v', rfl, h1, h2, M', h3, h4, h5⟩
    exact ⟨v', M', rfl, h1, h2, h3, h4, h5⟩
  raise := by
    rintro B p M T w c n mp ml ⟨pm, hb, t, m, h, hr, rfl⟩ _ hst
    exact raise15 c n mp ml h hr hst
  first := by
    rintro B p M T w lo hi ap aq but v ⟨pm, hb, t, m, h, hr, rfl⟩ hl hv
    exact first17 lo hi ap aq but v h hr hl hv
  of := by
    rintro B p M T w k ⟨pm, hb, t, m, h, hr, rfl⟩ _
    exact of19 k h hr
  by_ := by
    rintro B p M T w c n ⟨pm, hb, t, m, h, hr, rfl⟩ hl
    refine (by21 c n h hr hl).mono ?_
    rintro e w' ⟨v', rfl, ho, hb'⟩
    exact ⟨v', rfl, rw_own ho, fun k hk => .inr (World.ownsRow.lt ho k hk).1, hb'⟩
  all := by
    rintro B p M T w ⟨pm, hb, t, m, h, hr, rfl⟩ hl
    refine (all23 h hr hl).mono ?_
    rintro e w' ⟨v', rfl, ho, hb'⟩
    exact ⟨v', rfl, rw_own ho, fun k hk => .inr (World.ownsRow.lt ho k hk).1, hb'⟩
  lay0 := fun c n sp sl mp ml prim _ _ v w hv _ => lay10_nil c n sp sl mp ml prim v w (by obtain ⟨ao, cap, e, _⟩ := hv.shape; exact ⟨_, _, _, e⟩)
  cut0 := cut13_nil
  raise0 := raise15_nil
  first0 := fun lo hi ap aq _ _ v w hv _ => first17_nil lo hi ap aq v w (by obtain ⟨ao, cap, e, _⟩ := hv.shape; exact ⟨_, _, _, e⟩)
  of0 := of19_nil
  by0 := by21_nil
  all0 := all23_nil
end Go.Proofs.Ytknfkpnicjellaa
