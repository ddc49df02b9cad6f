/-
  The program's small questions of a verdict: is it committed, over, right?
-/
import Derived.Test.YtkadaoebehgkbaaPm
namespace Go.Proofs.Ytkadaoebehgkbaa
open Go.RowKit

set_option maxHeartbeats 400000 in
set_option maxRecDepth 100000 in
theorem comm23 (x : Vd) (w : World) : Calls Try.prog 23 #[.agg #[.int .u32 x.c, .int .u32 x.n, .int .u64 x.sp, .int .u32 x.sl, .int .u64 x.ap, .int .u32 x.al, .int .u8 x.pt, .bool x.dn]] w fun e w' => e = .returned (.bool (cmB x)) ∧ Below w.heap.size w w' := by
  have hq := run_neq35 x.ap x.al 0 0
  have HB : Hid (∀ o, Below w.heap.size w (w.alloc o)) := fun o => al o
  have HC : Hid (cmB x = !(x.ap == 0 && x.al == 0)) := rfl
  generalize (x.ap == 0 && x.al == 0) = z at *
  go_enter Try.func23, Try.ntmps23
  go_wp2_with fail
  go_ret
  exact ⟨by rw [HC.out]; rfl, HB.out _⟩

/-- No shard must learn of it any more. -/
def ovB (x : Vd) : Bool := x.dn || !cmB x
set_option maxHeartbeats 400000 in
set_option maxRecDepth 100000 in
theorem over27 (x : Vd) (w : World) : Calls Try.prog 27 #[.agg #[.int .u32 x.c, .int .u32 x.n, .int .u64 x.sp, .int .u32 x.sl, .int .u64 x.ap, .int .u32 x.al, .int .u8 x.pt, .bool x.dn]] w fun e w' => e = .returned (.bool (ovB x)) ∧ Below w.heap.size w w' := by
  obtain ⟨c, n, sp, sq, ap, aq, pt, dn⟩ := x
  have HB : Hid (∀ o, Below w.heap.size w (w.alloc o)) := fun o => al o
  have CC : Hid (∀ W, 1 = 1 → _) := fun W _ => comm23 ⟨c, n, sp, sq, ap, aq, pt, dn⟩ W
  have HC : Hid (ovB ⟨c, n, sp, sq, ap, aq, pt, dn⟩ = (dn || !cmB ⟨c, n, sp, sq, ap, aq, pt, dn⟩)) := rfl
  generalize cmB ⟨c, n, sp, sq, ap, aq, pt, dn⟩ = z at *
  cases dn
  · go_enter Try.func27, Try.ntmps27
    go_wp2_with fail
    refine (CC.out _ (by simp)).mono ?_
    rintro e w1 ⟨rfl, hb1⟩
    have HB1 : Hid (Below w.heap.size w w1) := (HB.out _).trans (hb1.mono (HB.out _).size)
    clear hb1
    cases z
    · go_wp2_with fail
      go_ret
      exact ⟨by rw [HC.out]; rfl, HB1.out⟩
    · go_wp2_with fail
      go_ret
      exact ⟨by rw [HC.out]; rfl, HB1.out⟩
  · go_enter Try.func27, Try.ntmps27
    go_wp2_with fail
    go_ret
    exact ⟨by rw [HC.out]; rfl, HB.out _⟩

set_option maxHeartbeats 1600000 in
set_option maxRecDepth 100000 in
theorem right19 (x : Vd) (w : World) : Calls Try.prog 19 #[.agg #[.int .u32 x.c, .int .u32 x.n, .int .u64 x.sp, .int .u32 x.sl, .int .u64 x.ap, .int .u32 x.al, .int .u8 x.pt, .bool x.dn]] w fun e w' => e = .returned (.bool (okV x)) ∧ Below w.heap.size w w' := by
  obtain ⟨c, n, sp, sq, ap, aq, pt, dn⟩ := x
  have CC : Hid (∀ W, 1 = 1 → _) := fun W _ => comm23 ⟨c, n, sp, sq, ap, aq, pt, dn⟩ W
  have C1 : Hid (∀ W, 1 = 1 → _) := fun W _ => rightP sp sq W
  have C2 : Hid (∀ W, 1 = 1 → _) := fun W _ => rightP ap aq W
  have HO : Hid (okV ⟨c, n, sp, sq, ap, aq, pt, dn⟩ = (rightB sp sq && rightB ap aq && (cmB ⟨c, n, sp, sq, ap, aq, pt, dn⟩ || (pt == 0 && !dn)))) := rfl
  generalize okV ⟨c, n, sp, sq, ap, aq, pt, dn⟩ = y at *
  generalize cmB ⟨c, n, sp, sq, ap, aq, pt, dn⟩ = z at *
  generalize rightB sp sq = r1 at *
  generalize rightB ap aq = r2 at *
  obtain ⟨W0, hW0⟩ : ∃ W0, w.alloc (.cells #[.int .u32 c, .int .u32 n, .int .u64 sp, .int .u32 sq, .int .u64 ap, .int .u32 aq, .int .u8 pt, .bool dn] 37) = W0 := ⟨_, rfl⟩
  have HB0 : Hid (Below w.heap.size w W0) := by rw [← hW0]; exact al _
  have hx0 : W0.heap[w.heap.size]? = some (.cells #[.int .u32 c, .int .u32 n, .int .u64 sp, .int .u32 sq, .int .u64 ap, .int .u32 aq, .int .u8 pt, .bool dn] 37 (0, 0)) := by rw [← hW0]; exact heap_alloc_new w _
  have HV : Hid (∀ W, Below W0.heap.size W0 W → VdAt W w.heap.size 0 ⟨c, n, sp, sq, ap, aq, pt, dn⟩) := fun W hb => by
    have hx : W.heap[w.heap.size]? = some (.cells #[.int .u32 c, .int .u32 n, .int .u64 sp, .int .u32 sq, .int .u64 ap, .int .u32 aq, .int .u8 pt, .bool dn] 37 (0, 0)) := by rw [hb.block _ (Array.getElem?_eq_some_iff.1 hx0).1]; exact hx0
    exact ⟨block_cell hx rfl, block_cell hx rfl, block_cell hx rfl, block_cell hx rfl, block_cell hx rfl, block_cell hx rfl, block_cell hx rfl, block_cell hx rfl⟩
  clear hx0
  obtain ⟨c0, c1, c2, c3, c4, c5, c6, c7⟩ := HV.out W0 (Below.refl _ _)
  go_enter Try.func19, Try.ntmps19
  go_wp2_with fail
  refine (C1.out W0 (by simp)).mono ?_
  rintro e w1 ⟨rfl, hb1⟩
  clear c0 c1 c2 c3 c4 c5 c6 c7
  obtain ⟨c0, c1, c2, c3, c4, c5, c6, c7⟩ := HV.out w1 hb1
  have HB1 : Hid (Below W0.heap.size W0 w1) := hb1
  have HX : Hid (∀ W, Below W0.heap.size W0 W → Below w.heap.size w W) := fun W hb => HB0.out.trans (hb.mono HB0.out.size)
  clear hb1 hW0
  cases r1
  · go_wp2_with fail
    go_ret
    exact ⟨by rw [HO.out]; rfl, HX.out _ HB1.out⟩
  · go_wp2_with fail
    refine (C2.out w1 (by simp)).mono ?_
    rintro e w2 ⟨rfl, hb2⟩
    have HB2 : Hid (Below W0.heap.size W0 w2) := HB1.out.trans (hb2.mono HB1.out.size)
    clear c0 c1 c2 c3 c4 c5 c6 c7 hb2
    obtain ⟨c0, c1, c2, c3, c4, c5, c6, c7⟩ := HV.out w2 HB2.out
    cases r2
    · go_wp2_with fail
      go_ret
      exact ⟨by rw [HO.out]; rfl, HX.out _ HB2.out⟩
    · go_wp2_with fail
      refine (CC.out w2 (by simp)).mono ?_
      rintro e w3 ⟨rfl, hb3⟩
      have HB3 : Hid (Below W0.heap.size W0 w3) := HB2.out.trans (hb3.mono HB2.out.size)
      clear c0 c1 c2 c3 c4 c5 c6 c7 hb3
      obtain ⟨c0, c1, c2, c3, c4, c5, c6, c7⟩ := HV.out w3 HB3.out
      cases z
      · by_cases hp : pt = 0
        · subst hp
          cases dn
          · go_wp2_with fail
            go_ret
            exact ⟨by rw [HO.out]; rfl, HX.out _ HB3.out⟩
          · go_wp2_with fail
            go_ret
            exact ⟨by rw [HO.out]; rfl, HX.out _ HB3.out⟩
        · have hp' : (pt == 0) = false := by simpa using hp
          go_wp2_with fail
          go_ret
          exact ⟨by rw [HO.out, hp']; rfl, HX.out _ HB3.out⟩
      · go_wp2_with fail
        go_ret
        exact ⟨by rw [HO.out]; rfl, HX.out _ HB3.out⟩
end Go.Proofs.Ytkadaoebehgkbaa
