/-
  How the program compares two verdicts.
-/
import Derived.Test.YtkadaoebehgkbaaRe
import Derived.Sort.Grow
namespace Go.Proofs.Ytkadaoebehgkbaa
open Go.RowKit Go.Sort

/-- Draws and new blocks alone. -/
def Gw (W w' : World) : Prop := ∃ q os', w' = grow (W.drewN q) os'
theorem Gw.refl (W : World) : Gw W W := ⟨0, #[], by rw [grow_empty]; rfl⟩
theorem Gw.alloc {W w' : World} (h : Gw W w') (o : Obj) : Gw W (w'.alloc o) := by
  obtain ⟨q, os, rfl⟩ := h
  exact ⟨q, os ++ #[o], by rw [alloc_eq_grow, grow_grow]⟩
theorem Gw.drew {W w' : World} (h : Gw W w') : Gw W w'.drew := by
  obtain ⟨q, os, rfl⟩ := h
  exact ⟨q + 1, os, rfl⟩

def cpI (a b : Int) : Int := if a < b then -1 else if b < a then 1 else 0
set_option maxHeartbeats 400000 in
set_option maxRecDepth 100000 in
theorem comp35 (a b : Int) (w : World) : Calls Try.prog 35 #[.int .u32 a, .int .u32 b] w fun e w' => e = .returned (.int .i64 (cpI a b)) ∧ w' = w := by
  by_cases h1 : a < b
  · have HC : Hid (cpI a b = -1) := by show cpI a b = -1; unfold cpI; rw [if_pos h1]
    go_enter Try.func35, Try.ntmps35
    go_wp2
    go_ret
    exact ⟨by rw [HC.out]; rfl, rfl⟩
  · by_cases h2 : b < a
    · have HC : Hid (cpI a b = 1) := by show cpI a b = 1; unfold cpI; rw [if_neg h1, if_pos h2]
      go_enter Try.func35, Try.ntmps35
      go_wp2
      go_ret
      exact ⟨by rw [HC.out]; rfl, rfl⟩
    · have HC : Hid (cpI a b = 0) := by show cpI a b = 0; unfold cpI; rw [if_neg h1, if_neg h2]
      go_enter Try.func35, Try.ntmps35
      go_wp2
      go_ret
      exact ⟨by rw [HC.out]; rfl, rfl⟩
def orI (x y : Int) : Int := if x = 0 then y else x
set_option maxHeartbeats 800000 in
set_option maxRecDepth 100000 in
theorem or34 (bk : Nat) (x y : Int) (w : World) (h0 : w.cell? ⟨bk, 0, none⟩ = some (.int .i64 x)) (h1 : w.cell? ⟨bk, 1, none⟩ = some (.int .i64 y)) : Calls Try.prog 34 #[.slice (some ⟨bk, 0, none⟩) 2 2] w fun e w' => e = .returned (.int .i64 (orI x y)) ∧ w' = w := by
  have HO : Hid (orI x y = if x = 0 then y else x) := rfl
  go_enter Try.func34, Try.ntmps34
  go_wp2_with fail
  go_loopw [8] (fun i wr => ∃ k : Nat, i = .int .i64 k ∧ Hid (wr = w) ∧ Hid (k = 0 ∨ k = 1 ∧ x = 0 ∨ k = 2 ∧ x = 0 ∧ y = 0)) (fun i _ => 2 - (intOf i).toNat)
  case atStart => exact ⟨0, rfl, rfl, .inl rfl⟩
  case round =>
    obtain ⟨k, rfl, HW, HK⟩ := hrel
    obtain rfl := HW.out
    rcases HK.out with rfl | ⟨rfl, hx⟩ | ⟨rfl, hx, hy⟩
    · by_cases hx : x = 0
      · have HX : Hid (x = 0) := hx
        have hx' : (x == 0) = true := by simpa using hx
        clear hx HW HK
        go_wp2_with fail
        go_roundw
        case rel => exact ⟨1, rfl, trivial, .inr (.inl ⟨rfl, HX.out⟩)⟩
        case measure => simp [intOf]
      · have HX : Hid (¬ x = 0) := hx
        have hx' : (x == 0) = false := by simpa using hx
        clear hx HW HK
        go_wp2_with fail
        go_ret
        exact ⟨by rw [HO.out, if_neg HX.out]; rfl, rfl⟩
    · have HX : Hid (x = 0) := hx
      clear hx HW HK
      by_cases hy : y = 0
      · have HY : Hid (y = 0) := hy
        have hy' : (y == 0) = true := by simpa using hy
        clear hy
        go_wp2_with fail
        go_roundw
        case rel => exact ⟨2, rfl, trivial, .inr (.inr ⟨rfl, HX.out, HY.out⟩)⟩
        case measure => simp [intOf]
      · have hy' : (y == 0) = false := by simpa using hy
        clear hy
        go_wp2_with fail
        go_ret
        exact ⟨by rw [HO.out, if_pos HX.out]; rfl, rfl⟩
    · have HX : Hid (x = 0 ∧ y = 0) := ⟨hx, hy⟩
      clear hx hy HW HK
      go_wp2_with fail
      go_ret
      exact ⟨by rw [HO.out, if_pos HX.out.1, HX.out.2]; rfl, rfl⟩

/-- What the closure answers. -/
def cfV (x y : Vd) : Int := orI (cpI x.c y.c) (cpI x.n y.n)
/-- The closure's two boxes. -/
structure Cw (w : World) (bx bt : Nat) (a b c d : Int) (W : World) : Prop where
  g : Gw w W
  x0 : W.cell? ⟨bx, 0, none⟩ = some (.int .u32 a)
  x1 : W.cell? ⟨bx, 1, none⟩ = some (.int .u32 b)
  y0 : W.cell? ⟨bt, 0, none⟩ = some (.int .u32 c)
  y1 : W.cell? ⟨bt, 1, none⟩ = some (.int .u32 d)
theorem Cw.dr {w W : World} {bx bt : Nat} {a b c d : Int} (h : Cw w bx bt a b c d W) : Cw w bx bt a b c d W.drew := ⟨h.g.drew, h.x0, h.x1, h.y0, h.y1⟩
theorem Cw.al {w W : World} {bx bt : Nat} {a b c d : Int} (h : Cw w bx bt a b c d W) (o : Obj) : Cw w bx bt a b c d (W.alloc o) := by
  have f := bcell (Go.Proofs.Ytkadaoebehgkbaa.al (W := W) o)
  exact ⟨h.g.alloc o, (f.1 _ _ (World.block_lt_of_cell? _ _ h.x0)).trans h.x0, (f.1 _ _ (World.block_lt_of_cell? _ _ h.x1)).trans h.x1, (f.1 _ _ (World.block_lt_of_cell? _ _ h.y0)).trans h.y0, (f.1 _ _ (World.block_lt_of_cell? _ _ h.y1)).trans h.y1⟩
theorem Cw.five {w W : World} {bx bt : Nat} {a b c d : Int} (h : Cw w bx bt a b c d W) : W.cell? ⟨bx, 0, none⟩ = some (.int .u32 a) ∧ W.cell? ⟨bx, 1, none⟩ = some (.int .u32 b) ∧ W.cell? ⟨bt, 0, none⟩ = some (.int .u32 c) ∧ W.cell? ⟨bt, 1, none⟩ = some (.int .u32 d) ∧ Cw w bx bt a b c d W := ⟨h.x0, h.x1, h.y0, h.y1, h⟩

set_option maxHeartbeats 1600000 in
set_option maxRecDepth 100000 in
theorem cmp33 (x y : Vd) (w : World) : Calls Try.prog 33 #[.agg #[.int .u32 x.c, .int .u32 x.n, .int .u64 x.sp, .int .u32 x.sl, .int .u64 x.ap, .int .u32 x.al, .int .u8 x.pt, .bool x.dn], .agg #[.int .u32 y.c, .int .u32 y.n, .int .u64 y.sp, .int .u32 y.sl, .int .u64 y.ap, .int .u32 y.al, .int .u8 y.pt, .bool y.dn]] w fun e w' => e = .returned (.int .i64 (cfV x y)) ∧ Gw w w' := by
  have C1 : Hid (∀ W, 1 = 1 → Calls Try.prog 35 #[.int .u32 x.c, .int .u32 y.c] W fun e w' => e = .returned (.int .i64 (cpI x.c y.c)) ∧ w' = W) := fun W _ => comp35 _ _ W
  have C2 : Hid (∀ W, 1 = 1 → Calls Try.prog 35 #[.int .u32 x.n, .int .u32 y.n] W fun e w' => e = .returned (.int .i64 (cpI x.n y.n)) ∧ w' = W) := fun W _ => comp35 _ _ W
  have CO : Hid (∀ W : World, 1 = 1 → Calls Try.prog 34 #[.slice (some ⟨W.heap.size, 0, none⟩) 2 2] (W.alloc (.cells #[.int .i64 (cpI x.c y.c), .int .i64 (cpI x.n y.n)] 3)).drew fun e w' => e = .returned (.int .i64 (cfV x y)) ∧ w' = (W.alloc (.cells #[.int .i64 (cpI x.c y.c), .int .i64 (cpI x.n y.n)] 3)).drew) := fun W _ => or34 W.heap.size _ _ _ (block_cell (heap_alloc_new W _) rfl) (block_cell (heap_alloc_new W _) rfl)
  generalize cfV x y = r at *
  generalize cpI x.c y.c = a at *
  generalize cpI x.n y.n = b at *
  obtain ⟨W0, hW0⟩ : ∃ W0, w.alloc (.cells #[.int .u32 x.c, .int .u32 x.n, .int .u64 x.sp, .int .u32 x.sl, .int .u64 x.ap, .int .u32 x.al, .int .u8 x.pt, .bool x.dn] 37) = W0 := ⟨_, rfl⟩
  obtain ⟨W1, hW1⟩ : ∃ W1, W0.alloc (.cells #[.int .u32 y.c, .int .u32 y.n, .int .u64 y.sp, .int .u32 y.sl, .int .u64 y.ap, .int .u32 y.al, .int .u8 y.pt, .bool y.dn] 37) = W1 := ⟨_, rfl⟩
  have HG : Hid (Gw w W1) := by rw [← hW1, ← hW0]; exact ((Gw.refl w).alloc _).alloc _
  have hx0 : W0.heap[w.heap.size]? = some (.cells #[.int .u32 x.c, .int .u32 x.n, .int .u64 x.sp, .int .u32 x.sl, .int .u64 x.ap, .int .u32 x.al, .int .u8 x.pt, .bool x.dn] 37 (0, 0)) := by rw [← hW0]; exact heap_alloc_new w _
  have hx1 : W1.heap[w.heap.size]? = some (.cells #[.int .u32 x.c, .int .u32 x.n, .int .u64 x.sp, .int .u32 x.sl, .int .u64 x.ap, .int .u32 x.al, .int .u8 x.pt, .bool x.dn] 37 (0, 0)) := by rw [← hW1, (al (W := W0) _).block _ (Array.getElem?_eq_some_iff.1 hx0).1]; exact hx0
  have hy1 : W1.heap[W0.heap.size]? = some (.cells #[.int .u32 y.c, .int .u32 y.n, .int .u64 y.sp, .int .u32 y.sl, .int .u64 y.ap, .int .u32 y.al, .int .u8 y.pt, .bool y.dn] 37 (0, 0)) := by rw [← hW1]; exact heap_alloc_new W0 _
  obtain ⟨bx, hbx⟩ : ∃ bx, w.heap.size = bx := ⟨_, rfl⟩
  obtain ⟨bt, hbt⟩ : ∃ bt, W0.heap.size = bt := ⟨_, rfl⟩
  rw [hbx] at hx1
  rw [hbt] at hy1
  have x0 : W1.cell? ⟨bx, 0, none⟩ = some (.int .u32 x.c) := block_cell hx1 rfl
  have x1 : W1.cell? ⟨bx, 1, none⟩ = some (.int .u32 x.n) := block_cell hx1 rfl
  have y0 : W1.cell? ⟨bt, 0, none⟩ = some (.int .u32 y.c) := block_cell hy1 rfl
  have y1 : W1.cell? ⟨bt, 1, none⟩ = some (.int .u32 y.n) := block_cell hy1 rfl
  have HT : Hid (Cw w bx bt x.c x.n y.c y.n W1) := ⟨HG.out, x0, x1, y0, y1⟩
  clear hx0 hx1 hy1
  go_enter Try.func33, Try.ntmps33
  go_wp2_with fail
  clear hW0 hW1 hbx hbt
  go_region_held3 (fun W => W.cell? ⟨bx, 0, none⟩ = some (.int .u32 x.c) ∧ W.cell? ⟨bx, 1, none⟩ = some (.int .u32 x.n) ∧ W.cell? ⟨bt, 0, none⟩ = some (.int .u32 y.c) ∧ W.cell? ⟨bt, 1, none⟩ = some (.int .u32 y.n) ∧ Cw w bx bt x.c x.n y.c y.n W)
    ((with_reducible refine Cw.five ?_; with_reducible repeat (first | exact HT.out | refine Cw.dr ?_ | refine Cw.al ?_ _)))
    (first
    | (go_at_call_of 35 (Value.int .u32 x.c); (with_reducible refine (C1.out _ (by simp)).mono ?_); rintro e w1 ⟨rfl, rfl⟩)
    | (go_at_call_of 35 (Value.int .u32 x.n); (with_reducible refine (C2.out _ (by simp)).mono ?_); rintro e w1 ⟨rfl, rfl⟩)
    | (go_at_call 34; (with_reducible refine (CO.out _ (by simp)).mono ?_); rintro e w1 ⟨rfl, rfl⟩))
  all_goals
    go_wp2_with fail
    go_ret
    exact ⟨rfl, (HT.out.g.alloc _).drew⟩
end Go.Proofs.Ytkadaoebehgkbaa
