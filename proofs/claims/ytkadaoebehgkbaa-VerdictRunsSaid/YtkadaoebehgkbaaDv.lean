/-
  The program's Done.
-/
import Derived.Test.YtkadaoebehgkbaaSv
namespace Go.Proofs.Ytkadaoebehgkbaa
open Go.RowKit

/-- The book, and a transaction's box. -/
structure Tb (B p hb : Nat) (m K : Bk) (w : World) (bt : Nat) (c n : Int) (W : World) : Prop where
  bo : Bo B p hb m K W
  bel : Below w.heap.size w W
  bx : W.heap[bt]? = some (.cells #[.int .u32 c, .int .u32 n] 32 (0, 0))
theorem Tb.on {B p hb : Nat} {m K : Bk} {w W W' : World} {bt : Nat} {c n : Int} (h : Tb B p hb m K w bt c n W) (hb' : Below W.heap.size W W') : Tb B p hb m K w bt c n W' :=
  ⟨h.bo.on hb', h.bel.trans (hb'.mono h.bel.size), by rw [hb'.block _ (Array.getElem?_eq_some_iff.1 h.bx).1]; exact h.bx⟩

set_option maxHeartbeats 3200000 in
set_option maxRecDepth 100000 in
theorem done11 {B p hb : Nat} {m K : Bk} {w : World} (c n : Int) (h : Bo B p hb m K w) : Calls Try.prog 11 #[.pointer (some ⟨p, 0, none⟩), .agg #[.int .u32 c, .int .u32 n]] w fun e w' => e = .returned (.bool (doneB c n K).2) ∧ ∃ M', BoAt B p M' (doneB c n K).1 w' ∧ Kept (fun k => k = p ∨ k = hb) w w' ∧ ∀ i, M' i → (i = p ∨ i = hb) ∨ w.heap.size ≤ i := by
  obtain ⟨W0, hW0⟩ : ∃ W0, w.alloc (.cells #[.int .u32 c, .int .u32 n] 32) = W0 := ⟨_, rfl⟩
  have hb0 : Below w.heap.size w W0 := by rw [← hW0]; exact al _
  have hx0 : W0.heap[w.heap.size]? = some (.cells #[.int .u32 c, .int .u32 n] 32 (0, 0)) := by rw [← hW0]; exact heap_alloc_new w _
  have H0 : Hid (Tb B p hb m K w w.heap.size c n W0) := ⟨h.on hb0, hb0, hx0⟩
  have x0 : W0.cell? ⟨w.heap.size, 0, none⟩ = some (.int .u32 c) := block_cell hx0 rfl
  have x1 : W0.cell? ⟨w.heap.size, 1, none⟩ = some (.int .u32 n) := block_cell hx0 rfl
  have HG : Hid (m.find? (Gv.isK kd (c, n)) = getB c n K) := h.rel.get c n
  have CO : Hid (∀ W, Tb B p hb m K w w.heap.size c n W → Calls Try.prog 15 #[.pointer (some ⟨p, 0, none⟩), .agg #[.int .u32 c, .int .u32 n]] W fun e w' => e = .returned (.tuple #[.agg #[.int .u32 (vz (getB c n K)).c, .int .u32 (vz (getB c n K)).n, .int .u64 (vz (getB c n K)).sp, .int .u32 (vz (getB c n K)).sl, .int .u64 (vz (getB c n K)).ap, .int .u32 (vz (getB c n K)).al, .int .u8 (vz (getB c n K)).pt, .bool (vz (getB c n K)).dn], .bool (getB c n K).isSome]) ∧ Hid (Tb B p hb m K w w.heap.size c n w')) := fun W hW => (of15 c n hW.bo).mono (by
    rintro e w' ⟨rfl, hb'⟩
    exact ⟨by rw [ofV_eq]; rfl, hW.on hb'⟩)
  have HR : Hid (Rl m K) := h.rel
  have HS1 : Hid (getB c n K = none → doneB c n K = (K, false)) := fun e => by unfold doneB; rw [e]
  have HS2 : Hid (∀ o, getB c n K = some o → doneB c n K = if cmB o then (mkDone c n K, true) else (K, false)) := fun o e => by unfold doneB; rw [e]
  clear h hb0 hx0
  obtain ⟨bt, hbt⟩ : ∃ bt, w.heap.size = bt := ⟨_, rfl⟩
  rw [hbt] at x0 x1 H0 CO
  go_enter Try.func11, Try.ntmps11
  go_wp2_with fail
  refine (CO.out _ H0.out).mono ?_
  rintro e w1 ⟨rfl, H1⟩
  clear x0 x1 hW0 CO H0 hbt
  cases hg : getB c n K with
  | none =>
    have HS : Hid (doneB c n K = (K, false)) := HS1.out hg
    simp only [Option.isSome_none]
    generalize vz none = x
    clear HS1 HS2 hg
    have HB : Hid (∀ o, Tb B p hb m K w bt c n (w1.alloc o)) := fun o => H1.out.on (al _)
    clear H1
    go_wp2_with fail
    go_ret
    rw [HS.out]
    exact ⟨rfl, bo_same (HB.out _).bo (HB.out _).bel⟩
  | some o =>
    have hS := HS2.out o hg
    have hmo : m.find? (Gv.isK kd (c, n)) = some o := HG.out.trans hg
    have hko : kd o = (c, n) := ((kd_find HR.out.apart).1 hmo).2
    obtain ⟨rfl, rfl⟩ : o.c = c ∧ o.n = n := ⟨congrArg Prod.fst hko, congrArg Prod.snd hko⟩
    have CC : Hid (∀ W, 1 = 1 → Calls Try.prog 23 #[.agg #[.int .u32 o.c, .int .u32 o.n, .int .u64 o.sp, .int .u32 o.sl, .int .u64 o.ap, .int .u32 o.al, .int .u8 o.pt, .bool o.dn]] W fun e w' => e = .returned (.bool (cmB o)) ∧ Below W.heap.size W w') := fun W _ => comm23 o W
    simp only [vz, Option.getD_some, Option.isSome_some]
    have HM : Hid (m.find? (Gv.isK kd (kd ({ o with dn := true } : Vd))) = some o) := hmo
    clear HS1 HS2 hg HG hmo hko
    obtain ⟨W2, hW2⟩ : ∃ W2, w1.alloc (.cells #[.int .u32 o.c, .int .u32 o.n, .int .u64 o.sp, .int .u32 o.sl, .int .u64 o.ap, .int .u32 o.al, .int .u8 o.pt, .bool o.dn] 37) = W2 := ⟨_, rfl⟩
    have H2 : Hid (Tb B p hb m K w bt o.c o.n W2 ∧ W2.heap[w1.heap.size]? = some (.cells #[.int .u32 o.c, .int .u32 o.n, .int .u64 o.sp, .int .u32 o.sl, .int .u64 o.ap, .int .u32 o.al, .int .u8 o.pt, .bool o.dn] 37 (0, 0)) ∧ w.heap.size ≤ w1.heap.size ∧ bt ≠ w1.heap.size ∧ p ≠ w1.heap.size ∧ hb ≠ w1.heap.size) := by
      rw [← hW2]
      have n1 := (Array.getElem?_eq_some_iff.1 H1.out.bx).1
      have n2 := (Array.getElem?_eq_some_iff.1 H1.out.bo.box).1
      have n3 := H1.out.bo.map.lt
      exact ⟨H1.out.on (al _), heap_alloc_new w1 _, H1.out.bel.size, by omega, by omega, by omega⟩
    clear H1
    obtain ⟨bo, hbo⟩ : ∃ bo, w1.heap.size = bo := ⟨_, rfl⟩
    rw [hbo] at H2
    have y0 : W2.cell? ⟨bo, 0, none⟩ = some (.int .u32 o.c) := block_cell H2.out.2.1 rfl
    have y1 : W2.cell? ⟨bo, 1, none⟩ = some (.int .u32 o.n) := block_cell H2.out.2.1 rfl
    have y2 : W2.cell? ⟨bo, 2, none⟩ = some (.int .u64 o.sp) := block_cell H2.out.2.1 rfl
    have y3 : W2.cell? ⟨bo, 3, none⟩ = some (.int .u32 o.sl) := block_cell H2.out.2.1 rfl
    have y4 : W2.cell? ⟨bo, 4, none⟩ = some (.int .u64 o.ap) := block_cell H2.out.2.1 rfl
    have y5 : W2.cell? ⟨bo, 5, none⟩ = some (.int .u32 o.al) := block_cell H2.out.2.1 rfl
    have y6 : W2.cell? ⟨bo, 6, none⟩ = some (.int .u8 o.pt) := block_cell H2.out.2.1 rfl
    have y7 : W2.cell? ⟨bo, 7, none⟩ = some (.bool o.dn) := block_cell H2.out.2.1 rfl
    go_wp2_with fail
    refine (CC.out _ (by simp)).mono ?_
    rintro e w3 ⟨rfl, hb3⟩
    have H3 : Hid (Tb B p hb m K w bt o.c o.n w3 ∧ w3.heap[bo]? = some (.cells #[.int .u32 o.c, .int .u32 o.n, .int .u64 o.sp, .int .u32 o.sl, .int .u64 o.ap, .int .u32 o.al, .int .u8 o.pt, .bool o.dn] 37 (0, 0))) := ⟨H2.out.1.on hb3, by rw [hb3.block _ (Array.getElem?_eq_some_iff.1 H2.out.2.1).1]; exact H2.out.2.1⟩
    have HN := H2.out.2.2
    have HNE : Hid (w.heap.size ≤ bo ∧ bt ≠ bo ∧ p ≠ bo ∧ hb ≠ bo) := HN
    clear HN H2 hb3 y0 y1 y2 y3 y4 y5 y6 y7 hW2 hbo CC
    have HS : Hid (doneB o.c o.n K = if cmB o then (mkDone o.c o.n K, true) else (K, false)) := hS
    clear hS
    generalize cmB o = z at *
    cases z
    · go_wp2_with fail
      go_ret
      rw [HS.out]
      exact ⟨rfl, bo_same H3.out.1.bo H3.out.1.bel⟩
    · have y7 : w3.cell? ⟨bo, 7, none⟩ = some (.bool o.dn) := block_cell H3.out.2 rfl
      have f7 : w3.frozen? ⟨bo, 7, none⟩ = false := block_frozen H3.out.2 7
      obtain ⟨W4, hW4⟩ : ∃ W4, w3.setCell ⟨bo, 7, none⟩ (.bool true) = W4 := ⟨_, rfl⟩
      have H4 : Hid (Tb B p hb m K w bt o.c o.n W4 ∧ W4.heap[bo]? = some (.cells #[.int .u32 o.c, .int .u32 o.n, .int .u64 o.sp, .int .u32 o.sl, .int .u64 o.ap, .int .u32 o.al, .int .u8 o.pt, .bool true] 37 (0, 0))) := by
        have hk := set_kept' w3 bo 7 (.bool true)
        have hx := block_set (j := 7) (.bool true) H3.out.2
        rw [hW4] at hk hx
        refine ⟨⟨H3.out.1.bo.kept hk HNE.out.2.2.1 HNE.out.2.2.2, H3.out.1.bel.trans (hk.below H3.out.1.bel.size (fun k e => by rw [e]; exact HNE.out.1)), ?_⟩, hx⟩
        rw [hk.block bt (Array.getElem?_eq_some_iff.1 H3.out.1.bx).1 HNE.out.2.1]
        exact H3.out.1.bx
      obtain ⟨wU, j, hrun, hj, hmU, hkU, -⟩ := Gv.run_upd1 (w := W4.drew) Try.underlying55 (H4.out.1.on ((Below.refl _ _).drew)).bo.map ({ o with dn := true } : Vd) HM.out
      have HU : Hid (Gv.At kd vdV hb (m.set j { o with dn := true }) wU ∧ Kept (fun i => i = hb) W4.drew wU ∧ m[j]? = some o) := ⟨hmU, hkU, hj⟩
      have hru : (Instr.mapUpdate 55 (.map (some hb)) (.agg #[.int .u32 o.c, .int .u32 o.n]) (.agg #[.int .u32 o.c, .int .u32 o.n, .int .u64 o.sp, .int .u32 o.sl, .int .u64 o.ap, .int .u32 o.al, .int .u8 o.pt, .bool true])).run Try.prog W4.drew = .ok () wU := hrun
      clear hrun hmU hkU hj H3
      have c0 := H4.out.1.bo.cell
      have x0 : W4.cell? ⟨bt, 0, none⟩ = some (.int .u32 o.c) := block_cell H4.out.1.bx rfl
      have x1 : W4.cell? ⟨bt, 1, none⟩ = some (.int .u32 o.n) := block_cell H4.out.1.bx rfl
      have z0 : W4.cell? ⟨bo, 0, none⟩ = some (.int .u32 o.c) := block_cell H4.out.2 rfl
      have z1 : W4.cell? ⟨bo, 1, none⟩ = some (.int .u32 o.n) := block_cell H4.out.2 rfl
      have z2 : W4.cell? ⟨bo, 2, none⟩ = some (.int .u64 o.sp) := block_cell H4.out.2 rfl
      have z3 : W4.cell? ⟨bo, 3, none⟩ = some (.int .u32 o.sl) := block_cell H4.out.2 rfl
      have z4 : W4.cell? ⟨bo, 4, none⟩ = some (.int .u64 o.ap) := block_cell H4.out.2 rfl
      have z5 : W4.cell? ⟨bo, 5, none⟩ = some (.int .u32 o.al) := block_cell H4.out.2 rfl
      have z6 : W4.cell? ⟨bo, 6, none⟩ = some (.int .u8 o.pt) := block_cell H4.out.2 rfl
      have z7 : W4.cell? ⟨bo, 7, none⟩ = some (.bool true) := block_cell H4.out.2 rfl
      go_wp2_with fail
      go_region
      go_wp2_with fail
      go_ret
      rw [HS.out]
      exact ⟨rfl, bo_turn (W := W4.drew) (H4.out.1.on ((Below.refl _ _).drew)).bo (H4.out.1.on ((Below.refl _ _).drew)).bel HU.out.2.1 HU.out.1 (HR.out.done HU.out.2.2 rfl)⟩
set_option maxHeartbeats 400000 in
set_option maxRecDepth 100000 in
theorem done11_nil (c n : Int) (w : World) : Calls Try.prog 11 #[.pointer none, .agg #[.int .u32 c, .int .u32 n]] w fun e w' => e = .returned (.bool false) ∧ Below w.heap.size w w' := by
  have CO : Hid (∀ W, Below w.heap.size w W → Calls Try.prog 15 #[.pointer none, .agg #[.int .u32 c, .int .u32 n]] W fun e w' => e = .returned (.tuple #[.agg #[.int .u32 dv.c, .int .u32 dv.n, .int .u64 dv.sp, .int .u32 dv.sl, .int .u64 dv.ap, .int .u32 dv.al, .int .u8 dv.pt, .bool dv.dn], .bool false]) ∧ Hid (Below w.heap.size w w')) := fun W hW => (of15_nil c n W).mono (by
    rintro e w' ⟨rfl, hb'⟩
    exact ⟨rfl, hW.trans (hb'.mono hW.size)⟩)
  have HB : Hid (∀ o, Below w.heap.size w (w.alloc o)) := fun o => al o
  generalize dv = x at *
  go_enter Try.func11, Try.ntmps11
  go_wp2_with fail
  refine (CO.out _ (HB.out _)).mono ?_
  rintro e w1 ⟨rfl, H1⟩
  have H2 : Hid (∀ o, Below w.heap.size w (w1.alloc o)) := fun o => H1.out.alloc H1.out.size o
  clear CO HB H1
  go_wp2_with fail
  go_ret
  exact ⟨rfl, H2.out _⟩
end Go.Proofs.Ytkadaoebehgkbaa
