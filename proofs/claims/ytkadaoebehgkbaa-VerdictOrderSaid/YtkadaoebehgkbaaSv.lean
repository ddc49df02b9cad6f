/-
  The program's Set and Done.
-/
import Derived.Test.YtkadaoebehgkbaaBo
namespace Go.Proofs.Ytkadaoebehgkbaa
open Go.RowKit

theorem run_nilmap (b : Nat) (w : World) : (binOp .eql 55 (.map (some b)) (.map none)).run Try.prog w = .ok (.bool false) w := by
  have e := run_equal_map_nil (P := Try.prog) w 55 32 37 (some b) Try.underlying55
  simp [binOp, e, Result.andThen]
set_option maxHeartbeats 1600000 in
theorem run_nq37 (x y : Vd) (w : World) : (binOp .neq 37 (.agg #[.int .u32 x.c, .int .u32 x.n, .int .u64 x.sp, .int .u32 x.sl, .int .u64 x.ap, .int .u32 x.al, .int .u8 x.pt, .bool x.dn]) (.agg #[.int .u32 y.c, .int .u32 y.n, .int .u64 y.sp, .int .u32 y.sl, .int .u64 y.ap, .int .u32 y.al, .int .u8 y.pt, .bool y.dn])).run Try.prog w = .ok (.bool (!eqV x y)) w := by
  obtain ⟨c, n, sp, sl, ap, al, pt, dn⟩ := x
  obtain ⟨c', n', sp', sl', ap', al', pt', dn'⟩ := y
  simp only [eqV]
  simp [go_sem]
  repeat' split
  all_goals simp_all

/-- The book, and a verdict's box. -/
structure Sb (B p hb : Nat) (m K : Bk) (w : World) (bv : Nat) (v : Vd) (W : World) : Prop where
  bo : Bo B p hb m K W
  bel : Below w.heap.size w W
  bx : W.heap[bv]? = some (.cells #[.int .u32 v.c, .int .u32 v.n, .int .u64 v.sp, .int .u32 v.sl, .int .u64 v.ap, .int .u32 v.al, .int .u8 v.pt, .bool v.dn] 37 (0, 0))
theorem Sb.on {B p hb : Nat} {m K : Bk} {w W W' : World} {bv : Nat} {v : Vd} (h : Sb B p hb m K w bv v W) (hb' : Below W.heap.size W W') : Sb B p hb m K w bv v W' :=
  ⟨h.bo.on hb', h.bel.trans (hb'.mono h.bel.size), by rw [hb'.block _ (Array.getElem?_eq_some_iff.1 h.bx).1]; exact h.bx⟩
/-- What a call leaves that changes nothing of the book. -/
theorem bo_same {B p hb : Nat} {m K : Bk} {w W : World} (h : Bo B p hb m K W) (hb' : Below w.heap.size w W) : ∃ M', BoAt B p M' K W ∧ Kept (fun k => k = p ∨ k = hb) w W ∧ ∀ i, M' i → (i = p ∨ i = hb) ∨ w.heap.size ≤ i :=
  ⟨fun k => k = p ∨ k = hb, ⟨hb, m, h, fun _ => Iff.rfl⟩, Kept.of_below hb', fun _ hi => .inl hi⟩
/-- What a call leaves that turns the map alone. -/
theorem bo_turn {B p hb : Nat} {m m' K K' : Bk} {w W W' : World} (h : Bo B p hb m K W) (hb' : Below w.heap.size w W) (hk : Kept (fun i => i = hb) W W') (hm : Gv.At kd vdV hb m' W') (hr : Rl m' K') : ∃ M', BoAt B p M' K' W' ∧ Kept (fun k => k = p ∨ k = hb) w W' ∧ ∀ i, M' i → (i = p ∨ i = hb) ∨ w.heap.size ≤ i := by
  refine ⟨fun k => k = p ∨ k = hb, ⟨hb, m', ⟨?_, hm, hr, h.lo, h.lh⟩, fun _ => Iff.rfl⟩, ?_, fun _ hi => .inl hi⟩
  · rw [hk.block p (Array.getElem?_eq_some_iff.1 h.box).1 h.ne]
    exact h.box
  · exact (Kept.of_below (F := fun k => k = p ∨ k = hb) hb').trans hk (fun _ e => .inl (.inr e))

set_option maxHeartbeats 3200000 in
set_option maxRecDepth 100000 in
theorem set9 {B p hb : Nat} {m K : Bk} {w : World} (v : Vd) (h : Bo B p hb m K w) : Calls Try.prog 9 #[.pointer (some ⟨p, 0, none⟩), .agg #[.int .u32 v.c, .int .u32 v.n, .int .u64 v.sp, .int .u32 v.sl, .int .u64 v.ap, .int .u32 v.al, .int .u8 v.pt, .bool v.dn]] w fun e w' => e = .returned (.int .i64 (setB v K).2) ∧ ∃ M', BoAt B p M' (setB v K).1 w' ∧ Kept (fun k => k = p ∨ k = hb) w w' ∧ ∀ i, M' i → (i = p ∨ i = hb) ∨ w.heap.size ≤ i := by
  obtain ⟨W0, hW0⟩ : ∃ W0, w.alloc (.cells #[.int .u32 v.c, .int .u32 v.n, .int .u64 v.sp, .int .u32 v.sl, .int .u64 v.ap, .int .u32 v.al, .int .u8 v.pt, .bool v.dn] 37) = W0 := ⟨_, rfl⟩
  have hb0 : Below w.heap.size w W0 := by rw [← hW0]; exact al _
  have hx0 : W0.heap[w.heap.size]? = some (.cells #[.int .u32 v.c, .int .u32 v.n, .int .u64 v.sp, .int .u32 v.sl, .int .u64 v.ap, .int .u32 v.al, .int .u8 v.pt, .bool v.dn] 37 (0, 0)) := by rw [← hW0]; exact heap_alloc_new w _
  have H0 : Hid (Sb B p hb m K w w.heap.size v W0) := ⟨h.on hb0, hb0, hx0⟩
  have c0 := H0.out.bo.cell
  have x0 : W0.cell? ⟨w.heap.size, 0, none⟩ = some (.int .u32 v.c) := block_cell hx0 rfl
  have x1 : W0.cell? ⟨w.heap.size, 1, none⟩ = some (.int .u32 v.n) := block_cell hx0 rfl
  have x2 : W0.cell? ⟨w.heap.size, 2, none⟩ = some (.int .u64 v.sp) := block_cell hx0 rfl
  have x3 : W0.cell? ⟨w.heap.size, 3, none⟩ = some (.int .u32 v.sl) := block_cell hx0 rfl
  have x4 : W0.cell? ⟨w.heap.size, 4, none⟩ = some (.int .u64 v.ap) := block_cell hx0 rfl
  have x5 : W0.cell? ⟨w.heap.size, 5, none⟩ = some (.int .u32 v.al) := block_cell hx0 rfl
  have x6 : W0.cell? ⟨w.heap.size, 6, none⟩ = some (.int .u8 v.pt) := block_cell hx0 rfl
  have x7 : W0.cell? ⟨w.heap.size, 7, none⟩ = some (.bool v.dn) := block_cell hx0 rfl
  have qn := run_nilmap hb
  have CR : Hid (∀ W, Sb B p hb m K w w.heap.size v W → Calls Try.prog 19 #[.agg #[.int .u32 v.c, .int .u32 v.n, .int .u64 v.sp, .int .u32 v.sl, .int .u64 v.ap, .int .u32 v.al, .int .u8 v.pt, .bool v.dn]] W fun e w' => e = .returned (.bool (okV v)) ∧ Hid (Sb B p hb m K w w.heap.size v w')) := fun W hW => (right19 v W).mono (by
    rintro e w' ⟨rfl, hb'⟩
    exact ⟨rfl, hW.on hb'⟩)
  have HG : Hid (m.find? (Gv.isK kd (kd v)) = getB v.c v.n K) := h.rel.get v.c v.n
  have CO : Hid (∀ W, Sb B p hb m K w w.heap.size v W → Calls Try.prog 15 #[.pointer (some ⟨p, 0, none⟩), .agg #[.int .u32 v.c, .int .u32 v.n]] W fun e w' => e = .returned (.tuple #[.agg #[.int .u32 (vz (getB v.c v.n K)).c, .int .u32 (vz (getB v.c v.n K)).n, .int .u64 (vz (getB v.c v.n K)).sp, .int .u32 (vz (getB v.c v.n K)).sl, .int .u64 (vz (getB v.c v.n K)).ap, .int .u32 (vz (getB v.c v.n K)).al, .int .u8 (vz (getB v.c v.n K)).pt, .bool (vz (getB v.c v.n K)).dn], .bool (getB v.c v.n K).isSome]) ∧ Hid (Sb B p hb m K w w.heap.size v w')) := fun W hW => (of15 v.c v.n hW.bo).mono (by
    rintro e w' ⟨rfl, hb'⟩
    exact ⟨by rw [ofV_eq]; rfl, hW.on hb'⟩)
  have HR : Hid (Rl m K) := h.rel
  have HS1 : Hid (okV v = false → setB v K = (K, 1)) := fun e => by unfold setB; rw [e]; rfl
  have HS2 : Hid (okV v = true → getB v.c v.n K = none → setB v K = (insB v K, 0)) := fun e e2 => by unfold setB; rw [e, e2]; rfl
  have HS3 : Hid (∀ o, okV v = true → getB v.c v.n K = some o → setB v K = (K, if eqV { o with dn := v.dn } v then 0 else 40)) := fun o e e2 => by unfold setB; rw [e, e2]; rfl
  clear h hb0 hx0
  generalize okV v = r at *
  obtain ⟨bv, hbv⟩ : ∃ bv, w.heap.size = bv := ⟨_, rfl⟩
  rw [hbv] at x0 x1 x2 x3 x4 x5 x6 x7 H0 CR CO
  go_enter Try.func9, Try.ntmps9
  go_wp2_with fail
  refine (CR.out _ H0.out).mono ?_
  rintro e w1 ⟨rfl, H1⟩
  clear x0 x1 x2 x3 x4 x5 x6 x7 c0 hW0 CR H0 hbv
  cases r
  · go_wp2_with fail
    go_ret
    rw [HS1.out (by simp)]
    exact ⟨rfl, bo_same H1.out.bo H1.out.bel⟩
  · have x0 : w1.cell? ⟨bv, 0, none⟩ = some (.int .u32 v.c) := block_cell H1.out.bx rfl
    have x1 : w1.cell? ⟨bv, 1, none⟩ = some (.int .u32 v.n) := block_cell H1.out.bx rfl
    go_wp2_with fail
    refine (CO.out _ H1.out).mono ?_
    rintro e w2 ⟨rfl, H2⟩
    clear x0 x1 CO HS1 H1
    cases hg : getB v.c v.n K with
    | none =>
      have HS : Hid (setB v K = (insB v K, 0)) := HS2.out (by simp) hg
      have HGN : Hid (getB v.c v.n K = none) := hg
      rw [hg] at HG
      simp only [Option.isSome_none]
      generalize vz none = x
      clear HS2 HS3 hg
      obtain ⟨W3, hW3⟩ : ∃ W3, w2.alloc (.cells #[.int .u32 x.c, .int .u32 x.n, .int .u64 x.sp, .int .u32 x.sl, .int .u64 x.ap, .int .u32 x.al, .int .u8 x.pt, .bool x.dn] 37) = W3 := ⟨_, rfl⟩
      have H3 : Hid (Sb B p hb m K w bv v W3) := by rw [← hW3]; exact H2.out.on (al _)
      obtain ⟨wU, hrun, hmU, hkU, -⟩ := Gv.run_upd0 (w := W3.drew) Try.underlying55 (H3.out.on ((Below.refl _ _).drew)).bo.map v HG.out
      have HU : Hid (Gv.At kd vdV hb (m ++ [v]) wU ∧ Kept (fun i => i = hb) W3.drew wU) := ⟨hmU, hkU⟩
      have hru : (Instr.mapUpdate 55 (.map (some hb)) (.agg #[.int .u32 v.c, .int .u32 v.n]) (.agg #[.int .u32 v.c, .int .u32 v.n, .int .u64 v.sp, .int .u32 v.sl, .int .u64 v.ap, .int .u32 v.al, .int .u8 v.pt, .bool v.dn])).run Try.prog W3.drew = .ok () wU := hrun
      clear hrun hmU hkU H2
      have c0 := H3.out.bo.cell
      have x0 : W3.cell? ⟨bv, 0, none⟩ = some (.int .u32 v.c) := block_cell H3.out.bx rfl
      have x1 : W3.cell? ⟨bv, 1, none⟩ = some (.int .u32 v.n) := block_cell H3.out.bx rfl
      have x2 : W3.cell? ⟨bv, 2, none⟩ = some (.int .u64 v.sp) := block_cell H3.out.bx rfl
      have x3 : W3.cell? ⟨bv, 3, none⟩ = some (.int .u32 v.sl) := block_cell H3.out.bx rfl
      have x4 : W3.cell? ⟨bv, 4, none⟩ = some (.int .u64 v.ap) := block_cell H3.out.bx rfl
      have x5 : W3.cell? ⟨bv, 5, none⟩ = some (.int .u32 v.al) := block_cell H3.out.bx rfl
      have x6 : W3.cell? ⟨bv, 6, none⟩ = some (.int .u8 v.pt) := block_cell H3.out.bx rfl
      have x7 : W3.cell? ⟨bv, 7, none⟩ = some (.bool v.dn) := block_cell H3.out.bx rfl
      go_wp2_with fail
      go_region
      go_wp2_with fail
      go_ret
      rw [HS.out]
      exact ⟨rfl, bo_turn (W := W3.drew) (H3.out.on ((Below.refl _ _).drew)).bo (H3.out.on ((Below.refl _ _).drew)).bel HU.out.2 HU.out.1 (HR.out.ins HGN.out)⟩
    | some o =>
      have HS : Hid (setB v K = (K, if eqV { o with dn := v.dn } v then 0 else 40)) := HS3.out o (by simp) hg
      simp only [vz, Option.getD_some, Option.isSome_some]
      clear HS2 HS3 hg HG
      obtain ⟨W3, hW3⟩ : ∃ W3, w2.alloc (.cells #[.int .u32 o.c, .int .u32 o.n, .int .u64 o.sp, .int .u32 o.sl, .int .u64 o.ap, .int .u32 o.al, .int .u8 o.pt, .bool o.dn] 37) = W3 := ⟨_, rfl⟩
      have H3 : Hid (Sb B p hb m K w bv v W3 ∧ W3.heap[w2.heap.size]? = some (.cells #[.int .u32 o.c, .int .u32 o.n, .int .u64 o.sp, .int .u32 o.sl, .int .u64 o.ap, .int .u32 o.al, .int .u8 o.pt, .bool o.dn] 37 (0, 0)) ∧ bv < w2.heap.size) := by rw [← hW3]; exact ⟨H2.out.on (al _), heap_alloc_new w2 _, (Array.getElem?_eq_some_iff.1 H2.out.bx).1⟩
      have HLo : Hid (w.heap.size ≤ w2.heap.size) := H2.out.bel.size
      have HBo : Hid (Kept (fun i => i = w2.heap.size) W3 (W3.setCell ⟨w2.heap.size, 7, none⟩ (.bool v.dn)) ∧ (W3.setCell ⟨w2.heap.size, 7, none⟩ (.bool v.dn)).heap[w2.heap.size]? = some (.cells #[.int .u32 o.c, .int .u32 o.n, .int .u64 o.sp, .int .u32 o.sl, .int .u64 o.ap, .int .u32 o.al, .int .u8 o.pt, .bool v.dn] 37 (0, 0)) ∧ p < w2.heap.size ∧ hb < w2.heap.size) := ⟨set_kept' _ _ _ _, block_set _ H3.out.2.1, (Array.getElem?_eq_some_iff.1 H2.out.bo.box).1, H2.out.bo.map.lt⟩
      clear H2
      obtain ⟨bo, hbo⟩ : ∃ bo, w2.heap.size = bo := ⟨_, rfl⟩
      rw [hbo] at H3 HBo HLo
      have x7 : W3.cell? ⟨bv, 7, none⟩ = some (.bool v.dn) := block_cell H3.out.1.bx rfl
      have y7 : W3.cell? ⟨bo, 7, none⟩ = some (.bool o.dn) := block_cell H3.out.2.1 rfl
      have f7 : W3.frozen? ⟨bo, 7, none⟩ = false := block_frozen H3.out.2.1 7
      obtain ⟨W4, hW4⟩ : ∃ W4, W3.setCell ⟨bo, 7, none⟩ (.bool v.dn) = W4 := ⟨_, rfl⟩
      rw [hW4] at HBo
      have H4 : Hid (Sb B p hb m K w bv v W4) := by
        have hk := HBo.out.1
        have n1 := H3.out.2.2
        have n2 := HBo.out.2.2
        refine ⟨H3.out.1.bo.kept hk (by omega) (by omega), H3.out.1.bel.trans (hk.below H3.out.1.bel.size (fun k e => by rw [e]; exact HLo.out)), ?_⟩
        rw [hk.block bv (Array.getElem?_eq_some_iff.1 H3.out.1.bx).1 (by omega)]
        exact H3.out.1.bx
      have u0 : W4.cell? ⟨bv, 0, none⟩ = some (.int .u32 v.c) := block_cell H4.out.bx rfl
      have u1 : W4.cell? ⟨bv, 1, none⟩ = some (.int .u32 v.n) := block_cell H4.out.bx rfl
      have u2 : W4.cell? ⟨bv, 2, none⟩ = some (.int .u64 v.sp) := block_cell H4.out.bx rfl
      have u3 : W4.cell? ⟨bv, 3, none⟩ = some (.int .u32 v.sl) := block_cell H4.out.bx rfl
      have u4 : W4.cell? ⟨bv, 4, none⟩ = some (.int .u64 v.ap) := block_cell H4.out.bx rfl
      have u5 : W4.cell? ⟨bv, 5, none⟩ = some (.int .u32 v.al) := block_cell H4.out.bx rfl
      have u6 : W4.cell? ⟨bv, 6, none⟩ = some (.int .u8 v.pt) := block_cell H4.out.bx rfl
      have u7 : W4.cell? ⟨bv, 7, none⟩ = some (.bool v.dn) := block_cell H4.out.bx rfl
      have z0 : W4.cell? ⟨bo, 0, none⟩ = some (.int .u32 o.c) := block_cell HBo.out.2.1 rfl
      have z1 : W4.cell? ⟨bo, 1, none⟩ = some (.int .u32 o.n) := block_cell HBo.out.2.1 rfl
      have z2 : W4.cell? ⟨bo, 2, none⟩ = some (.int .u64 o.sp) := block_cell HBo.out.2.1 rfl
      have z3 : W4.cell? ⟨bo, 3, none⟩ = some (.int .u32 o.sl) := block_cell HBo.out.2.1 rfl
      have z4 : W4.cell? ⟨bo, 4, none⟩ = some (.int .u64 o.ap) := block_cell HBo.out.2.1 rfl
      have z5 : W4.cell? ⟨bo, 5, none⟩ = some (.int .u32 o.al) := block_cell HBo.out.2.1 rfl
      have z6 : W4.cell? ⟨bo, 6, none⟩ = some (.int .u8 o.pt) := block_cell HBo.out.2.1 rfl
      have z7 : W4.cell? ⟨bo, 7, none⟩ = some (.bool v.dn) := block_cell HBo.out.2.1 rfl
      have hq := run_nq37 { o with dn := v.dn } v
      dsimp only at hq
      generalize eqV { o with dn := v.dn } v = q at *
      cases q
      · go_wp2_with fail
        go_ret
        rw [HS.out]
        exact ⟨rfl, bo_same H4.out.bo H4.out.bel⟩
      · go_wp2_with fail
        go_ret
        rw [HS.out]
        exact ⟨rfl, bo_same H4.out.bo H4.out.bel⟩
set_option maxHeartbeats 400000 in
set_option maxRecDepth 100000 in
theorem set9_nil (v : Vd) (w : World) : Calls Try.prog 9 #[.pointer none, .agg #[.int .u32 v.c, .int .u32 v.n, .int .u64 v.sp, .int .u32 v.sl, .int .u64 v.ap, .int .u32 v.al, .int .u8 v.pt, .bool v.dn]] w fun e w' => e = .returned (.int .i64 1) ∧ Below w.heap.size w w' := by
  go_enter Try.func9, Try.ntmps9
  go_wp2_with fail
  go_ret
  exact ⟨rfl, al _⟩
end Go.Proofs.Ytkadaoebehgkbaa
