/-
  Verdicts in rows; the document's book in memory.
-/
import Derived.Test.YtkadaoebehgkbaaProg
import Derived.Test.YtkadaoebehgkbaaGr
import Derived.Test.YtkadaoebehgkbaaPlain
namespace Go.Proofs.Ytkadaoebehgkbaa
open Go.RowKit

def vdc (x : Vd) : List Value := [.int .u32 x.c, .int .u32 x.n, .int .u64 x.sp, .int .u32 x.sl, .int .u64 x.ap, .int .u32 x.al, .int .u8 x.pt, .bool x.dn]
def vdV (x : Vd) : Value := .agg #[.int .u32 x.c, .int .u32 x.n, .int .u64 x.sp, .int .u32 x.sl, .int .u64 x.ap, .int .u32 x.al, .int .u8 x.pt, .bool x.dn]
theorem vdc_len (x : Vd) : (vdc x).length = 8 := rfl
theorem vdc_one : ∀ x, ∀ u ∈ vdc x, u.oneCell' = true := fun x u hu => by
  simp only [vdc, List.mem_cons, List.not_mem_nil, or_false] at hu
  rcases hu with rfl | rfl | rfl | rfl | rfl | rfl | rfl | rfl <;> rfl
def dv : Vd := ⟨0, 0, 0, 0, 0, 0, 0, false⟩
/-- A verdict's eight cells. -/
structure VdAt (w : World) (b off : Nat) (x : Vd) : Prop where
  c0 : w.cell? ⟨b, off, none⟩ = some (.int .u32 x.c)
  c1 : w.cell? ⟨b, off + 1, none⟩ = some (.int .u32 x.n)
  c2 : w.cell? ⟨b, off + 2, none⟩ = some (.int .u64 x.sp)
  c3 : w.cell? ⟨b, off + 3, none⟩ = some (.int .u32 x.sl)
  c4 : w.cell? ⟨b, off + 4, none⟩ = some (.int .u64 x.ap)
  c5 : w.cell? ⟨b, off + 5, none⟩ = some (.int .u32 x.al)
  c6 : w.cell? ⟨b, off + 6, none⟩ = some (.int .u8 x.pt)
  c7 : w.cell? ⟨b, off + 7, none⟩ = some (.bool x.dn)
theorem VdAt.kept {w w' : World} {b off : Nat} {x : Vd} {F : Nat → Prop} (h : VdAt w b off x) (hk : Kept F w w') (hb : ¬ F b) : VdAt w' b off x := ⟨hk.cell h.c0 hb, hk.cell h.c1 hb, hk.cell h.c2 hb, hk.cell h.c3 hb, hk.cell h.c4 hb, hk.cell h.c5 hb, hk.cell h.c6 hb, hk.cell h.c7 hb⟩
theorem VdAt.on {w w' : World} {b off : Nat} {x : Vd} (h : VdAt w b off x) (hb : Below w.heap.size w w') : VdAt w' b off x := h.kept (F := fun _ => False) (Kept.of_below hb) (fun h => h)
/-- The verdicts K at the slice v. -/
def VsAt (B : Nat) (v : Value) (K : Bk) (w : World) : Prop := RwAt B 8 v K.length (rowC vdc K) w
theorem VsAt.el {B : Nat} {ao : Option Addr} {cap : Nat} {K : Bk} {w : World} (h : VsAt B (.slice ao K.length cap) K w) {i : Nat} (hi : i < K.length) : ∃ b off, ao = some ⟨b, off, none⟩ ∧ VdAt w b (off + i * 8) (K.getD i dv) := by
  obtain ⟨b, off, e, hc⟩ := rowC_el vdc_len dv (by omega) rfl h hi
  exact ⟨b, off, e, hc 0 _ (by omega) rfl, hc 1 _ (by omega) rfl, hc 2 _ (by omega) rfl, hc 3 _ (by omega) rfl, hc 4 _ (by omega) rfl, hc 5 _ (by omega) rfl, hc 6 _ (by omega) rfl, hc 7 _ (by omega) rfl⟩
theorem VsAt.shape {B : Nat} {v : Value} {K : Bk} {w : World} (h : VsAt B v K w) : ∃ ao cap, v = .slice ao K.length cap ∧ K.length ≤ cap ∧ cap ≤ 9223372036854775807 := by
  obtain ⟨ao, cap, e, _, h1, h2, _⟩ := h
  exact ⟨ao, cap, e, h1, h2⟩
/-- The document's book: its box rb holds the slice sl, whose row is its own. -/
structure RbAt (B rb : Nat) (sl : Value) (K : Bk) (w : World) : Prop where
  box : w.heap[rb]? = some (.cells #[sl] 29 (0, 0))
  row : w.ownsRow B 37 8 sl K.length (rowC vdc K)
  lo : B ≤ rb
  ne : sl.ownBlock ≠ some rb
  ok : SrtV K
def foot (rb : Nat) (sl : Value) : Nat → Prop := fun k => k = rb ∨ sl.ownBlock = some k
theorem RbAt.lt {B rb : Nat} {sl : Value} {K : Bk} {w : World} (h : RbAt B rb sl K w) {k : Nat} (hk : foot rb sl k) : B ≤ k ∧ k < w.heap.size := by
  rcases hk with rfl | hk
  · exact ⟨h.lo, (Array.getElem?_eq_some_iff.1 h.box).1⟩
  · exact World.ownsRow.lt h.row k hk
theorem RbAt.kept {B rb : Nat} {sl : Value} {K : Bk} {w w' : World} {F : Nat → Prop} (h : RbAt B rb sl K w) (hk : Kept F w w') (hF : ∀ k, foot rb sl k → ¬ F k) : RbAt B rb sl K w' :=
  ⟨by rw [hk.block rb (h.lt (.inl rfl)).2 (hF rb (.inl rfl))]; exact h.box, own_kept h.row hk (fun k e => hF k (.inr e)), h.lo, h.ne, h.ok⟩
theorem RbAt.on {B rb : Nat} {sl : Value} {K : Bk} {w w' : World} (h : RbAt B rb sl K w) (hb : Below w.heap.size w w') : RbAt B rb sl K w' := h.kept (F := fun _ => False) (Kept.of_below hb) (fun _ _ h => h)
theorem RbAt.is {B rb : Nat} {sl : Value} {K : Bk} {w : World} (h : RbAt B rb sl K w) : VsAt w.heap.size sl K w := rw_own h.row
theorem block_set {w : World} {b j : Nat} {cs : Array Value} {ty : TypeId} (u : Value) (h : w.heap[b]? = some (.cells cs ty (0, 0))) : (w.setCell ⟨b, j, none⟩ u).heap[b]? = some (.cells (cs.setIfInBounds j u) ty (0, 0)) := by
  show (w.heap.modify b _)[b]? = _
  rw [Array.getElem?_modify, if_pos rfl, h]
  rfl
theorem block_cell {w : World} {b j : Nat} {cs : Array Value} {ty : TypeId} {u : Value} (h : w.heap[b]? = some (.cells cs ty (0, 0))) (hj : cs[j]? = some u) : w.cell? ⟨b, j, none⟩ = some u := by
  unfold World.cell?
  rw [h]
  exact hj
theorem block_frozen {w : World} {b : Nat} {cs : Array Value} {ty : TypeId} (h : w.heap[b]? = some (.cells cs ty (0, 0))) (j : Nat) : w.frozen? ⟨b, j, none⟩ = false := by
  unfold World.frozen?
  rw [h]
  simp
theorem RbAt.cell {B rb : Nat} {sl : Value} {K : Bk} {w : World} (h : RbAt B rb sl K w) : w.cell? ⟨rb, 0, none⟩ = some sl := block_cell h.box rfl
theorem set_kept' (w : World) (b j : Nat) (u : Value) : Kept (fun c => c = b) w (w.setCell ⟨b, j, none⟩ u) := by
  have hb : Below b w (w.setCell ⟨b, j, none⟩ u) := (Below.refl b w).setCell (p := ⟨b, j, none⟩) (Nat.le_refl b) u
  exact ⟨hb.os, hb.tape, hb.output, hb.size, fun k _ hF => Below.heap_setCell w ⟨b, j, none⟩ u k hF⟩
theorem below_own {base e size : Nat} {v : Value} {n : Nat} {cs : List Value} {a w w' : World} (hb : Below base a w) (hs : base ≤ w.heap.size) (hI : w.ownsRow base e size v n cs) (hg : w.grownBy w' v.ownBlock) : Below base a w' :=
  hb.grown hg hs fun k hk => (World.ownsRow.lt hI k hk).1
theorem own_nil (base e size : Nat) (w : World) : w.ownsRow base e size (.slice none 0 0) 0 [] := World.ownsRow_nil w base e size
theorem below_of {a b : Nat} {w w' : World} (e : a = b) (h : Below a w w') : Below b w w' := e ▸ h
theorem size_al (w : World) (o : Obj) : (w.alloc o).heap.size = w.heap.size + 1 := by simp
theorem ret_bool {a b : Bool} (h : a = b) : Ending.returned (.bool a) = .returned (.bool b) := by rw [h]
/-- A verdict's box, written cell by cell. -/
theorem bx8 {W : World} {b : Nat} {a0 a1 a2 a3 a4 a5 a6 a7 : Value} (x : Vd) (h0 : W.heap[b]? = some (.cells #[a0, a1, a2, a3, a4, a5, a6, a7] 37 (0, 0))) : ((((((((W.setCell ⟨b, 0, none⟩ (.int .u32 x.c)).setCell ⟨b, 1, none⟩ (.int .u32 x.n)).setCell ⟨b, 2, none⟩ (.int .u64 x.sp)).setCell ⟨b, 3, none⟩ (.int .u32 x.sl)).setCell ⟨b, 4, none⟩ (.int .u64 x.ap)).setCell ⟨b, 5, none⟩ (.int .u32 x.al)).setCell ⟨b, 6, none⟩ (.int .u8 x.pt)).setCell ⟨b, 7, none⟩ (.bool x.dn)).heap[b]? = some (.cells #[.int .u32 x.c, .int .u32 x.n, .int .u64 x.sp, .int .u32 x.sl, .int .u64 x.ap, .int .u32 x.al, .int .u8 x.pt, .bool x.dn] 37 (0, 0)) := by
  have h1 : (W.setCell ⟨b, 0, none⟩ (.int .u32 x.c)).heap[b]? = some (.cells #[.int .u32 x.c, a1, a2, a3, a4, a5, a6, a7] 37 (0, 0)) := block_set _ h0
  generalize W.setCell ⟨b, 0, none⟩ (.int .u32 x.c) = W1 at *
  have h2 : (W1.setCell ⟨b, 1, none⟩ (.int .u32 x.n)).heap[b]? = some (.cells #[.int .u32 x.c, .int .u32 x.n, a2, a3, a4, a5, a6, a7] 37 (0, 0)) := block_set _ h1
  generalize W1.setCell ⟨b, 1, none⟩ (.int .u32 x.n) = W2 at *
  have h3 : (W2.setCell ⟨b, 2, none⟩ (.int .u64 x.sp)).heap[b]? = some (.cells #[.int .u32 x.c, .int .u32 x.n, .int .u64 x.sp, a3, a4, a5, a6, a7] 37 (0, 0)) := block_set _ h2
  generalize W2.setCell ⟨b, 2, none⟩ (.int .u64 x.sp) = W3 at *
  have h4 : (W3.setCell ⟨b, 3, none⟩ (.int .u32 x.sl)).heap[b]? = some (.cells #[.int .u32 x.c, .int .u32 x.n, .int .u64 x.sp, .int .u32 x.sl, a4, a5, a6, a7] 37 (0, 0)) := block_set _ h3
  generalize W3.setCell ⟨b, 3, none⟩ (.int .u32 x.sl) = W4 at *
  have h5 : (W4.setCell ⟨b, 4, none⟩ (.int .u64 x.ap)).heap[b]? = some (.cells #[.int .u32 x.c, .int .u32 x.n, .int .u64 x.sp, .int .u32 x.sl, .int .u64 x.ap, a5, a6, a7] 37 (0, 0)) := block_set _ h4
  generalize W4.setCell ⟨b, 4, none⟩ (.int .u64 x.ap) = W5 at *
  have h6 : (W5.setCell ⟨b, 5, none⟩ (.int .u32 x.al)).heap[b]? = some (.cells #[.int .u32 x.c, .int .u32 x.n, .int .u64 x.sp, .int .u32 x.sl, .int .u64 x.ap, .int .u32 x.al, a6, a7] 37 (0, 0)) := block_set _ h5
  generalize W5.setCell ⟨b, 5, none⟩ (.int .u32 x.al) = W6 at *
  have h7 : (W6.setCell ⟨b, 6, none⟩ (.int .u8 x.pt)).heap[b]? = some (.cells #[.int .u32 x.c, .int .u32 x.n, .int .u64 x.sp, .int .u32 x.sl, .int .u64 x.ap, .int .u32 x.al, .int .u8 x.pt, a7] 37 (0, 0)) := block_set _ h6
  generalize W6.setCell ⟨b, 6, none⟩ (.int .u8 x.pt) = W7 at *
  have h8 : (W7.setCell ⟨b, 7, none⟩ (.bool x.dn)).heap[b]? = some (.cells #[.int .u32 x.c, .int .u32 x.n, .int .u64 x.sp, .int .u32 x.sl, .int .u64 x.ap, .int .u32 x.al, .int .u8 x.pt, .bool x.dn] 37 (0, 0)) := block_set _ h7
  exact h8
theorem bx8_below {B b : Nat} {w W : World} (x : Vd) (h : Below B w W) (hb : B ≤ b) : Below B w ((((((((W.setCell ⟨b, 0, none⟩ (.int .u32 x.c)).setCell ⟨b, 1, none⟩ (.int .u32 x.n)).setCell ⟨b, 2, none⟩ (.int .u64 x.sp)).setCell ⟨b, 3, none⟩ (.int .u32 x.sl)).setCell ⟨b, 4, none⟩ (.int .u64 x.ap)).setCell ⟨b, 5, none⟩ (.int .u32 x.al)).setCell ⟨b, 6, none⟩ (.int .u8 x.pt)).setCell ⟨b, 7, none⟩ (.bool x.dn)) := ((((((((h.setCell (p := ⟨b, 0, none⟩) hb _).setCell (p := ⟨b, 1, none⟩) hb _).setCell (p := ⟨b, 2, none⟩) hb _).setCell (p := ⟨b, 3, none⟩) hb _).setCell (p := ⟨b, 4, none⟩) hb _).setCell (p := ⟨b, 5, none⟩) hb _).setCell (p := ⟨b, 6, none⟩) hb _).setCell (p := ⟨b, 7, none⟩) hb _)
theorem info37 : (Try.prog.info? 37).map (fun i => (i.zero, i.size, i.bytes)) = some (some (.agg #[.int .u32 0, .int .u32 0, .int .u64 0, .int .u32 0, .int .u64 0, .int .u32 0, .int .u8 0, .bool false]), 8, 48) := by kernel_rfl
theorem run_eql32 (p l q m : Int) (w : World) : (binOp .eql 32 (.agg #[.int .u32 p, .int .u32 l]) (.agg #[.int .u32 q, .int .u32 m])).run Try.prog w = .ok (.bool (p == q && l == m)) w := by
  by_cases h : p = q <;> by_cases h2 : l = m <;> simp [go_sem, h, h2]
theorem run_neq35 (p l q m : Int) (w : World) : (binOp .neq 35 (.agg #[.int .u64 p, .int .u32 l]) (.agg #[.int .u64 q, .int .u32 m])).run Try.prog w = .ok (.bool (!(p == q && l == m))) w := by
  by_cases h : p = q <;> by_cases h2 : l = m <;> simp [go_sem, h, h2]
theorem run_eql35 (p l q m : Int) (w : World) : (binOp .eql 35 (.agg #[.int .u64 p, .int .u32 l]) (.agg #[.int .u64 q, .int .u32 m])).run Try.prog w = .ok (.bool (p == q && l == m)) w := by
  by_cases h : p = q <;> by_cases h2 : l = m <;> simp [go_sem, h, h2]
set_option maxHeartbeats 1600000 in
theorem run_eql37 (x y : Vd) (w : World) : (binOp .eql 37 (.agg #[.int .u32 x.c, .int .u32 x.n, .int .u64 x.sp, .int .u32 x.sl, .int .u64 x.ap, .int .u32 x.al, .int .u8 x.pt, .bool x.dn]) (.agg #[.int .u32 y.c, .int .u32 y.n, .int .u64 y.sp, .int .u32 y.sl, .int .u64 y.ap, .int .u32 y.al, .int .u8 y.pt, .bool y.dn])).run Try.prog w = .ok (.bool (eqV x y)) w := by
  obtain ⟨c, n, sp, sl, ap, al, pt, dn⟩ := x
  obtain ⟨c', n', sp', sl', ap', al', pt', dn'⟩ := y
  simp only [eqV]
  simp [go_sem]
  repeat' split
  all_goals simp_all
end Go.Proofs.Ytkadaoebehgkbaa
