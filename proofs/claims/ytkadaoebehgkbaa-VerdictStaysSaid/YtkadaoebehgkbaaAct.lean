/-
  Acts in memory; VerdictNothing.
-/
import Derived.Test.YtkadaoebehgkbaaAwk
namespace Go.Proofs.Ytkadaoebehgkbaa
open Go.RowKit
variable {BA : Nat → Nat → (Nat → Prop) → Bk → World → Prop}

/-- An act; ka, kc: where those that are kept lie. -/
structure Ac where
  what : Int
  v : Vd
  sp : Int
  sl : Int
  keep : List (Int × Int)
  ka : Option Addr
  kc : Nat
def acc (a : Ac) : List Value := [.int .i64 a.what, .int .u32 a.v.c, .int .u32 a.v.n, .int .u64 a.v.sp, .int .u32 a.v.sl, .int .u64 a.v.ap, .int .u32 a.v.al, .int .u8 a.v.pt, .bool a.v.dn, .int .u64 a.sp, .int .u32 a.sl, .slice a.ka a.keep.length a.kc]
theorem acc_len (a : Ac) : (acc a).length = 12 := rfl
def da : Ac := ⟨0, dv, 0, 0, [], none, 0⟩
/-- An act's slice lies below B. -/
structure AcOk (B : Nat) (a : Ac) (w : World) : Prop where
  ts : TsAt B (.slice a.ka a.keep.length a.kc) a.keep w
  rg : RgV a.v
  sf : R64 a.sp ∧ R32 a.sl
  rk : RgT a.keep
  len : (a.keep.length + 1) * 8 ≤ 140737488355328
theorem AcOk.on {B : Nat} {a : Ac} {w w' : World} (h : AcOk B a w) (hb : Below B w w') : AcOk B a w' := ⟨RwAt.on h.ts hb, h.rg, h.sf, h.rk, h.len⟩
def AcsAt (B : Nat) (v : Value) (A : List Ac) (w : World) : Prop := RwAt B 12 v A.length (rowC acc A) w ∧ ∀ a ∈ A, AcOk B a w
theorem AcsAt.on {B : Nat} {v : Value} {A : List Ac} {w w' : World} (h : AcsAt B v A w) (hb : Below B w w') : AcsAt B v A w' := ⟨RwAt.on h.1 hb, fun a ha => (h.2 a ha).on hb⟩
theorem AcsAt.shape {B : Nat} {v : Value} {A : List Ac} {w : World} (h : AcsAt B v A w) : ∃ ao cap, v = .slice ao A.length cap ∧ A.length ≤ cap ∧ cap ≤ 9223372036854775807 := by
  obtain ⟨ao, cap, e, _, h1, h2, _⟩ := h.1
  exact ⟨ao, cap, e, h1, h2⟩
/-- An act's twelve cells. -/
structure AcAt (w : World) (b off : Nat) (a : Ac) : Prop where
  c0 : w.cell? ⟨b, off, none⟩ = some (.int .i64 a.what)
  c1 : w.cell? ⟨b, off + 1, none⟩ = some (.int .u32 a.v.c)
  c2 : w.cell? ⟨b, off + 2, none⟩ = some (.int .u32 a.v.n)
  c3 : w.cell? ⟨b, off + 3, none⟩ = some (.int .u64 a.v.sp)
  c4 : w.cell? ⟨b, off + 4, none⟩ = some (.int .u32 a.v.sl)
  c5 : w.cell? ⟨b, off + 5, none⟩ = some (.int .u64 a.v.ap)
  c6 : w.cell? ⟨b, off + 6, none⟩ = some (.int .u32 a.v.al)
  c7 : w.cell? ⟨b, off + 7, none⟩ = some (.int .u8 a.v.pt)
  c8 : w.cell? ⟨b, off + 8, none⟩ = some (.bool a.v.dn)
  c9 : w.cell? ⟨b, off + 9, none⟩ = some (.int .u64 a.sp)
  c10 : w.cell? ⟨b, off + 10, none⟩ = some (.int .u32 a.sl)
  c11 : w.cell? ⟨b, off + 11, none⟩ = some (.slice a.ka a.keep.length a.kc)
theorem AcsAt.el {B : Nat} {ao : Option Addr} {cap : Nat} {A : List Ac} {w : World} (h : AcsAt B (.slice ao A.length cap) A w) {i : Nat} (hi : i < A.length) : ∃ b off, ao = some ⟨b, off, none⟩ ∧ AcAt w b (off + i * 12) (A.getD i da) := by
  obtain ⟨b, off, e, hc⟩ := rowC_el acc_len da (by omega) rfl h.1 hi
  exact ⟨b, off, e, hc 0 _ (by omega) rfl, hc 1 _ (by omega) rfl, hc 2 _ (by omega) rfl, hc 3 _ (by omega) rfl, hc 4 _ (by omega) rfl, hc 5 _ (by omega) rfl, hc 6 _ (by omega) rfl, hc 7 _ (by omega) rfl, hc 8 _ (by omega) rfl, hc 9 _ (by omega) rfl, hc 10 _ (by omega) rfl, hc 11 _ (by omega) rfl⟩
theorem getD_memA {A : List Ac} {i : Nat} (h : i < A.length) : A.getD i da ∈ A := by
  rw [List.getD, List.getElem?_eq_getElem h]
  exact List.getElem_mem h
/-- An act in a box. -/
def abx (a : Ac) : Obj := .cells #[.int .i64 a.what, .int .u32 a.v.c, .int .u32 a.v.n, .int .u64 a.v.sp, .int .u32 a.v.sl, .int .u64 a.v.ap, .int .u32 a.v.al, .int .u8 a.v.pt, .bool a.v.dn, .int .u64 a.sp, .int .u32 a.sl, .slice a.ka a.keep.length a.kc] 40 (0, 0)
theorem ac_box {w : World} {bx : Nat} {a : Ac} (h : w.heap[bx]? = some (abx a)) : AcAt w bx 0 a := ⟨block_cell h rfl, block_cell h rfl, block_cell h rfl, block_cell h rfl, block_cell h rfl, block_cell h rfl, block_cell h rfl, block_cell h rfl, block_cell h rfl, block_cell h rfl, block_cell h rfl, block_cell h rfl⟩
def zbx : Obj := .cells #[.int .u32 0, .int .u32 0, .int .u64 0, .int .u32 0, .int .u64 0, .int .u32 0, .int .u8 0, .bool false] 37 (0, 0)
/-- VerdictNothing's boxes. -/
structure Nb (w : World) (bx c1 : Nat) (a : Ac) (W : World) : Prop where
  b0 : W.heap[bx]? = some (abx a)
  b1 : W.heap[c1]? = some zbx
  bel : Below w.heap.size w W
theorem Nb.on {w W W' : World} {bx c1 : Nat} {a : Ac} (h : Nb w bx c1 a W) (hb : Below W.heap.size W W') : Nb w bx c1 a W' :=
  ⟨by rw [hb.block _ (Array.getElem?_eq_some_iff.1 h.b0).1]; exact h.b0, by rw [hb.block _ (Array.getElem?_eq_some_iff.1 h.b1).1]; exact h.b1, h.bel.trans (hb.mono h.bel.size)⟩
/-- The cells that the last row reads. -/
def Nc (bx c1 : Nat) (a : Ac) (W : World) : Prop := W.cell? ⟨bx, 1, none⟩ = some (.int .u32 a.v.c) ∧ W.cell? ⟨bx, 2, none⟩ = some (.int .u32 a.v.n) ∧ W.cell? ⟨bx, 3, none⟩ = some (.int .u64 a.v.sp) ∧ W.cell? ⟨bx, 4, none⟩ = some (.int .u32 a.v.sl) ∧ W.cell? ⟨bx, 5, none⟩ = some (.int .u64 a.v.ap) ∧ W.cell? ⟨bx, 6, none⟩ = some (.int .u32 a.v.al) ∧ W.cell? ⟨bx, 7, none⟩ = some (.int .u8 a.v.pt) ∧ W.cell? ⟨bx, 8, none⟩ = some (.bool a.v.dn) ∧ W.cell? ⟨bx, 9, none⟩ = some (.int .u64 a.sp) ∧ W.cell? ⟨bx, 10, none⟩ = some (.int .u32 a.sl) ∧ W.cell? ⟨bx, 11, none⟩ = some (.slice a.ka a.keep.length a.kc) ∧ W.cell? ⟨c1, 0, none⟩ = some (.int .u32 0) ∧ W.cell? ⟨c1, 1, none⟩ = some (.int .u32 0) ∧ W.cell? ⟨c1, 2, none⟩ = some (.int .u64 0) ∧ W.cell? ⟨c1, 3, none⟩ = some (.int .u32 0) ∧ W.cell? ⟨c1, 4, none⟩ = some (.int .u64 0) ∧ W.cell? ⟨c1, 5, none⟩ = some (.int .u32 0) ∧ W.cell? ⟨c1, 6, none⟩ = some (.int .u8 0) ∧ W.cell? ⟨c1, 7, none⟩ = some (.bool false)
theorem Nb.nc {w W : World} {bx c1 : Nat} {a : Ac} (h : Nb w bx c1 a W) : Nc bx c1 a W :=
  ⟨block_cell h.b0 rfl, block_cell h.b0 rfl, block_cell h.b0 rfl, block_cell h.b0 rfl, block_cell h.b0 rfl, block_cell h.b0 rfl, block_cell h.b0 rfl, block_cell h.b0 rfl, block_cell h.b0 rfl, block_cell h.b0 rfl, block_cell h.b0 rfl, block_cell h.b1 rfl, block_cell h.b1 rfl, block_cell h.b1 rfl, block_cell h.b1 rfl, block_cell h.b1 rfl, block_cell h.b1 rfl, block_cell h.b1 rfl, block_cell h.b1 rfl⟩
theorem run_eql37z (w : World) : (binOp .eql 37 (.agg #[.int .u32 0, .int .u32 0, .int .u64 0, .int .u32 0, .int .u64 0, .int .u32 0, .int .u8 0, .bool false]) (.agg #[.int .u32 0, .int .u32 0, .int .u64 0, .int .u32 0, .int .u64 0, .int .u32 0, .int .u8 0, .bool false])).run Try.prog w = .ok (.bool true) w := by
  simp [go_sem]

set_option maxHeartbeats 3200000 in
set_option maxRecDepth 100000 in
theorem nothing5 (I : Ifv BA) (B : Nat) (a : Ac) (w : World) (ha : AcOk B a w) (hB : B ≤ w.heap.size) : Calls Try.prog 5 #[.agg #[.int .i64 a.what, .int .u32 a.v.c, .int .u32 a.v.n, .int .u64 a.v.sp, .int .u32 a.v.sl, .int .u64 a.v.ap, .int .u32 a.v.al, .int .u8 a.v.pt, .bool a.v.dn, .int .u64 a.sp, .int .u32 a.sl, .slice a.ka a.keep.length a.kc]] w fun e w' => e = .returned (.bool true) ∧ Below w.heap.size w w' := by
  have CA : Hid (∀ W : World, 1 = 1 → Calls Try.prog 7 #[] W fun e w' => e = .returned (.bool true) ∧ Below W.heap.size W w') := fun W _ => awake7 I W
  have C0 : Hid (∀ W : World, 1 = 1 → Calls Try.prog 15 #[.pointer none, .agg #[.int .u32 a.v.c, .int .u32 a.v.n]] W fun e w' => e = .returned (.tuple #[.agg #[.int .u32 0, .int .u32 0, .int .u64 0, .int .u32 0, .int .u64 0, .int .u32 0, .int .u8 0, .bool false], .bool false]) ∧ Below W.heap.size W w') := fun W _ => I.of0 a.v.c a.v.n W ⟨ha.rg.c, ha.rg.n⟩
  have C1 : Hid (∀ W : World, 1 = 1 → Calls Try.prog 9 #[.pointer none, .agg #[.int .u32 a.v.c, .int .u32 a.v.n, .int .u64 a.v.sp, .int .u32 a.v.sl, .int .u64 a.v.ap, .int .u32 a.v.al, .int .u8 a.v.pt, .bool a.v.dn]] W fun e w' => e = .returned (.int .i64 1) ∧ Below W.heap.size W w') := fun W _ => I.set0 a.v W ha.rg
  have C2 : Hid (∀ W : World, 1 = 1 → Calls Try.prog 11 #[.pointer none, .agg #[.int .u32 a.v.c, .int .u32 a.v.n]] W fun e w' => e = .returned (.bool false) ∧ Below W.heap.size W w') := fun W _ => I.done0 a.v.c a.v.n W ⟨ha.rg.c, ha.rg.n⟩
  have C3 : Hid (∀ W : World, Below w.heap.size w W → Calls Try.prog 13 #[.pointer none, .agg #[.int .u64 a.sp, .int .u32 a.sl], .slice a.ka a.keep.length a.kc] W fun e w' => e = .returned (.int .i64 0) ∧ Below W.heap.size W w') := fun W hW => I.retire0 a.sp a.sl a.keep _ W ha.sf ha.rk (by have := ha.len; omega) ((RwAt.on ha.ts (hW.mono hB)).le (Nat.le_trans hB hW.size))
  have C4 : Hid (∀ W : World, 1 = 1 → Calls Try.prog 18 #[.pointer none] W fun e w' => ∃ ao cap, e = .returned (.slice ao 0 cap) ∧ Below W.heap.size W w') := fun W _ => I.all0 W
  have HX : Hid ((w.alloc (abx a)).heap[w.heap.size]? = some (abx a) ∧ Below w.heap.size w (w.alloc (abx a))) := ⟨heap_alloc_new w _, al _⟩
  have hq := run_eql37z
  clear ha hB
  simp only [abx] at HX
  go_enter Try.func5, Try.ntmps5
  go_wp2_with fail
  refine (CA.out _ (by trivial)).mono ?_
  rintro e w1 ⟨rfl, hb⟩
  have H1 : Hid (w1.heap[w.heap.size]? = some (abx a) ∧ Below w.heap.size w w1) := ⟨by rw [hb.block w.heap.size (by simp)]; exact HX.out.1, HX.out.2.trans (hb.mono HX.out.2.size)⟩
  clear hb HX
  obtain ⟨bx, hbx⟩ : ∃ bx, w.heap.size = bx := ⟨_, rfl⟩
  have HBX : Hid (w.heap.size = bx) := hbx
  rw [hbx] at H1 ⊢
  clear hbx
  obtain ⟨x0, x1, x2, x3, x4, x5, x6, x7, x8, x9, x10, x11⟩ := ac_box H1.out.1
  simp only [Nat.zero_add] at x0 x1 x2 x3 x4 x5 x6 x7 x8 x9 x10 x11
  go_wp2_with fail
  refine (C0.out _ (by trivial)).mono ?_
  rintro e w2 ⟨rfl, hb⟩
  have H2 : Hid (Nb w bx w2.heap.size a (w2.alloc zbx)) := by
    have h1 : w2.heap[bx]? = some (abx a) := by rw [hb.block bx (Array.getElem?_eq_some_iff.1 H1.out.1).1]; exact H1.out.1
    have h0 : Below w.heap.size w w1 := by rw [HBX.out]; exact H1.out.2
    have h2 : Below w.heap.size w w2 := h0.trans (hb.mono h0.size)
    exact ⟨by rw [(al (W := w2) zbx).block bx (Array.getElem?_eq_some_iff.1 h1).1]; exact h1, heap_alloc_new w2 _, h2.alloc h2.size _⟩
  clear hb H1 x0 x1 x2 x3 x4 x5 x6 x7 x8 x9 x10 x11
  simp only [zbx] at H2
  obtain ⟨x1, x2, x3, x4, x5, x6, x7, x8, x9, x10, x11, y0, y1, y2, y3, y4, y5, y6, y7⟩ := H2.out.nc
  go_wp2_with fail
  obtain ⟨W2, hW2⟩ : ∃ W2, w2.alloc (.cells #[.int .u32 0, .int .u32 0, .int .u64 0, .int .u32 0, .int .u64 0, .int .u32 0, .int .u8 0, .bool false] 37) = W2 := ⟨_, rfl⟩
  rw [hW2] at H2 ⊢
  clear hW2 x1 x2 x3 x4 x5 x6 x7 x8 x9 x10 x11 y0 y1 y2 y3 y4 y5 y6 y7
  obtain ⟨c1, hc1⟩ : ∃ c1, w2.heap.size = c1 := ⟨_, rfl⟩
  rw [hc1] at H2 ⊢
  clear hc1
  refine (C1.out _ (by trivial)).mono ?_
  rintro e w3 ⟨rfl, hb⟩
  have H3 : Hid (Nb w bx c1 a w3) := H2.out.on hb
  clear hb H2
  obtain ⟨x1, x2, x3, x4, x5, x6, x7, x8, x9, x10, x11, y0, y1, y2, y3, y4, y5, y6, y7⟩ := H3.out.nc
  go_wp2_with fail
  refine (C2.out _ (by trivial)).mono ?_
  rintro e w4 ⟨rfl, hb⟩
  have H4 : Hid (Nb w bx c1 a w4) := H3.out.on hb
  clear hb H3 x1 x2 x3 x4 x5 x6 x7 x8 x9 x10 x11 y0 y1 y2 y3 y4 y5 y6 y7
  obtain ⟨x1, x2, x3, x4, x5, x6, x7, x8, x9, x10, x11, y0, y1, y2, y3, y4, y5, y6, y7⟩ := H4.out.nc
  go_wp2_with fail
  refine (C3.out _ H4.out.bel).mono ?_
  rintro e w5 ⟨rfl, hb⟩
  have H5 : Hid (Nb w bx c1 a w5) := H4.out.on hb
  clear hb H4 x1 x2 x3 x4 x5 x6 x7 x8 x9 x10 x11 y0 y1 y2 y3 y4 y5 y6 y7
  obtain ⟨x1, x2, x3, x4, x5, x6, x7, x8, x9, x10, x11, y0, y1, y2, y3, y4, y5, y6, y7⟩ := H5.out.nc
  go_wp2_with fail
  refine (C4.out _ (by trivial)).mono ?_
  rintro e w6 ⟨a6, p6, rfl, hb⟩
  have H6 : Hid (Nb w bx c1 a w6) := H5.out.on hb
  clear hb H5 x1 x2 x3 x4 x5 x6 x7 x8 x9 x10 x11 y0 y1 y2 y3 y4 y5 y6 y7
  go_wp2_with fail
  go_ret
  exact ⟨rfl, H6.out.bel⟩
end Go.Proofs.Ytkadaoebehgkbaa
