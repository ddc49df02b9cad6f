/-
  Acts in memory; LatchNothing.
-/
import Derived.Test.YtknfkpnicjellaaAwk
namespace Go.Proofs.Ytknfkpnicjellaa
open Go.RowKit
variable {TA : Nat → Nat → (Nat → Prop) → Tb → World → Prop}

/-- An act; wv, bv: the slices of its writes and of those passed over. -/
structure Ac where
  what : Int
  c : Int
  n : Int
  sp : Int
  sl : Int
  mp : Int
  ml : Int
  prim : List UInt8
  ws : List Wr
  wa : Option Addr
  wc : Nat
  lo : List UInt8
  hi : List UInt8
  but : List (Int × Int)
  ba : Option Addr
  bc : Nat
def acc (a : Ac) : List Value := [.int .i64 a.what, .int .u32 a.c, .int .u32 a.n, .int .u64 a.sp, .int .u32 a.sl, .int .u64 a.mp, .int .u32 a.ml, .string (bs a.prim), .slice a.wa a.ws.length a.wc, .string (bs a.lo), .string (bs a.hi), .slice a.ba a.but.length a.bc]
theorem acc_len (a : Ac) : (acc a).length = 12 := rfl
def da : Ac := ⟨0, 0, 0, 0, 0, 0, 0, [], [], none, 0, [], [], [], none, 0⟩
/-- An act's slices lie below B. -/
structure AcOk (B : Nat) (a : Ac) (w : World) : Prop where
  ws : WsAt B (.slice a.wa a.ws.length a.wc) a.ws w
  ts : TsAt B (.slice a.ba a.but.length a.bc) a.but w
  st : 0 ≤ a.mp ∧ 0 ≤ a.ml
theorem AcOk.on {B : Nat} {a : Ac} {w w' : World} (h : AcOk B a w) (hb : Below B w w') : AcOk B a w' := ⟨h.ws.on hb, RwAt.on h.ts hb, h.st⟩
def AcsAt (B : Nat) (v : Value) (A : List Ac) (w : World) : Prop := RwAt B 12 v A.length (rowC acc A) w ∧ ∀ a ∈ A, AcOk B a w
theorem AcsAt.on {B : Nat} {v : Value} {A : List Ac} {w w' : World} (h : AcsAt B v A w) (hb : Below B w w') : AcsAt B v A w' := ⟨RwAt.on h.1 hb, fun a ha => (h.2 a ha).on hb⟩
theorem AcsAt.shape {B : Nat} {v : Value} {A : List Ac} {w : World} (h : AcsAt B v A w) : ∃ ao cap, v = .slice ao A.length cap ∧ A.length ≤ cap ∧ cap ≤ 9223372036854775807 := by
  obtain ⟨ao, cap, e, _, h1, h2, _⟩ := h.1
  exact ⟨ao, cap, e, h1, h2⟩
/-- An act's twelve cells. -/
structure AcAt (w : World) (b off : Nat) (a : Ac) : Prop where
  c0 : w.cell? ⟨b, off, none⟩ = some (.int .i64 a.what)
  c1 : w.cell? ⟨b, off + 1, none⟩ = some (.int .u32 a.c)
  c2 : w.cell? ⟨b, off + 2, none⟩ = some (.int .u32 a.n)
  c3 : w.cell? ⟨b, off + 3, none⟩ = some (.int .u64 a.sp)
  c4 : w.cell? ⟨b, off + 4, none⟩ = some (.int .u32 a.sl)
  c5 : w.cell? ⟨b, off + 5, none⟩ = some (.int .u64 a.mp)
  c6 : w.cell? ⟨b, off + 6, none⟩ = some (.int .u32 a.ml)
  c7 : w.cell? ⟨b, off + 7, none⟩ = some (.string (bs a.prim))
  c8 : w.cell? ⟨b, off + 8, none⟩ = some (.slice a.wa a.ws.length a.wc)
  c9 : w.cell? ⟨b, off + 9, none⟩ = some (.string (bs a.lo))
  c10 : w.cell? ⟨b, off + 10, none⟩ = some (.string (bs a.hi))
  c11 : w.cell? ⟨b, off + 11, none⟩ = some (.slice a.ba a.but.length a.bc)
theorem AcsAt.el {B : Nat} {ao : Option Addr} {cap : Nat} {A : List Ac} {w : World} (h : AcsAt B (.slice ao A.length cap) A w) {i : Nat} (hi : i < A.length) : ∃ b off, ao = some ⟨b, off, none⟩ ∧ AcAt w b (off + i * 12) (A.getD i da) := by
  obtain ⟨b, off, e, hc⟩ := rowC_el acc_len da (by omega) rfl h.1 hi
  exact ⟨b, off, e, hc 0 _ (by omega) rfl, hc 1 _ (by omega) rfl, hc 2 _ (by omega) rfl, hc 3 _ (by omega) rfl, hc 4 _ (by omega) rfl, hc 5 _ (by omega) rfl, hc 6 _ (by omega) rfl, hc 7 _ (by omega) rfl, hc 8 _ (by omega) rfl, hc 9 _ (by omega) rfl, hc 10 _ (by omega) rfl, hc 11 _ (by omega) rfl⟩
theorem getD_memA {A : List Ac} {i : Nat} (h : i < A.length) : A.getD i da ∈ A := by
  rw [List.getD, List.getElem?_eq_getElem h]
  exact List.getElem_mem h
/-- An act in a box. -/
def abx (a : Ac) : Obj := .cells #[.int .i64 a.what, .int .u32 a.c, .int .u32 a.n, .int .u64 a.sp, .int .u32 a.sl, .int .u64 a.mp, .int .u32 a.ml, .string (bs a.prim), .slice a.wa a.ws.length a.wc, .string (bs a.lo), .string (bs a.hi), .slice a.ba a.but.length a.bc] 39 (0, 0)
theorem ac_box {w : World} {bx : Nat} {a : Ac} (h : w.heap[bx]? = some (abx a)) : AcAt w bx 0 a := ⟨block_cell h rfl, block_cell h rfl, block_cell h rfl, block_cell h rfl, block_cell h rfl, block_cell h rfl, block_cell h rfl, block_cell h rfl, block_cell h rfl, block_cell h rfl, block_cell h rfl, block_cell h rfl⟩
def zbx : Obj := .cells #[.int .u32 0, .int .u32 0, .int .u64 0, .int .u32 0, .int .u64 0, .int .u32 0, .string ⟨#[]⟩, .string ⟨#[]⟩, .string ⟨#[]⟩, .bool false] 49 (0, 0)
/-- LatchNothing's boxes. -/
structure Nb (w : World) (bx c1 c2 : Nat) (a : Ac) (W : World) : Prop where
  b0 : W.heap[bx]? = some (abx a)
  b1 : W.heap[c1]? = some zbx
  b2 : W.heap[c2]? = some zbx
  bel : Below w.heap.size w W
theorem Nb.on {w W W' : World} {bx c1 c2 : Nat} {a : Ac} (h : Nb w bx c1 c2 a W) (hb : Below W.heap.size W W') : Nb w bx c1 c2 a W' :=
  ⟨by rw [hb.block _ (Array.getElem?_eq_some_iff.1 h.b0).1]; exact h.b0, by rw [hb.block _ (Array.getElem?_eq_some_iff.1 h.b1).1]; exact h.b1, by rw [hb.block _ (Array.getElem?_eq_some_iff.1 h.b2).1]; exact h.b2, h.bel.trans (hb.mono h.bel.size)⟩
/-- The cells that the last row reads. -/
def Nc (bx c1 c2 : Nat) (a : Ac) (W : World) : Prop :=
  W.cell? ⟨bx, 1, none⟩ = some (.int .u32 a.c) ∧ W.cell? ⟨bx, 2, none⟩ = some (.int .u32 a.n) ∧ W.cell? ⟨bx, 3, none⟩ = some (.int .u64 a.sp) ∧ W.cell? ⟨bx, 4, none⟩ = some (.int .u32 a.sl) ∧ W.cell? ⟨bx, 5, none⟩ = some (.int .u64 a.mp) ∧ W.cell? ⟨bx, 6, none⟩ = some (.int .u32 a.ml) ∧ W.cell? ⟨bx, 7, none⟩ = some (.string (bs a.prim)) ∧ W.cell? ⟨bx, 8, none⟩ = some (.slice a.wa a.ws.length a.wc) ∧
  W.cell? ⟨c1, 0, none⟩ = some (.int .u32 0) ∧ W.cell? ⟨c1, 1, none⟩ = some (.int .u32 0) ∧ W.cell? ⟨c1, 2, none⟩ = some (.int .u64 0) ∧ W.cell? ⟨c1, 3, none⟩ = some (.int .u32 0) ∧ W.cell? ⟨c1, 4, none⟩ = some (.int .u64 0) ∧ W.cell? ⟨c1, 5, none⟩ = some (.int .u32 0) ∧ W.cell? ⟨c1, 6, none⟩ = some (.string ⟨#[]⟩) ∧ W.cell? ⟨c1, 7, none⟩ = some (.string ⟨#[]⟩) ∧ W.cell? ⟨c1, 8, none⟩ = some (.string ⟨#[]⟩) ∧ W.cell? ⟨c1, 9, none⟩ = some (.bool false) ∧
  W.cell? ⟨c2, 0, none⟩ = some (.int .u32 0) ∧ W.cell? ⟨c2, 1, none⟩ = some (.int .u32 0) ∧ W.cell? ⟨c2, 2, none⟩ = some (.int .u64 0) ∧ W.cell? ⟨c2, 3, none⟩ = some (.int .u32 0) ∧ W.cell? ⟨c2, 4, none⟩ = some (.int .u64 0) ∧ W.cell? ⟨c2, 5, none⟩ = some (.int .u32 0) ∧ W.cell? ⟨c2, 6, none⟩ = some (.string ⟨#[]⟩) ∧ W.cell? ⟨c2, 7, none⟩ = some (.string ⟨#[]⟩) ∧ W.cell? ⟨c2, 8, none⟩ = some (.string ⟨#[]⟩) ∧ W.cell? ⟨c2, 9, none⟩ = some (.bool false)
theorem Nb.nc {w W : World} {bx c1 c2 : Nat} {a : Ac} (h : Nb w bx c1 c2 a W) : Nc bx c1 c2 a W :=
  ⟨block_cell h.b0 rfl, block_cell h.b0 rfl, block_cell h.b0 rfl, block_cell h.b0 rfl, block_cell h.b0 rfl, block_cell h.b0 rfl, block_cell h.b0 rfl, block_cell h.b0 rfl, block_cell h.b1 rfl, block_cell h.b1 rfl, block_cell h.b1 rfl, block_cell h.b1 rfl, block_cell h.b1 rfl, block_cell h.b1 rfl, block_cell h.b1 rfl, block_cell h.b1 rfl, block_cell h.b1 rfl, block_cell h.b1 rfl, block_cell h.b2 rfl, block_cell h.b2 rfl, block_cell h.b2 rfl, block_cell h.b2 rfl, block_cell h.b2 rfl, block_cell h.b2 rfl, block_cell h.b2 rfl, block_cell h.b2 rfl, block_cell h.b2 rfl, block_cell h.b2 rfl⟩
theorem run_eql49z (w : World) : (binOp .eql 49 (.agg #[.int .u32 0, .int .u32 0, .int .u64 0, .int .u32 0, .int .u64 0, .int .u32 0, .string ⟨#[]⟩, .string ⟨#[]⟩, .string ⟨#[]⟩, .bool false]) (.agg #[.int .u32 0, .int .u32 0, .int .u64 0, .int .u32 0, .int .u64 0, .int .u32 0, .string ⟨#[]⟩, .string ⟨#[]⟩, .string ⟨#[]⟩, .bool false])).run Try.prog w = .ok (.bool true) w := by
  simp [go_sem]

set_option maxHeartbeats 3200000 in
set_option maxRecDepth 100000 in
theorem nothing5 (I : Ifl TA) (B : Nat) (a : Ac) (w : World) (ha : AcOk B a w) (hB : B ≤ w.heap.size) : Calls Try.prog 5 #[.agg #[.int .i64 a.what, .int .u32 a.c, .int .u32 a.n, .int .u64 a.sp, .int .u32 a.sl, .int .u64 a.mp, .int .u32 a.ml, .string (bs a.prim), .slice a.wa a.ws.length a.wc, .string (bs a.lo), .string (bs a.hi), .slice a.ba a.but.length a.bc]] w fun e w' => e = .returned (.bool true) ∧ Below w.heap.size w w' := by
  have CA : Hid (∀ W : World, 1 = 1 → Calls Try.prog 8 #[] W fun e w' => e = .returned (.bool true) ∧ Below W.heap.size W w') := fun W _ => awake8 I W
  have C0 : Hid (∀ W, Below w.heap.size w W → Calls Try.prog 17 #[.pointer none, .string (bs a.lo), .string (bs a.hi), .agg #[.int .u64 a.mp, .int .u32 a.ml], .slice a.ba a.but.length a.bc] W fun e w' => e = .returned (.tuple #[.agg #[.int .u32 0, .int .u32 0, .int .u64 0, .int .u32 0, .int .u64 0, .int .u32 0, .string ⟨#[]⟩, .string ⟨#[]⟩, .string ⟨#[]⟩, .bool false], .bool false]) ∧ Below W.heap.size W w') := fun W hW => I.first0 a.lo a.hi a.mp a.ml B a.but _ W (RwAt.on ha.ts (hW.mono hB)) (Nat.le_trans hB hW.size)
  have C1 : Hid (∀ W : World, 1 = 1 → Calls Try.prog 19 #[.pointer none, .string (bs a.lo)] W fun e w' => e = .returned (.tuple #[.agg #[.int .u32 0, .int .u32 0, .int .u64 0, .int .u32 0, .int .u64 0, .int .u32 0, .string ⟨#[]⟩, .string ⟨#[]⟩, .string ⟨#[]⟩, .bool false], .bool false]) ∧ Below W.heap.size W w') := fun W _ => I.of0 a.lo W
  have C2 : Hid (∀ W, Below w.heap.size w W → Calls Try.prog 10 #[.pointer none, .agg #[.int .u32 a.c, .int .u32 a.n], .agg #[.int .u64 a.sp, .int .u32 a.sl], .agg #[.int .u64 a.mp, .int .u32 a.ml], .string (bs a.prim), .slice a.wa a.ws.length a.wc] W fun e w' => e = .returned (.int .i64 1) ∧ Below W.heap.size W w') := fun W hW => I.lay0 a.c a.n a.sp a.sl a.mp a.ml a.prim B a.ws _ W (ha.ws.on (hW.mono hB)) (Nat.le_trans hB hW.size)
  have C3 : Hid (∀ W : World, 1 = 1 → Calls Try.prog 21 #[.pointer none, .agg #[.int .u32 a.c, .int .u32 a.n]] W fun e w' => ∃ ao cap, e = .returned (.slice ao 0 cap) ∧ Below W.heap.size W w') := fun W _ => I.by0 a.c a.n W
  have C4 : Hid (∀ W : World, 1 = 1 → Calls Try.prog 13 #[.pointer none, .agg #[.int .u32 a.c, .int .u32 a.n]] W fun e w' => ∃ ao cap, e = .returned (.slice ao 0 cap) ∧ Below W.heap.size W w') := fun W _ => I.cut0 a.c a.n W
  have C5 : Hid (∀ W : World, 1 = 1 → Calls Try.prog 23 #[.pointer none] W fun e w' => ∃ ao cap, e = .returned (.slice ao 0 cap) ∧ Below W.heap.size W w') := fun W _ => I.all0 W
  have C6 : Hid (∀ W : World, 1 = 1 → Calls Try.prog 15 #[.pointer none, .agg #[.int .u32 a.c, .int .u32 a.n], .agg #[.int .u64 a.mp, .int .u32 a.ml]] W fun e w' => e = .returned (.bool false) ∧ Below W.heap.size W w') := fun W _ => I.raise0 a.c a.n a.mp a.ml W
  have HX : Hid ((w.alloc (abx a)).heap[w.heap.size]? = some (abx a) ∧ Below w.heap.size w (w.alloc (abx a))) := ⟨heap_alloc_new w _, al _⟩
  have hq := run_eql49z
  clear ha hB
  simp only [abx] at HX
  go_enter Try.func5, Try.ntmps5
  go_wp2_with fail
  refine (CA.out _ (by trivial)).mono ?_
  rintro e w1 ⟨rfl, hb⟩
  have H1 : Hid (w1.heap[w.heap.size]? = some (abx a) ∧ Below w.heap.size w w1) := ⟨by rw [hb.block w.heap.size (by simp)]; exact HX.out.1, HX.out.2.trans (hb.mono HX.out.2.size)⟩
  clear hb HX
  obtain ⟨bx, hbx⟩ : ∃ bx, w.heap.size = bx := ⟨_, rfl⟩
  have HBX : Hid (w.heap.size = bx) := hbx
  rw [hbx] at H1 ⊢
  clear hbx
  obtain ⟨x0, x1, x2, x3, x4, x5, x6, x7, x8, x9, x10, x11⟩ := ac_box H1.out.1
  simp only [Nat.zero_add] at x0 x1 x2 x3 x4 x5 x6 x7 x8 x9 x10 x11
  go_wp2_with fail
  refine (C0.out _ (by rw [HBX.out]; exact H1.out.2)).mono ?_
  rintro e w2 ⟨rfl, hb⟩
  have H2 : Hid ((w2.alloc zbx).heap[bx]? = some (abx a) ∧ (w2.alloc zbx).heap[w2.heap.size]? = some zbx ∧ Below bx w (w2.alloc zbx)) := by
    have h1 : w2.heap[bx]? = some (abx a) := by rw [hb.block bx (Array.getElem?_eq_some_iff.1 H1.out.1).1]; exact H1.out.1
    have h2 := bel_on HBX.out H1.out.2 hb
    exact ⟨by rw [(al (W := w2) zbx).block bx (Array.getElem?_eq_some_iff.1 h1).1]; exact h1, heap_alloc_new w2 _, bel_on HBX.out h2 (al _)⟩
  clear hb H1 x0 x1 x2 x3 x4 x5 x6 x7 x8 x9 x10 x11
  simp only [zbx] at H2
  have x9 : (w2.alloc (.cells #[.int .u32 0, .int .u32 0, .int .u64 0, .int .u32 0, .int .u64 0, .int .u32 0, .string ⟨#[]⟩, .string ⟨#[]⟩, .string ⟨#[]⟩, .bool false] 49)).cell? ⟨bx, 9, none⟩ = some (.string (bs a.lo)) := block_cell H2.out.1 rfl
  go_wp2_with fail
  obtain ⟨W2, hW2⟩ : ∃ W2, w2.alloc (.cells #[.int .u32 0, .int .u32 0, .int .u64 0, .int .u32 0, .int .u64 0, .int .u32 0, .string ⟨#[]⟩, .string ⟨#[]⟩, .string ⟨#[]⟩, .bool false] 49) = W2 := ⟨_, rfl⟩
  rw [hW2] at H2 ⊢
  clear hW2 x9
  obtain ⟨c1, hc1⟩ : ∃ c1, w2.heap.size = c1 := ⟨_, rfl⟩
  rw [hc1] at H2 ⊢
  clear hc1
  refine (C1.out _ (by trivial)).mono ?_
  rintro e w3 ⟨rfl, hb⟩
  have H3 : Hid (Nb w bx c1 w3.heap.size a (w3.alloc zbx)) := by
    have h1 : w3.heap[bx]? = some (abx a) := by rw [hb.block bx (Array.getElem?_eq_some_iff.1 H2.out.1).1]; exact H2.out.1
    have h2 : w3.heap[c1]? = some zbx := by rw [hb.block c1 (Array.getElem?_eq_some_iff.1 H2.out.2.1).1]; exact H2.out.2.1
    have h3 := bel_on HBX.out H2.out.2.2 hb
    exact ⟨by rw [(al (W := w3) zbx).block bx (Array.getElem?_eq_some_iff.1 h1).1]; exact h1, by rw [(al (W := w3) zbx).block c1 (Array.getElem?_eq_some_iff.1 h2).1]; exact h2, heap_alloc_new w3 _, by rw [HBX.out]; exact bel_on HBX.out h3 (al _)⟩
  clear hb H2
  simp only [zbx] at H3
  go_wp2_with fail
  obtain ⟨W3, hW3⟩ : ∃ W3, w3.alloc (.cells #[.int .u32 0, .int .u32 0, .int .u64 0, .int .u32 0, .int .u64 0, .int .u32 0, .string ⟨#[]⟩, .string ⟨#[]⟩, .string ⟨#[]⟩, .bool false] 49) = W3 := ⟨_, rfl⟩
  rw [hW3] at H3 ⊢
  clear hW3
  obtain ⟨c2, hc2⟩ : ∃ c2, w3.heap.size = c2 := ⟨_, rfl⟩
  rw [hc2] at H3 ⊢
  clear hc2
  go_region_held3 (fun W =>   W.cell? ⟨bx, 1, none⟩ = some (.int .u32 a.c) ∧ W.cell? ⟨bx, 2, none⟩ = some (.int .u32 a.n) ∧ W.cell? ⟨bx, 3, none⟩ = some (.int .u64 a.sp) ∧ W.cell? ⟨bx, 4, none⟩ = some (.int .u32 a.sl) ∧ W.cell? ⟨bx, 5, none⟩ = some (.int .u64 a.mp) ∧ W.cell? ⟨bx, 6, none⟩ = some (.int .u32 a.ml) ∧ W.cell? ⟨bx, 7, none⟩ = some (.string (bs a.prim)) ∧ W.cell? ⟨bx, 8, none⟩ = some (.slice a.wa a.ws.length a.wc) ∧   W.cell? ⟨c1, 0, none⟩ = some (.int .u32 0) ∧ W.cell? ⟨c1, 1, none⟩ = some (.int .u32 0) ∧ W.cell? ⟨c1, 2, none⟩ = some (.int .u64 0) ∧ W.cell? ⟨c1, 3, none⟩ = some (.int .u32 0) ∧ W.cell? ⟨c1, 4, none⟩ = some (.int .u64 0) ∧ W.cell? ⟨c1, 5, none⟩ = some (.int .u32 0) ∧ W.cell? ⟨c1, 6, none⟩ = some (.string ⟨#[]⟩) ∧ W.cell? ⟨c1, 7, none⟩ = some (.string ⟨#[]⟩) ∧ W.cell? ⟨c1, 8, none⟩ = some (.string ⟨#[]⟩) ∧ W.cell? ⟨c1, 9, none⟩ = some (.bool false) ∧   W.cell? ⟨c2, 0, none⟩ = some (.int .u32 0) ∧ W.cell? ⟨c2, 1, none⟩ = some (.int .u32 0) ∧ W.cell? ⟨c2, 2, none⟩ = some (.int .u64 0) ∧ W.cell? ⟨c2, 3, none⟩ = some (.int .u32 0) ∧ W.cell? ⟨c2, 4, none⟩ = some (.int .u64 0) ∧ W.cell? ⟨c2, 5, none⟩ = some (.int .u32 0) ∧ W.cell? ⟨c2, 6, none⟩ = some (.string ⟨#[]⟩) ∧ W.cell? ⟨c2, 7, none⟩ = some (.string ⟨#[]⟩) ∧ W.cell? ⟨c2, 8, none⟩ = some (.string ⟨#[]⟩) ∧ W.cell? ⟨c2, 9, none⟩ = some (.bool false))
    (first | exact H3.out.nc | exact (H3.out.on (Below.refl _ _).drew).nc | exact H4.out.nc | exact H5.out.nc | exact H6.out.nc | exact H7.out.nc | exact H8.out.nc)
    (first
    | (go_at_call 10; refine (C2.out _ (H3.out.on (Below.refl _ _).drew).bel).mono ?_; rintro e w4 ⟨rfl, hb⟩; have H4 : Hid (Nb w bx c1 c2 a w4) := (H3.out.on (Below.refl _ _).drew).on hb; clear hb)
    | (go_at_call 21; refine (C3.out _ (by trivial)).mono ?_; rintro e w5 ⟨a5, p5, rfl, hb⟩; have H5 : Hid (Nb w bx c1 c2 a w5) := H4.out.on hb; clear hb)
    | (go_at_call 13; refine (C4.out _ (by trivial)).mono ?_; rintro e w6 ⟨a6, p6, rfl, hb⟩; have H6 : Hid (Nb w bx c1 c2 a w6) := H5.out.on hb; clear hb)
    | (go_at_call 23; refine (C5.out _ (by trivial)).mono ?_; rintro e w7 ⟨a7, p7, rfl, hb⟩; have H7 : Hid (Nb w bx c1 c2 a w7) := H6.out.on hb; clear hb)
    | (go_at_call 15; refine (C6.out _ (by trivial)).mono ?_; rintro e w8 ⟨rfl, hb⟩; have H8 : Hid (Nb w bx c1 c2 a w8) := H7.out.on hb; clear hb))
  go_wp2_with fail
  go_ret
  exact ⟨rfl, H8.out.bel⟩
end Go.Proofs.Ytknfkpnicjellaa
