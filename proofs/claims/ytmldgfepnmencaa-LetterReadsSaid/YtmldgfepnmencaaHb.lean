/-
  The document's Read: replies.
-/
import Derived.Test.YtmldgfepnmencaaHa
import Derived.Deep.WholeRow
namespace Go.Proofs.Ytmldgfepnmencaa
open Go.RowKit Go.Sort Go.Shelf

theorem ry_first {T : Nat} {w W : World} {rb c : Nat} {zs : Array Value} {ty : TypeId} {st : St} (h : Rx T w rb c zs ty st W) (cs : Array Value) : Ry T w rb c W.heap.size zs cs ty st (W.alloc (.cells cs ty)) := by
  have h1 := lt_of_block h.rd
  have h2 := (Array.getElem?_eq_some_iff.1 h.x).1
  exact ⟨⟨h.rd.alloc _, h.so.alloc _, heap_alloc_new W _, by omega, h.so.size⟩, by rw [(al (W := W) _).block c h2]; exact h.x, h.ne, by omega, h.new⟩
set_option maxHeartbeats 6400000 in
set_option maxRecDepth 100000 in
theorem rreply38 (rb : Nat) (st : St) (w : World) (h : RdAt 80 rb st w) (hl : st.l.length < 4611686018427387904) :
    Calls Try.prog 38 #[.pointer (some ⟨rb, 0, none⟩)] w fun e w' => ∃ (ao5 : Option Addr) (cp5 : Nat), e = .returned (.agg #[.int .i64 (rawR st).1.k, .int .i64 (rawR st).1.er, .bool (rawR st).1.fd, .string (bs (rawR st).1.val), .slice ao5 (rawR st).1.ps.length cp5, .int .u32 ((rawR st).1.c : Int), .int .u32 ((rawR st).1.n : Int), .int .u64 ((rawR st).1.sp : Int), .int .u32 ((rawR st).1.sl : Int), .int .u64 ((rawR st).1.ap : Int), .int .u32 ((rawR st).1.al : Int), .string (bs (rawR st).1.prim), .int .u64 ((rawR st).1.np : Int), .int .u32 ((rawR st).1.nl : Int)]) ∧ w'.ownsRow w.heap.size 67 2 (.slice ao5 (rawR st).1.ps.length cp5) (rawR st).1.ps.length (rowC prc (rawR st).1.ps) ∧ RdAt 80 rb (rawR st).2 w' ∧ Sole rb w w' := by
  have H0 : Hid _ := rx_new h #[.int .i64 0, .int .i64 0, .bool false, .string ⟨#[]⟩, .slice none 0 0, .int .u32 0, .int .u32 0, .int .u64 0, .int .u32 0, .int .u64 0, .int .u32 0, .string ⟨#[]⟩, .int .u64 0, .int .u32 0] 35
  have hrb := lt_of_block h
  obtain ⟨W0, hW0⟩ : ∃ W0, w.alloc (.cells #[.int .i64 0, .int .i64 0, .bool false, .string ⟨#[]⟩, .slice none 0 0, .int .u32 0, .int .u32 0, .int .u64 0, .int .u32 0, .int .u64 0, .int .u32 0, .string ⟨#[]⟩, .int .u64 0, .int .u32 0] 35) = W0 := ⟨_, rfl⟩
  obtain ⟨c, hc⟩ : ∃ b, w.heap.size = b := ⟨_, rfl⟩
  have X0 : Hid (Rx 80 w rb c #[.int .i64 0, .int .i64 0, .bool false, .string ⟨#[]⟩, .slice none 0 0, .int .u32 0, .int .u32 0, .int .u64 0, .int .u32 0, .int .u64 0, .int .u32 0, .string ⟨#[]⟩, .int .u64 0, .int .u32 0] 35 st W0) := by rw [← hW0, ← hc]; exact H0.out
  clear H0 h
  have C0 : Hid (∀ W, RdAt 80 rb st W → _) := fun W hW => num26 rb st 10 W hW (by omega)
  have L0 := num_le63 10 _ hl
  have D0 := (rdNum_le 10 st).1
  obtain ⟨⟨v0, t0⟩, h0⟩ : ∃ p, rdNum 10 st = p := ⟨_, rfl⟩
  rw [h0] at C0 L0 D0
  simp only at C0 L0 D0
  have C1 : Hid (∀ W, RdAt 80 rb t0 W → _) := fun W hW => num26 rb t0 255 W hW (by omega)
  have L1 := num_le63 255 _ L0
  have D1 := (rdNum_le 255 t0).1
  obtain ⟨⟨v1, t1⟩, h1⟩ : ∃ p, rdNum 255 t0 = p := ⟨_, rfl⟩
  rw [h1] at C1 L1 D1
  simp only at C1 L1 D1
  have C2 : Hid (∀ W, RdAt 80 rb t1 W → _) := fun W hW => flag28 rb t1 W hW
  have L2 := flag_le63 _ L1
  obtain ⟨⟨v2, t2⟩, h2⟩ : ∃ p, rdFlag t1 = p := ⟨_, rfl⟩
  rw [h2] at C2 L2
  simp only at C2 L2
  have C3 : Hid (∀ W, RdAt 80 rb t2 W → _) := fun W hW => text27 rb t2 0 256 W hW (by omega) (by omega) (by omega) (by omega) (by omega)
  have L3 := text_le63 0 256 _ L2
  obtain ⟨⟨v3, t3⟩, h3⟩ : ∃ p, rdText 0 256 t2 = p := ⟨_, rfl⟩
  rw [h3] at C3 L3
  simp only at C3 L3
  have C4 : Hid (∀ W, RdAt 80 rb t3 W → _) := fun W hW => count31 rb t3 32 W hW (by omega) (by omega) (by omega)
  have L4 := num_le63 32 _ L3
  have D4 := (rdNum_le 32 t3).1
  have C4 : Hid (∀ W, RdAt 80 rb t3 W → Calls Try.prog 71 #[.pointer (some ⟨rb, 0, none⟩), .int .i64 32] W fun e w' => e = .returned (.int .i64 ((rdNum 32 t3).1 : Int)) ∧ RdAt 80 rb (rdNum 32 t3).2 w' ∧ Sole rb W w') := C4
  obtain ⟨⟨v4, t4⟩, h4⟩ : ∃ p, rdNum 32 t3 = p := ⟨_, rfl⟩
  rw [h4] at C4 L4 D4
  simp only at C4 L4 D4
  have M5 : Hid (∀ m, (rMany rPr m t4).2.l.length < 4611686018427387904) := fun m => many_le63 pr_le63 m t4 L4
  have N5 : Hid (∀ m, (rMany rPr m t4).1.length = m) := fun m => many_len rPr m t4
  have L5 := M5.out v4
  obtain ⟨⟨v5, t5⟩, h5⟩ : ∃ p, rMany rPr v4 t4 = p := ⟨_, rfl⟩
  rw [h5] at L5
  simp only at L5
  have HE5 : Hid (rMany rPr v4 t4 = (v5, t5)) := h5
  have C6 : Hid (∀ W, RdAt 80 rb t5 W → _) := fun W hW => rtn72 rb t5 W hW L5
  have L6 := tn_le63 _ L5
  obtain ⟨⟨⟨v6, j6⟩, t6⟩, h6⟩ : ∃ p, rTn t5 = p := ⟨_, rfl⟩
  rw [h6] at C6 L6
  simp only at C6 L6
  have C7 : Hid (∀ W, RdAt 80 rb t6 W → _) := fun W hW => stamp29 rb t6 W hW (by omega)
  have L7 := stamp_le63 _ L6
  obtain ⟨⟨⟨v7, j7⟩, t7⟩, h7⟩ : ∃ p, rdStamp t6 = p := ⟨_, rfl⟩
  rw [h7] at C7 L7
  simp only at C7 L7
  have C8 : Hid (∀ W, RdAt 80 rb t7 W → _) := fun W hW => stamp29 rb t7 W hW (by omega)
  have L8 := stamp_le63 _ L7
  obtain ⟨⟨⟨v8, j8⟩, t8⟩, h8⟩ : ∃ p, rdStamp t7 = p := ⟨_, rfl⟩
  rw [h8] at C8 L8
  simp only at C8 L8
  have C9 : Hid (∀ W, RdAt 80 rb t8 W → _) := fun W hW => text27 rb t8 0 32 W hW (by omega) (by omega) (by omega) (by omega) (by omega)
  have L9 := text_le63 0 32 _ L8
  obtain ⟨⟨v9, t9⟩, h9⟩ : ∃ p, rdText 0 32 t8 = p := ⟨_, rfl⟩
  rw [h9] at C9 L9
  simp only at C9 L9
  have C10 : Hid (∀ W, RdAt 80 rb t9 W → _) := fun W hW => stamp29 rb t9 W hW (by omega)
  have L10 := stamp_le63 _ L9
  obtain ⟨⟨⟨v10, j10⟩, t10⟩, h10⟩ : ∃ p, rdStamp t9 = p := ⟨_, rfl⟩
  rw [h10] at C10 L10
  simp only at C10 L10
  have HF : Hid (rawR st = (⟨(v0 : Int), (v1 : Int), v2, v3, v5, v6, j6, v7, j7, v8, j8, v9, v10, j10⟩, t10)) := by
    show _ = _
    unfold rawR rList
    simp only [h0, h1, h2, h3, h4, h5, h6, h7, h8, h9, h10]
  clear h0 L0 h1 L1 h2 L2 h3 L3 h4 L4 h5 L5 h6 L6 h7 L7 h8 L8 h9 L9 h10 L10
  obtain ⟨i5, hi5, hza5, hzb5, hzc5⟩ := info_parts info67
  go_enter Try.func38, Try.ntmps38
  go_wp2_with fail
  refine (C0.out _ X0.out.rd).mono ?_
  rintro e x0 ⟨rfl, hr, hs⟩
  have X1 : Hid (Rx 80 w rb c #[.int .i64 0, .int .i64 0, .bool false, .string ⟨#[]⟩, .slice none 0 0, .int .u32 0, .int .u32 0, .int .u64 0, .int .u32 0, .int .u64 0, .int .u32 0, .string ⟨#[]⟩, .int .u64 0, .int .u32 0] 35 t0 x0) := X0.out.go hr hs
  clear hr hs C0 X0 hW0 hc
  obtain ⟨z0, hz0⟩ : ∃ z, x0.alloc (.cells #[.int .i64 (v0 : Int), .int .i64 0, .bool false, .string ⟨#[]⟩, .slice none 0 0, .int .u32 0, .int .u32 0, .int .u64 0, .int .u32 0, .int .u64 0, .int .u32 0, .string ⟨#[]⟩, .int .u64 0, .int .u32 0] 35) = z := ⟨_, rfl⟩
  obtain ⟨b, hb⟩ : ∃ b, x0.heap.size = b := ⟨_, rfl⟩
  have Y1 : Hid (Ry 80 w rb c b #[.int .i64 0, .int .i64 0, .bool false, .string ⟨#[]⟩, .slice none 0 0, .int .u32 0, .int .u32 0, .int .u64 0, .int .u32 0, .int .u64 0, .int .u32 0, .string ⟨#[]⟩, .int .u64 0, .int .u32 0] #[.int .i64 (v0 : Int), .int .i64 0, .bool false, .string ⟨#[]⟩, .slice none 0 0, .int .u32 0, .int .u32 0, .int .u64 0, .int .u32 0, .int .u64 0, .int .u32 0, .string ⟨#[]⟩, .int .u64 0, .int .u32 0] 35 t0 z0) := by rw [← hz0, ← hb]; exact ry_first X1.out _
  have hgx : (x0.alloc (.cells #[.int .i64 0, .int .i64 0, .bool false, .string ⟨#[]⟩, .slice none 0 0, .int .u32 0, .int .u32 0, .int .u64 0, .int .u32 0, .int .u64 0, .int .u32 0, .string ⟨#[]⟩, .int .u64 0, .int .u32 0] 35)).heap[b]? = some (.cells #[.int .i64 0, .int .i64 0, .bool false, .string ⟨#[]⟩, .slice none 0 0, .int .u32 0, .int .u32 0, .int .u64 0, .int .u32 0, .int .u64 0, .int .u32 0, .string ⟨#[]⟩, .int .u64 0, .int .u32 0] 35 (0, 0)) := by rw [← hb]; exact heap_alloc_new x0 _
  have hset : (x0.alloc (.cells #[.int .i64 0, .int .i64 0, .bool false, .string ⟨#[]⟩, .slice none 0 0, .int .u32 0, .int .u32 0, .int .u64 0, .int .u32 0, .int .u64 0, .int .u32 0, .string ⟨#[]⟩, .int .u64 0, .int .u32 0] 35)).setRow b #[.int .i64 (v0 : Int), .int .i64 0, .bool false, .string ⟨#[]⟩, .slice none 0 0, .int .u32 0, .int .u32 0, .int .u64 0, .int .u32 0, .int .u64 0, .int .u32 0, .string ⟨#[]⟩, .int .u64 0, .int .u32 0] = z0 := by rw [← hb, ← hz0]; exact World.setRow_alloc_new x0 _ _ _
  have HGX : Hid _ := hgx
  have HSET : Hid _ := hset
  clear X1 hz0 hgx hset
  go_upto_region 2 with (refine wpList_store_row rfl 35 _ _ rfl b #[.int .i64 (v0 : Int), .int .i64 0, .bool false, .string ⟨#[]⟩, .slice none 0 0, .int .u32 0, .int .u32 0, .int .u64 0, .int .u32 0, .int .u64 0, .int .u32 0, .string ⟨#[]⟩, .int .u64 0, .int .u32 0] rfl rfl 35 _ HGX.out (by kernel_rfl) rfl (by simp [Value.oneCell']) ?_; rewrite [HSET.out])
  clear hb HGX HSET
  go_wp2_with fail
  refine (C1.out _ Y1.out.r.rd).mono ?_
  rintro e x1 ⟨rfl, hr, hs⟩
  have X1 : Hid (Ry 80 w rb c b #[.int .i64 0, .int .i64 0, .bool false, .string ⟨#[]⟩, .slice none 0 0, .int .u32 0, .int .u32 0, .int .u64 0, .int .u32 0, .int .u64 0, .int .u32 0, .string ⟨#[]⟩, .int .u64 0, .int .u32 0] #[.int .i64 (v0 : Int), .int .i64 0, .bool false, .string ⟨#[]⟩, .slice none 0 0, .int .u32 0, .int .u32 0, .int .u64 0, .int .u32 0, .int .u64 0, .int .u32 0, .string ⟨#[]⟩, .int .u64 0, .int .u32 0] 35 t1 x1) := Y1.out.go hr hs
  clear hr hs C1 Y1
  have p1 : x1.cell? ⟨b, 1, none⟩ = some (.int .i64 0) := block_cell X1.out.r.x rfl
  have f1 : x1.frozen? ⟨b, 1, none⟩ = false := block_frozen X1.out.r.x 1
  obtain ⟨z1, hz1⟩ : ∃ z, (x1.setCell ⟨b, 1, none⟩ (.int .i64 (v1 : Int))) = z := ⟨_, rfl⟩
  have Y2 : Hid (Ry 80 w rb c b #[.int .i64 0, .int .i64 0, .bool false, .string ⟨#[]⟩, .slice none 0 0, .int .u32 0, .int .u32 0, .int .u64 0, .int .u32 0, .int .u64 0, .int .u32 0, .string ⟨#[]⟩, .int .u64 0, .int .u32 0] #[.int .i64 (v0 : Int), .int .i64 (v1 : Int), .bool false, .string ⟨#[]⟩, .slice none 0 0, .int .u32 0, .int .u32 0, .int .u64 0, .int .u32 0, .int .u64 0, .int .u32 0, .string ⟨#[]⟩, .int .u64 0, .int .u32 0] 35 t1 z1) := by rw [← hz1]; exact (X1.out.set 1 (.int .i64 (v1 : Int)))
  clear X1
  go_upto_region 3 with fail
  clear hz1 p1 f1
  go_wp2_with fail
  refine (C2.out _ Y2.out.r.rd).mono ?_
  rintro e x2 ⟨rfl, hr, hs⟩
  have X2 : Hid (Ry 80 w rb c b #[.int .i64 0, .int .i64 0, .bool false, .string ⟨#[]⟩, .slice none 0 0, .int .u32 0, .int .u32 0, .int .u64 0, .int .u32 0, .int .u64 0, .int .u32 0, .string ⟨#[]⟩, .int .u64 0, .int .u32 0] #[.int .i64 (v0 : Int), .int .i64 (v1 : Int), .bool false, .string ⟨#[]⟩, .slice none 0 0, .int .u32 0, .int .u32 0, .int .u64 0, .int .u32 0, .int .u64 0, .int .u32 0, .string ⟨#[]⟩, .int .u64 0, .int .u32 0] 35 t2 x2) := Y2.out.go hr hs
  clear hr hs C2 Y2
  have p2 : x2.cell? ⟨b, 2, none⟩ = some (.bool false) := block_cell X2.out.r.x rfl
  have f2 : x2.frozen? ⟨b, 2, none⟩ = false := block_frozen X2.out.r.x 2
  obtain ⟨z2, hz2⟩ : ∃ z, (x2.setCell ⟨b, 2, none⟩ (.bool v2)) = z := ⟨_, rfl⟩
  have Y3 : Hid (Ry 80 w rb c b #[.int .i64 0, .int .i64 0, .bool false, .string ⟨#[]⟩, .slice none 0 0, .int .u32 0, .int .u32 0, .int .u64 0, .int .u32 0, .int .u64 0, .int .u32 0, .string ⟨#[]⟩, .int .u64 0, .int .u32 0] #[.int .i64 (v0 : Int), .int .i64 (v1 : Int), .bool v2, .string ⟨#[]⟩, .slice none 0 0, .int .u32 0, .int .u32 0, .int .u64 0, .int .u32 0, .int .u64 0, .int .u32 0, .string ⟨#[]⟩, .int .u64 0, .int .u32 0] 35 t2 z2) := by rw [← hz2]; exact (X2.out.set 2 (.bool v2))
  clear X2
  go_upto_region 4 with fail
  clear hz2 p2 f2
  go_wp2_with fail
  refine (C3.out _ Y3.out.r.rd).mono ?_
  rintro e x3 ⟨rfl, hr, hs⟩
  have X3 : Hid (Ry 80 w rb c b #[.int .i64 0, .int .i64 0, .bool false, .string ⟨#[]⟩, .slice none 0 0, .int .u32 0, .int .u32 0, .int .u64 0, .int .u32 0, .int .u64 0, .int .u32 0, .string ⟨#[]⟩, .int .u64 0, .int .u32 0] #[.int .i64 (v0 : Int), .int .i64 (v1 : Int), .bool v2, .string ⟨#[]⟩, .slice none 0 0, .int .u32 0, .int .u32 0, .int .u64 0, .int .u32 0, .int .u64 0, .int .u32 0, .string ⟨#[]⟩, .int .u64 0, .int .u32 0] 35 t3 x3) := Y3.out.go hr hs
  clear hr hs C3 Y3
  have p3 : x3.cell? ⟨b, 3, none⟩ = some (.string ⟨#[]⟩) := block_cell X3.out.r.x rfl
  have f3 : x3.frozen? ⟨b, 3, none⟩ = false := block_frozen X3.out.r.x 3
  obtain ⟨z3, hz3⟩ : ∃ z, (x3.setCell ⟨b, 3, none⟩ (.string (bs v3))) = z := ⟨_, rfl⟩
  have Y4 : Hid (Ry 80 w rb c b #[.int .i64 0, .int .i64 0, .bool false, .string ⟨#[]⟩, .slice none 0 0, .int .u32 0, .int .u32 0, .int .u64 0, .int .u32 0, .int .u64 0, .int .u32 0, .string ⟨#[]⟩, .int .u64 0, .int .u32 0] #[.int .i64 (v0 : Int), .int .i64 (v1 : Int), .bool v2, .string (bs v3), .slice none 0 0, .int .u32 0, .int .u32 0, .int .u64 0, .int .u32 0, .int .u64 0, .int .u32 0, .string ⟨#[]⟩, .int .u64 0, .int .u32 0] 35 t3 z3) := by rw [← hz3]; exact (X3.out.set 3 (.string (bs v3)))
  clear X3
  go_upto_region 5 with fail
  clear hz3 p3 f3
  go_wp2_with fail
  refine (C4.out _ Y4.out.r.rd).mono ?_
  rintro e x4 ⟨rfl, hr, hs⟩
  have X4 : Hid (Ry 80 w rb c b #[.int .i64 0, .int .i64 0, .bool false, .string ⟨#[]⟩, .slice none 0 0, .int .u32 0, .int .u32 0, .int .u64 0, .int .u32 0, .int .u64 0, .int .u32 0, .string ⟨#[]⟩, .int .u64 0, .int .u32 0] #[.int .i64 (v0 : Int), .int .i64 (v1 : Int), .bool v2, .string (bs v3), .slice none 0 0, .int .u32 0, .int .u32 0, .int .u64 0, .int .u32 0, .int .u64 0, .int .u32 0, .string ⟨#[]⟩, .int .u64 0, .int .u32 0] 35 t4 x4) := Y4.out.go hr hs
  clear hr hs C4 Y4
  obtain ⟨B5, hB5⟩ : ∃ B, x4.heap.size = B := ⟨_, rfl⟩
  have O0 : Hid (Ro 80 w rb c b #[.int .i64 0, .int .i64 0, .bool false, .string ⟨#[]⟩, .slice none 0 0, .int .u32 0, .int .u32 0, .int .u64 0, .int .u32 0, .int .u64 0, .int .u32 0, .string ⟨#[]⟩, .int .u64 0, .int .u32 0] #[.int .i64 (v0 : Int), .int .i64 (v1 : Int), .bool v2, .string (bs v3), .slice none 0 0, .int .u32 0, .int .u32 0, .int .u64 0, .int .u32 0, .int .u64 0, .int .u32 0, .string ⟨#[]⟩, .int .u64 0, .int .u32 0] 35 (rMany rPr 0 t4).2 B5 67 2 (.slice none 0 0) 0 (rowC prc (rMany rPr 0 t4).1) x4) := by
    rw [← hB5]
    exact ⟨X4.out, own_nil _ _ _ _, lt_of_block X4.out.r.rd, (Array.getElem?_eq_some_iff.1 X4.out.r.x).1, (Array.getElem?_eq_some_iff.1 X4.out.y).1, Nat.le_refl _, X4.out.r.so.size⟩
  clear hB5 X4
  go_wp2_with fail
  go_loopw [5] (fun i wr => ∃ (m : Nat) (ao : Option Addr) (cp : Nat), m ≤ v4 ∧ i = .int .i64 m ∧ Ro 80 w rb c b #[.int .i64 0, .int .i64 0, .bool false, .string ⟨#[]⟩, .slice none 0 0, .int .u32 0, .int .u32 0, .int .u64 0, .int .u32 0, .int .u64 0, .int .u32 0, .string ⟨#[]⟩, .int .u64 0, .int .u32 0] #[.int .i64 (v0 : Int), .int .i64 (v1 : Int), .bool v2, .string (bs v3), .slice ao m cp, .int .u32 0, .int .u32 0, .int .u64 0, .int .u32 0, .int .u64 0, .int .u32 0, .string ⟨#[]⟩, .int .u64 0, .int .u32 0] 35 (rMany rPr m t4).2 B5 67 2 (.slice ao m cp) m (rowC prc (rMany rPr m t4).1) wr) (fun i _ => v4 - (intOf i).toNat)
  case atStart => exact ⟨0, none, 0, Nat.zero_le _, rfl, O0.out⟩
  case round =>
    obtain ⟨m, ao, cp, hm, rfl, ho⟩ := hrel
    have HO : Hid (Ro 80 w rb c b #[.int .i64 0, .int .i64 0, .bool false, .string ⟨#[]⟩, .slice none 0 0, .int .u32 0, .int .u32 0, .int .u64 0, .int .u32 0, .int .u64 0, .int .u32 0, .string ⟨#[]⟩, .int .u64 0, .int .u32 0] #[.int .i64 (v0 : Int), .int .i64 (v1 : Int), .bool v2, .string (bs v3), .slice ao m cp, .int .u32 0, .int .u32 0, .int .u64 0, .int .u32 0, .int .u64 0, .int .u32 0, .string ⟨#[]⟩, .int .u64 0, .int .u32 0] 35 (rMany rPr m t4).2 B5 67 2 (.slice ao m cp) m (rowC prc (rMany rPr m t4).1) wr) := ho
    clear ho O0
    by_cases hml : m < v4
    · have hml1 : (m : Int) < v4 := by omega
      have HQ : Hid (m + 1 ≤ v4 ∧ m ≤ 1000) := ⟨hml, by omega⟩
      have HLm := M5.out m
      have HN : Hid (rMany rPr (m + 1) t4 = ((rMany rPr m t4).1 ++ [(rPr (rMany rPr m t4).2).1], (rPr (rMany rPr m t4).2).2)) := rfl
      obtain ⟨⟨X, sm⟩, hsm⟩ : ∃ p, rMany rPr m t4 = p := ⟨_, rfl⟩
      rw [hsm] at HO HN HLm
      simp only at HO HN HLm
      clear hsm hm hml
      have E0 : Hid (∀ W, RdAt 80 rb sm W → _) := fun W hW => text27 rb sm 0 32 W hW (by omega) (by omega) (by omega) (by omega) (by omega)
      have K0 := text_le63 0 32 _ HLm
      obtain ⟨⟨a0, s0⟩, h0⟩ : ∃ p, rdText 0 32 sm = p := ⟨_, rfl⟩
      rw [h0] at E0 K0
      simp only at E0 K0
      have E1 : Hid (∀ W, RdAt 80 rb s0 W → _) := fun W hW => text27 rb s0 0 256 W hW (by omega) (by omega) (by omega) (by omega) (by omega)
      have K1 := text_le63 0 256 _ K0
      obtain ⟨⟨a1, s1⟩, h1⟩ : ∃ p, rdText 0 256 s0 = p := ⟨_, rfl⟩
      rw [h1] at E1 K1
      simp only at E1 K1
      have HX : Hid (rPr sm = (⟨a0, a1⟩, s1)) := by
        show _ = _
        unfold rPr
        simp only [h0, h1]
      rw [HX.out] at HN
      simp only at HN
      clear h0 K0 h1 K1 HLm HX
      go_wp2_with fail
      refine (E0.out _ HO.out.y.r.rd).mono ?_
      rintro e y0 ⟨rfl, hr, hs⟩
      have O1 : Hid (Ro 80 w rb c b #[.int .i64 0, .int .i64 0, .bool false, .string ⟨#[]⟩, .slice none 0 0, .int .u32 0, .int .u32 0, .int .u64 0, .int .u32 0, .int .u64 0, .int .u32 0, .string ⟨#[]⟩, .int .u64 0, .int .u32 0] #[.int .i64 (v0 : Int), .int .i64 (v1 : Int), .bool v2, .string (bs v3), .slice ao m cp, .int .u32 0, .int .u32 0, .int .u64 0, .int .u32 0, .int .u64 0, .int .u32 0, .string ⟨#[]⟩, .int .u64 0, .int .u32 0] 35 s0 B5 67 2 (.slice ao m cp) m (rowC prc X) y0) := HO.out.go hr hs
      clear hr hs E0 HO
      go_upto_region 10 with fail
      obtain ⟨u0, hu0⟩ : ∃ z, y0.alloc (.cells #[.string (bs a0), .string ⟨#[]⟩] 67) = z := ⟨_, rfl⟩
      obtain ⟨bw, hbw⟩ : ∃ b, y0.heap.size = b := ⟨_, rfl⟩
      have Q0 : Hid (Rw 80 w rb c b bw #[.int .i64 0, .int .i64 0, .bool false, .string ⟨#[]⟩, .slice none 0 0, .int .u32 0, .int .u32 0, .int .u64 0, .int .u32 0, .int .u64 0, .int .u32 0, .string ⟨#[]⟩, .int .u64 0, .int .u32 0] #[.int .i64 (v0 : Int), .int .i64 (v1 : Int), .bool v2, .string (bs v3), .slice ao m cp, .int .u32 0, .int .u32 0, .int .u64 0, .int .u32 0, .int .u64 0, .int .u32 0, .string ⟨#[]⟩, .int .u64 0, .int .u32 0] #[.string (bs a0), .string ⟨#[]⟩] 35 s0 B5 67 2 (.slice ao m cp) m (rowC prc X) u0) := by rw [← hu0, ← hbw]; exact O1.out.box _
      rw [hu0, hbw]
      clear hu0 hbw O1
      go_wp2_with fail
      refine (E1.out _ Q0.out.o.y.r.rd).mono ?_
      rintro e y1 ⟨rfl, hr, hs⟩
      have R1 : Hid (Rw 80 w rb c b bw #[.int .i64 0, .int .i64 0, .bool false, .string ⟨#[]⟩, .slice none 0 0, .int .u32 0, .int .u32 0, .int .u64 0, .int .u32 0, .int .u64 0, .int .u32 0, .string ⟨#[]⟩, .int .u64 0, .int .u32 0] #[.int .i64 (v0 : Int), .int .i64 (v1 : Int), .bool v2, .string (bs v3), .slice ao m cp, .int .u32 0, .int .u32 0, .int .u64 0, .int .u32 0, .int .u64 0, .int .u32 0, .string ⟨#[]⟩, .int .u64 0, .int .u32 0] #[.string (bs a0), .string ⟨#[]⟩] 35 s1 B5 67 2 (.slice ao m cp) m (rowC prc X) y1) := Q0.out.go hr hs
      clear hr hs E1 Q0
      have p1 : y1.cell? ⟨bw, 1, none⟩ = some (.string ⟨#[]⟩) := block_cell R1.out.z rfl
      have f1 : y1.frozen? ⟨bw, 1, none⟩ = false := block_frozen R1.out.z 1
      obtain ⟨u1, hu1⟩ : ∃ z, y1.setCell ⟨bw, 1, none⟩ (.string (bs a1)) = z := ⟨_, rfl⟩
      have Q1 : Hid (Rw 80 w rb c b bw #[.int .i64 0, .int .i64 0, .bool false, .string ⟨#[]⟩, .slice none 0 0, .int .u32 0, .int .u32 0, .int .u64 0, .int .u32 0, .int .u64 0, .int .u32 0, .string ⟨#[]⟩, .int .u64 0, .int .u32 0] #[.int .i64 (v0 : Int), .int .i64 (v1 : Int), .bool v2, .string (bs v3), .slice ao m cp, .int .u32 0, .int .u32 0, .int .u64 0, .int .u32 0, .int .u64 0, .int .u32 0, .string ⟨#[]⟩, .int .u64 0, .int .u32 0] #[.string (bs a0), .string (bs a1)] 35 s1 B5 67 2 (.slice ao m cp) m (rowC prc X) u1) := by rw [← hu1]; exact R1.out.setw 1 (.string (bs a1))
      clear R1
      go_upto_region 11 with fail
      clear hu1 p1 f1
      have px : u1.cell? ⟨b, 4, none⟩ = some (.slice ao m cp) := block_cell Q1.out.o.y.r.x rfl
      have p0 : u1.cell? ⟨bw, 0, none⟩ = some (.string (bs a0)) := block_cell Q1.out.z rfl
      have p1 : u1.cell? ⟨bw, 1, none⟩ = some (.string (bs a1)) := block_cell Q1.out.z rfl
      have HOw : Hid (Ow B5 67 2 (.slice ao m cp) m (rowC prc X) (u1.heap.size + 1) (.slice (some ⟨u1.heap.size, 0, none⟩) 1 1) 1 (rowC prc [⟨a0, a1⟩]) (u1.alloc (.cells #[.string (bs a0), .string (bs a1)] 67))) := thing_ow prc_len prc_one ⟨a0, a1⟩ Q1.out.o.own Q1.out.o.big HQ.out.2
      go_wp2_with (at_builtin; refine wpList_append_rw HOw.out Try.underlying33 hi5 hza5 hzb5 hzc5 rfl (by decide) (by decide) (.tmp 35) (.tmp 37) rfl rfl rfl rfl ?_; intro v' w3 hown hgrow _; obtain ⟨sa, sc, hv'⟩ := own_val hown; subst hv'; have HG : Hid _ := (Q1.out.o.on (al _)).grow hgrow hown; have gx : w3.cell? ⟨b, 4, none⟩ = some (.slice ao m cp) := block_cell HG.out.y.r.x rfl; have fx : w3.frozen? ⟨b, 4, none⟩ = false := block_frozen HG.out.y.r.x 4; clear hown hgrow)
      go_roundw
      case rel =>
        refine ⟨m + 1, sa, sc, HQ.out.1, by go_num, ?_⟩
        rw [HN.out, rowC_append]
        exact HG.out.set 4 (.slice sa (m + 1) sc)
      case measure => simp [intOf]; omega
    · have hml1 : ¬ (m : Int) < v4 := by omega
      have hlm : v5.length = m := by
        have := N5.out v4
        rw [HE5.out] at this
        simp only at this
        omega
      have HE2 : rMany rPr m t4 = (v5, t5) := by rw [← HE5.out]; congr 1; omega
      rw [HE2] at HO
      simp only at HO
      subst hlm
      clear HE2 hm hml
      obtain ⟨ao5, hao5⟩ : ∃ x, ao = x := ⟨_, rfl⟩
      obtain ⟨cp5, hcp5⟩ : ∃ x, cp = x := ⟨_, rfl⟩
      rw [hao5, hcp5] at HO
      clear hao5 hcp5
      obtain ⟨z5, hzk⟩ : ∃ x, wr = x := ⟨_, rfl⟩
      rw [hzk] at HO ⊢
      clear hzk
      have Y6 : Hid (Ry 80 w rb c b #[.int .i64 0, .int .i64 0, .bool false, .string ⟨#[]⟩, .slice none 0 0, .int .u32 0, .int .u32 0, .int .u64 0, .int .u32 0, .int .u64 0, .int .u32 0, .string ⟨#[]⟩, .int .u64 0, .int .u32 0] #[.int .i64 (v0 : Int), .int .i64 (v1 : Int), .bool v2, .string (bs v3), .slice ao5 v5.length cp5, .int .u32 0, .int .u32 0, .int .u64 0, .int .u32 0, .int .u64 0, .int .u32 0, .string ⟨#[]⟩, .int .u64 0, .int .u32 0] 35 t5 z5) := HO.out.y
      have P5 : Hid (z5.ownsRow B5 67 2 (.slice ao5 v5.length cp5) v5.length (rowC prc v5) ∧ rb < B5 ∧ b < B5 ∧ c < B5 ∧ w.heap.size ≤ B5) := ⟨HO.out.own, HO.out.hr, HO.out.hb, HO.out.hc, HO.out.low⟩
      clear HO
      go_wp2_with fail
      refine (C6.out _ Y6.out.r.rd).mono ?_
      rintro e x6 ⟨rfl, hr, hs⟩
      have X6 : Hid (Ry 80 w rb c b #[.int .i64 0, .int .i64 0, .bool false, .string ⟨#[]⟩, .slice none 0 0, .int .u32 0, .int .u32 0, .int .u64 0, .int .u32 0, .int .u64 0, .int .u32 0, .string ⟨#[]⟩, .int .u64 0, .int .u32 0] #[.int .i64 (v0 : Int), .int .i64 (v1 : Int), .bool v2, .string (bs v3), .slice ao5 v5.length cp5, .int .u32 0, .int .u32 0, .int .u64 0, .int .u32 0, .int .u64 0, .int .u32 0, .string ⟨#[]⟩, .int .u64 0, .int .u32 0] 35 t6 x6) := Y6.out.go hr hs
      have P5x : Hid (x6.ownsRow B5 67 2 (.slice ao5 v5.length cp5) v5.length (rowC prc v5) ∧ rb < B5 ∧ b < B5 ∧ c < B5 ∧ w.heap.size ≤ B5) := ⟨own_sole P5.out.1 hs P5.out.2.1, P5.out.2⟩
      clear P5
      have P5 := P5x
      clear P5x
      clear hr hs C6 Y6
      have p5 : x6.cell? ⟨b, 5, none⟩ = some (.int .u32 0) := block_cell X6.out.r.x rfl
      have p6 : x6.cell? ⟨b, 6, none⟩ = some (.int .u32 0) := block_cell X6.out.r.x rfl
      have f5 : x6.frozen? ⟨b, 5, none⟩ = false := block_frozen X6.out.r.x 5
      have f6 : x6.frozen? ⟨b, 6, none⟩ = false := block_frozen X6.out.r.x 6
      obtain ⟨z6, hz6⟩ : ∃ z, ((x6.setCell ⟨b, 5, none⟩ (.int .u32 (v6 : Int))).setCell ⟨b, 6, none⟩ (.int .u32 (j6 : Int))) = z := ⟨_, rfl⟩
      have Y7 : Hid (Ry 80 w rb c b #[.int .i64 0, .int .i64 0, .bool false, .string ⟨#[]⟩, .slice none 0 0, .int .u32 0, .int .u32 0, .int .u64 0, .int .u32 0, .int .u64 0, .int .u32 0, .string ⟨#[]⟩, .int .u64 0, .int .u32 0] #[.int .i64 (v0 : Int), .int .i64 (v1 : Int), .bool v2, .string (bs v3), .slice ao5 v5.length cp5, .int .u32 (v6 : Int), .int .u32 (j6 : Int), .int .u64 0, .int .u32 0, .int .u64 0, .int .u32 0, .string ⟨#[]⟩, .int .u64 0, .int .u32 0] 35 t6 z6) := by rw [← hz6]; exact ((X6.out.set 5 (.int .u32 (v6 : Int))).set 6 (.int .u32 (j6 : Int)))
      have P5x : Hid (z6.ownsRow B5 67 2 (.slice ao5 v5.length cp5) v5.length (rowC prc v5) ∧ rb < B5 ∧ b < B5 ∧ c < B5 ∧ w.heap.size ≤ B5) := by rw [← hz6]; exact ⟨(set_own (set_own P5.out.1 P5.out.2.2.1 5 (.int .u32 (v6 : Int))) P5.out.2.2.1 6 (.int .u32 (j6 : Int))), P5.out.2⟩
      clear P5
      have P5 := P5x
      clear P5x
      clear X6
      go_upto_region 13 with fail
      clear hz6 p5 f5 p6 f6
      go_wp2_with fail
      refine (C7.out _ Y7.out.r.rd).mono ?_
      rintro e x7 ⟨rfl, hr, hs⟩
      have X7 : Hid (Ry 80 w rb c b #[.int .i64 0, .int .i64 0, .bool false, .string ⟨#[]⟩, .slice none 0 0, .int .u32 0, .int .u32 0, .int .u64 0, .int .u32 0, .int .u64 0, .int .u32 0, .string ⟨#[]⟩, .int .u64 0, .int .u32 0] #[.int .i64 (v0 : Int), .int .i64 (v1 : Int), .bool v2, .string (bs v3), .slice ao5 v5.length cp5, .int .u32 (v6 : Int), .int .u32 (j6 : Int), .int .u64 0, .int .u32 0, .int .u64 0, .int .u32 0, .string ⟨#[]⟩, .int .u64 0, .int .u32 0] 35 t7 x7) := Y7.out.go hr hs
      have P5x : Hid (x7.ownsRow B5 67 2 (.slice ao5 v5.length cp5) v5.length (rowC prc v5) ∧ rb < B5 ∧ b < B5 ∧ c < B5 ∧ w.heap.size ≤ B5) := ⟨own_sole P5.out.1 hs P5.out.2.1, P5.out.2⟩
      clear P5
      have P5 := P5x
      clear P5x
      clear hr hs C7 Y7
      have p7 : x7.cell? ⟨b, 7, none⟩ = some (.int .u64 0) := block_cell X7.out.r.x rfl
      have p8 : x7.cell? ⟨b, 8, none⟩ = some (.int .u32 0) := block_cell X7.out.r.x rfl
      have f7 : x7.frozen? ⟨b, 7, none⟩ = false := block_frozen X7.out.r.x 7
      have f8 : x7.frozen? ⟨b, 8, none⟩ = false := block_frozen X7.out.r.x 8
      obtain ⟨z7, hz7⟩ : ∃ z, ((x7.setCell ⟨b, 7, none⟩ (.int .u64 (v7 : Int))).setCell ⟨b, 8, none⟩ (.int .u32 (j7 : Int))) = z := ⟨_, rfl⟩
      have Y8 : Hid (Ry 80 w rb c b #[.int .i64 0, .int .i64 0, .bool false, .string ⟨#[]⟩, .slice none 0 0, .int .u32 0, .int .u32 0, .int .u64 0, .int .u32 0, .int .u64 0, .int .u32 0, .string ⟨#[]⟩, .int .u64 0, .int .u32 0] #[.int .i64 (v0 : Int), .int .i64 (v1 : Int), .bool v2, .string (bs v3), .slice ao5 v5.length cp5, .int .u32 (v6 : Int), .int .u32 (j6 : Int), .int .u64 (v7 : Int), .int .u32 (j7 : Int), .int .u64 0, .int .u32 0, .string ⟨#[]⟩, .int .u64 0, .int .u32 0] 35 t7 z7) := by rw [← hz7]; exact ((X7.out.set 7 (.int .u64 (v7 : Int))).set 8 (.int .u32 (j7 : Int)))
      have P5x : Hid (z7.ownsRow B5 67 2 (.slice ao5 v5.length cp5) v5.length (rowC prc v5) ∧ rb < B5 ∧ b < B5 ∧ c < B5 ∧ w.heap.size ≤ B5) := by rw [← hz7]; exact ⟨(set_own (set_own P5.out.1 P5.out.2.2.1 7 (.int .u64 (v7 : Int))) P5.out.2.2.1 8 (.int .u32 (j7 : Int))), P5.out.2⟩
      clear P5
      have P5 := P5x
      clear P5x
      clear X7
      go_upto_region 14 with fail
      clear hz7 p7 f7 p8 f8
      go_wp2_with fail
      refine (C8.out _ Y8.out.r.rd).mono ?_
      rintro e x8 ⟨rfl, hr, hs⟩
      have X8 : Hid (Ry 80 w rb c b #[.int .i64 0, .int .i64 0, .bool false, .string ⟨#[]⟩, .slice none 0 0, .int .u32 0, .int .u32 0, .int .u64 0, .int .u32 0, .int .u64 0, .int .u32 0, .string ⟨#[]⟩, .int .u64 0, .int .u32 0] #[.int .i64 (v0 : Int), .int .i64 (v1 : Int), .bool v2, .string (bs v3), .slice ao5 v5.length cp5, .int .u32 (v6 : Int), .int .u32 (j6 : Int), .int .u64 (v7 : Int), .int .u32 (j7 : Int), .int .u64 0, .int .u32 0, .string ⟨#[]⟩, .int .u64 0, .int .u32 0] 35 t8 x8) := Y8.out.go hr hs
      have P5x : Hid (x8.ownsRow B5 67 2 (.slice ao5 v5.length cp5) v5.length (rowC prc v5) ∧ rb < B5 ∧ b < B5 ∧ c < B5 ∧ w.heap.size ≤ B5) := ⟨own_sole P5.out.1 hs P5.out.2.1, P5.out.2⟩
      clear P5
      have P5 := P5x
      clear P5x
      clear hr hs C8 Y8
      have p9 : x8.cell? ⟨b, 9, none⟩ = some (.int .u64 0) := block_cell X8.out.r.x rfl
      have p10 : x8.cell? ⟨b, 10, none⟩ = some (.int .u32 0) := block_cell X8.out.r.x rfl
      have f9 : x8.frozen? ⟨b, 9, none⟩ = false := block_frozen X8.out.r.x 9
      have f10 : x8.frozen? ⟨b, 10, none⟩ = false := block_frozen X8.out.r.x 10
      obtain ⟨z8, hz8⟩ : ∃ z, ((x8.setCell ⟨b, 9, none⟩ (.int .u64 (v8 : Int))).setCell ⟨b, 10, none⟩ (.int .u32 (j8 : Int))) = z := ⟨_, rfl⟩
      have Y9 : Hid (Ry 80 w rb c b #[.int .i64 0, .int .i64 0, .bool false, .string ⟨#[]⟩, .slice none 0 0, .int .u32 0, .int .u32 0, .int .u64 0, .int .u32 0, .int .u64 0, .int .u32 0, .string ⟨#[]⟩, .int .u64 0, .int .u32 0] #[.int .i64 (v0 : Int), .int .i64 (v1 : Int), .bool v2, .string (bs v3), .slice ao5 v5.length cp5, .int .u32 (v6 : Int), .int .u32 (j6 : Int), .int .u64 (v7 : Int), .int .u32 (j7 : Int), .int .u64 (v8 : Int), .int .u32 (j8 : Int), .string ⟨#[]⟩, .int .u64 0, .int .u32 0] 35 t8 z8) := by rw [← hz8]; exact ((X8.out.set 9 (.int .u64 (v8 : Int))).set 10 (.int .u32 (j8 : Int)))
      have P5x : Hid (z8.ownsRow B5 67 2 (.slice ao5 v5.length cp5) v5.length (rowC prc v5) ∧ rb < B5 ∧ b < B5 ∧ c < B5 ∧ w.heap.size ≤ B5) := by rw [← hz8]; exact ⟨(set_own (set_own P5.out.1 P5.out.2.2.1 9 (.int .u64 (v8 : Int))) P5.out.2.2.1 10 (.int .u32 (j8 : Int))), P5.out.2⟩
      clear P5
      have P5 := P5x
      clear P5x
      clear X8
      go_upto_region 15 with fail
      clear hz8 p9 f9 p10 f10
      go_wp2_with fail
      refine (C9.out _ Y9.out.r.rd).mono ?_
      rintro e x9 ⟨rfl, hr, hs⟩
      have X9 : Hid (Ry 80 w rb c b #[.int .i64 0, .int .i64 0, .bool false, .string ⟨#[]⟩, .slice none 0 0, .int .u32 0, .int .u32 0, .int .u64 0, .int .u32 0, .int .u64 0, .int .u32 0, .string ⟨#[]⟩, .int .u64 0, .int .u32 0] #[.int .i64 (v0 : Int), .int .i64 (v1 : Int), .bool v2, .string (bs v3), .slice ao5 v5.length cp5, .int .u32 (v6 : Int), .int .u32 (j6 : Int), .int .u64 (v7 : Int), .int .u32 (j7 : Int), .int .u64 (v8 : Int), .int .u32 (j8 : Int), .string ⟨#[]⟩, .int .u64 0, .int .u32 0] 35 t9 x9) := Y9.out.go hr hs
      have P5x : Hid (x9.ownsRow B5 67 2 (.slice ao5 v5.length cp5) v5.length (rowC prc v5) ∧ rb < B5 ∧ b < B5 ∧ c < B5 ∧ w.heap.size ≤ B5) := ⟨own_sole P5.out.1 hs P5.out.2.1, P5.out.2⟩
      clear P5
      have P5 := P5x
      clear P5x
      clear hr hs C9 Y9
      have p11 : x9.cell? ⟨b, 11, none⟩ = some (.string ⟨#[]⟩) := block_cell X9.out.r.x rfl
      have f11 : x9.frozen? ⟨b, 11, none⟩ = false := block_frozen X9.out.r.x 11
      obtain ⟨z9, hz9⟩ : ∃ z, (x9.setCell ⟨b, 11, none⟩ (.string (bs v9))) = z := ⟨_, rfl⟩
      have Y10 : Hid (Ry 80 w rb c b #[.int .i64 0, .int .i64 0, .bool false, .string ⟨#[]⟩, .slice none 0 0, .int .u32 0, .int .u32 0, .int .u64 0, .int .u32 0, .int .u64 0, .int .u32 0, .string ⟨#[]⟩, .int .u64 0, .int .u32 0] #[.int .i64 (v0 : Int), .int .i64 (v1 : Int), .bool v2, .string (bs v3), .slice ao5 v5.length cp5, .int .u32 (v6 : Int), .int .u32 (j6 : Int), .int .u64 (v7 : Int), .int .u32 (j7 : Int), .int .u64 (v8 : Int), .int .u32 (j8 : Int), .string (bs v9), .int .u64 0, .int .u32 0] 35 t9 z9) := by rw [← hz9]; exact (X9.out.set 11 (.string (bs v9)))
      have P5x : Hid (z9.ownsRow B5 67 2 (.slice ao5 v5.length cp5) v5.length (rowC prc v5) ∧ rb < B5 ∧ b < B5 ∧ c < B5 ∧ w.heap.size ≤ B5) := by rw [← hz9]; exact ⟨(set_own P5.out.1 P5.out.2.2.1 11 (.string (bs v9))), P5.out.2⟩
      clear P5
      have P5 := P5x
      clear P5x
      clear X9
      go_upto_region 16 with fail
      clear hz9 p11 f11
      go_wp2_with fail
      refine (C10.out _ Y10.out.r.rd).mono ?_
      rintro e x10 ⟨rfl, hr, hs⟩
      have X10 : Hid (Ry 80 w rb c b #[.int .i64 0, .int .i64 0, .bool false, .string ⟨#[]⟩, .slice none 0 0, .int .u32 0, .int .u32 0, .int .u64 0, .int .u32 0, .int .u64 0, .int .u32 0, .string ⟨#[]⟩, .int .u64 0, .int .u32 0] #[.int .i64 (v0 : Int), .int .i64 (v1 : Int), .bool v2, .string (bs v3), .slice ao5 v5.length cp5, .int .u32 (v6 : Int), .int .u32 (j6 : Int), .int .u64 (v7 : Int), .int .u32 (j7 : Int), .int .u64 (v8 : Int), .int .u32 (j8 : Int), .string (bs v9), .int .u64 0, .int .u32 0] 35 t10 x10) := Y10.out.go hr hs
      have P5x : Hid (x10.ownsRow B5 67 2 (.slice ao5 v5.length cp5) v5.length (rowC prc v5) ∧ rb < B5 ∧ b < B5 ∧ c < B5 ∧ w.heap.size ≤ B5) := ⟨own_sole P5.out.1 hs P5.out.2.1, P5.out.2⟩
      clear P5
      have P5 := P5x
      clear P5x
      clear hr hs C10 Y10
      have p12 : x10.cell? ⟨b, 12, none⟩ = some (.int .u64 0) := block_cell X10.out.r.x rfl
      have p13 : x10.cell? ⟨b, 13, none⟩ = some (.int .u32 0) := block_cell X10.out.r.x rfl
      have f12 : x10.frozen? ⟨b, 12, none⟩ = false := block_frozen X10.out.r.x 12
      have f13 : x10.frozen? ⟨b, 13, none⟩ = false := block_frozen X10.out.r.x 13
      obtain ⟨z10, hz10⟩ : ∃ z, ((x10.setCell ⟨b, 12, none⟩ (.int .u64 (v10 : Int))).setCell ⟨b, 13, none⟩ (.int .u32 (j10 : Int))) = z := ⟨_, rfl⟩
      have Y11 : Hid (Ry 80 w rb c b #[.int .i64 0, .int .i64 0, .bool false, .string ⟨#[]⟩, .slice none 0 0, .int .u32 0, .int .u32 0, .int .u64 0, .int .u32 0, .int .u64 0, .int .u32 0, .string ⟨#[]⟩, .int .u64 0, .int .u32 0] #[.int .i64 (v0 : Int), .int .i64 (v1 : Int), .bool v2, .string (bs v3), .slice ao5 v5.length cp5, .int .u32 (v6 : Int), .int .u32 (j6 : Int), .int .u64 (v7 : Int), .int .u32 (j7 : Int), .int .u64 (v8 : Int), .int .u32 (j8 : Int), .string (bs v9), .int .u64 (v10 : Int), .int .u32 (j10 : Int)] 35 t10 z10) := by rw [← hz10]; exact ((X10.out.set 12 (.int .u64 (v10 : Int))).set 13 (.int .u32 (j10 : Int)))
      have P5x : Hid (z10.ownsRow B5 67 2 (.slice ao5 v5.length cp5) v5.length (rowC prc v5) ∧ rb < B5 ∧ b < B5 ∧ c < B5 ∧ w.heap.size ≤ B5) := by rw [← hz10]; exact ⟨(set_own (set_own P5.out.1 P5.out.2.2.1 12 (.int .u64 (v10 : Int))) P5.out.2.2.1 13 (.int .u32 (j10 : Int))), P5.out.2⟩
      clear P5
      have P5 := P5x
      clear P5x
      clear X10
      go_upto_region 17 with fail
      clear hz10 p12 f12 p13 f13
      go_wp2_with (first
        | (refine wpList_load_row rfl 35 _ rfl b rfl 35 _ (0, 0) _ Y11.out.r.x Try.underlying35 rfl (by kernel_rfl) ?_)
        | (refine wpList_store_row rfl 35 _ _ rfl c #[.int .i64 (v0 : Int), .int .i64 (v1 : Int), .bool v2, .string (bs v3), .slice ao5 v5.length cp5, .int .u32 (v6 : Int), .int .u32 (j6 : Int), .int .u64 (v7 : Int), .int .u32 (j7 : Int), .int .u64 (v8 : Int), .int .u32 (j8 : Int), .string (bs v9), .int .u64 (v10 : Int), .int .u32 (j10 : Int)] rfl rfl 35 _ Y11.out.y (by kernel_rfl) rfl (by simp [Value.oneCell']) ?_))
      have YR : Hid (Rx 80 w rb c #[.int .i64 (v0 : Int), .int .i64 (v1 : Int), .bool v2, .string (bs v3), .slice ao5 v5.length cp5, .int .u32 (v6 : Int), .int .u32 (j6 : Int), .int .u64 (v7 : Int), .int .u32 (j7 : Int), .int .u64 (v8 : Int), .int .u32 (j8 : Int), .string (bs v9), .int .u64 (v10 : Int), .int .u32 (j10 : Int)] 35 t10 (z10.setRow c #[.int .i64 (v0 : Int), .int .i64 (v1 : Int), .bool v2, .string (bs v3), .slice ao5 v5.length cp5, .int .u32 (v6 : Int), .int .u32 (j6 : Int), .int .u64 (v7 : Int), .int .u32 (j7 : Int), .int .u64 (v8 : Int), .int .u32 (j8 : Int), .string (bs v9), .int .u64 (v10 : Int), .int .u32 (j10 : Int)])) := Rx.row ⟨Y11.out.r.rd, Y11.out.r.so, Y11.out.y, Y11.out.nr, Y11.out.nw⟩ _
      (try simp only [Exit.inBlock, Exit.then])
      refine bodyPost_ret (results_cell_row rfl _ _ c 35 _ (0, 0) _ rfl YR.out.x Try.underlying35 rfl (by kernel_rfl)) rfl ?_
      rw [HF.out]
      exact ⟨ao5, cp5, rfl, own_le (row_own P5.out.1 P5.out.2.2.2.1 _) P5.out.2.2.2.2, YR.out.rd, YR.out.so⟩
end Go.Proofs.Ytmldgfepnmencaa
