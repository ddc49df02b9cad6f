/-
  The document's Read: requests.
-/
import Derived.Test.YtmldgfepnmencaaHb
namespace Go.Proofs.Ytmldgfepnmencaa
open Go.RowKit Go.Sort Go.Shelf

theorem step_append_rw {P : Program} {base t e size bytes B n m : Nat} {v vx : Value} {xs cs : List Value} {i : TypeInfo} {z : Value} {ops : Array Oper} {o : Oper} {a : Act} {K : Act → World → Prop} {Q : Exit → Act → World → Prop} {E : Prop} {w : World} (H : Ow base e size v n xs B vx m cs w)
    (ht : P.underlying t = some (.slice e)) (hi : P.info? e = some i) (hz : i.zero = some z) (hsize : i.size = size) (hby : i.bytes = bytes) (hzs : z.cells.size = size) (hsz : 0 < size) (hb : bytes ≤ 1000)
    (s x : Operand) (ho : o.op = .call { callee := .builtin .append, args := #[s, x], argTypes := #[t, t] }) (hw : Region.wanted o (yielded ops a.tmps) = true) (hs : a.eval s = v) (hx : a.eval x = vx)
    (h : ∀ v' w', w'.ownsRow base e size v' (n + m) (xs ++ cs) → w.grownBy w' v.ownBlock → (v'.ownBlock = v.ownBlock ∨ v'.ownBlock = some w.heap.size) → K (a.put o.dst v') w') : if Region.wanted o (yielded ops a.tmps) = true then Oper.wp P o a w K Q else E := by
  rw [if_pos hw]
  obtain ⟨v', w', hr, h2, h3, h4⟩ := run_append_rw (ty := o.type) ht hi hz hsize hby hzs hsz hb H
  unfold Oper.wp execOp
  simp only [ho, resolve, invoke, builtin, Sem.run_bind, Sem.run_pure, Result.andThen_ok, List.map_toArray, List.map_cons, List.map_nil, hs, hx, hr]
  exact h v' w' h2 h3 h4

theorem step_call1 {P : Program} {ops : Array Oper} {o : Oper} {a : Act} {w : World} {K : Act → World → Prop} {Q : Exit → Act → World → Prop} {E : Prop} {f : FuncId} {args : Array Value} (hg : o.guard = none) (he : (execOp a.eval o).run P w = .ok (.enter f args) w)
    (h : Calls P f args w fun
      | .returned v, w'' => K (a.put o.dst v) w''
      | .panicked chain, w'' => Q (.panic chain) a w''
      | .outgrown, _ => LetsOut Q) : if Region.wanted o (yielded ops a.tmps) = true then Oper.wp P o a w K Q else E := by
  rw [if_pos (by simp [Region.wanted, hg])]
  unfold Oper.wp
  rw [he]
  exact h
set_option maxHeartbeats 6400000 in
set_option maxRecDepth 100000 in
theorem rask39 (rb : Nat) (st : St) (w : World) (h : RdAt 80 rb st w) (hl : st.l.length < 4611686018427387904) :
    Calls Try.prog 39 #[.pointer (some ⟨rb, 0, none⟩)] w fun e w' => ∃ (ao9 : Option Addr) (cp9 : Nat) (ao11 : Option Addr) (cp11 : Nat), e = .returned (.agg #[.int .i64 (rawQ st).1.k, .int .u32 ((rawQ st).1.c : Int), .int .u32 ((rawQ st).1.n : Int), .int .u64 ((rawQ st).1.sp : Int), .int .u32 ((rawQ st).1.sl : Int), .int .u64 ((rawQ st).1.ap : Int), .int .u32 ((rawQ st).1.al : Int), .string (bs (rawQ st).1.key), .string (bs (rawQ st).1.to), .int .i64 (rawQ st).1.lim, .int .u8 ((rawQ st).1.pt : Int), .slice ao9 (rawQ st).1.ws.length cp9, .slice ao11 (rawQ st).1.sk.length cp11]) ∧ w'.ownsRow w.heap.size 65 3 (.slice ao9 (rawQ st).1.ws.length cp9) (rawQ st).1.ws.length (rowC wrc (rawQ st).1.ws) ∧ w'.ownsRow w.heap.size 24 2 (.slice ao11 (rawQ st).1.sk.length cp11) (rawQ st).1.sk.length (rowC tnc (rawQ st).1.sk) ∧ RdAt 80 rb (rawQ st).2 w' ∧ Sole rb w w' := by
  have H0 : Hid _ := rx_new h #[.int .i64 0, .int .u32 0, .int .u32 0, .int .u64 0, .int .u32 0, .int .u64 0, .int .u32 0, .string ⟨#[]⟩, .string ⟨#[]⟩, .int .i64 0, .int .u8 0, .slice none 0 0, .slice none 0 0] 31
  have hrb := lt_of_block h
  obtain ⟨W0, hW0⟩ : ∃ W0, w.alloc (.cells #[.int .i64 0, .int .u32 0, .int .u32 0, .int .u64 0, .int .u32 0, .int .u64 0, .int .u32 0, .string ⟨#[]⟩, .string ⟨#[]⟩, .int .i64 0, .int .u8 0, .slice none 0 0, .slice none 0 0] 31) = W0 := ⟨_, rfl⟩
  obtain ⟨c, hc⟩ : ∃ b, w.heap.size = b := ⟨_, rfl⟩
  have X0 : Hid (Rx 80 w rb c #[.int .i64 0, .int .u32 0, .int .u32 0, .int .u64 0, .int .u32 0, .int .u64 0, .int .u32 0, .string ⟨#[]⟩, .string ⟨#[]⟩, .int .i64 0, .int .u8 0, .slice none 0 0, .slice none 0 0] 31 st W0) := by rw [← hW0, ← hc]; exact H0.out
  clear H0 h
  have C0 : Hid (∀ W, RdAt 80 rb st W → _) := fun W hW => num26 rb st 9 W hW (by omega)
  have L0 := num_le63 9 _ hl
  have D0 := (rdNum_le 9 st).1
  obtain ⟨⟨v0, t0⟩, h0⟩ : ∃ p, rdNum 9 st = p := ⟨_, rfl⟩
  rw [h0] at C0 L0 D0
  simp only at C0 L0 D0
  have C1 : Hid (∀ W, RdAt 80 rb t0 W → _) := fun W hW => rtn72 rb t0 W hW L0
  have L1 := tn_le63 _ L0
  obtain ⟨⟨⟨v1, j1⟩, t1⟩, h1⟩ : ∃ p, rTn t0 = p := ⟨_, rfl⟩
  rw [h1] at C1 L1
  simp only at C1 L1
  have C2 : Hid (∀ W, RdAt 80 rb t1 W → _) := fun W hW => stamp29 rb t1 W hW (by omega)
  have L2 := stamp_le63 _ L1
  obtain ⟨⟨⟨v2, j2⟩, t2⟩, h2⟩ : ∃ p, rdStamp t1 = p := ⟨_, rfl⟩
  rw [h2] at C2 L2
  simp only at C2 L2
  have C3 : Hid (∀ W, RdAt 80 rb t2 W → _) := fun W hW => stamp29 rb t2 W hW (by omega)
  have L3 := stamp_le63 _ L2
  obtain ⟨⟨⟨v3, j3⟩, t3⟩, h3⟩ : ∃ p, rdStamp t2 = p := ⟨_, rfl⟩
  rw [h3] at C3 L3
  simp only at C3 L3
  have C4 : Hid (∀ W, RdAt 80 rb t3 W → _) := fun W hW => text27 rb t3 0 32 W hW (by omega) (by omega) (by omega) (by omega) (by omega)
  have L4 := text_le63 0 32 _ L3
  obtain ⟨⟨v4, t4⟩, h4⟩ : ∃ p, rdText 0 32 t3 = p := ⟨_, rfl⟩
  rw [h4] at C4 L4
  simp only at C4 L4
  have C5 : Hid (∀ W, RdAt 80 rb t4 W → _) := fun W hW => text27 rb t4 0 32 W hW (by omega) (by omega) (by omega) (by omega) (by omega)
  have L5 := text_le63 0 32 _ L4
  obtain ⟨⟨v5, t5⟩, h5⟩ : ∃ p, rdText 0 32 t4 = p := ⟨_, rfl⟩
  rw [h5] at C5 L5
  simp only at C5 L5
  have C6 : Hid (∀ W, RdAt 80 rb t5 W → _) := fun W hW => num26 rb t5 32 W hW (by omega)
  have L6 := num_le63 32 _ L5
  have D6 := (rdNum_le 32 t5).1
  obtain ⟨⟨v6, t6⟩, h6⟩ : ∃ p, rdNum 32 t5 = p := ⟨_, rfl⟩
  rw [h6] at C6 L6 D6
  simp only at C6 L6 D6
  have C7 : Hid (∀ W, RdAt 80 rb t6 W → _) := fun W hW => num26 rb t6 255 W hW (by omega)
  have L7 := num_le63 255 _ L6
  have D7 := (rdNum_le 255 t6).1
  obtain ⟨⟨v7, t7⟩, h7⟩ : ∃ p, rdNum 255 t6 = p := ⟨_, rfl⟩
  rw [h7] at C7 L7 D7
  simp only at C7 L7 D7
  have C8 : Hid (∀ W, RdAt 80 rb t7 W → _) := fun W hW => count31 rb t7 16 W hW (by omega) (by omega) (by omega)
  have L8 := num_le63 16 _ L7
  have D8 := (rdNum_le 16 t7).1
  have C8 : Hid (∀ W, RdAt 80 rb t7 W → Calls Try.prog 71 #[.pointer (some ⟨rb, 0, none⟩), .int .i64 16] W fun e w' => e = .returned (.int .i64 ((rdNum 16 t7).1 : Int)) ∧ RdAt 80 rb (rdNum 16 t7).2 w' ∧ Sole rb W w') := C8
  obtain ⟨⟨v8, t8⟩, h8⟩ : ∃ p, rdNum 16 t7 = p := ⟨_, rfl⟩
  rw [h8] at C8 L8 D8
  simp only at C8 L8 D8
  have M9 : Hid (∀ m, (rMany rWr m t8).2.l.length < 4611686018427387904) := fun m => many_le63 wr_le63 m t8 L8
  have N9 : Hid (∀ m, (rMany rWr m t8).1.length = m) := fun m => many_len rWr m t8
  have L9 := M9.out v8
  obtain ⟨⟨v9, t9⟩, h9⟩ : ∃ p, rMany rWr v8 t8 = p := ⟨_, rfl⟩
  rw [h9] at L9
  simp only at L9
  have HE9 : Hid (rMany rWr v8 t8 = (v9, t9)) := h9
  have C10 : Hid (∀ W, RdAt 80 rb t9 W → _) := fun W hW => count31 rb t9 16 W hW (by omega) (by omega) (by omega)
  have L10 := num_le63 16 _ L9
  have D10 := (rdNum_le 16 t9).1
  have C10 : Hid (∀ W, RdAt 80 rb t9 W → Calls Try.prog 71 #[.pointer (some ⟨rb, 0, none⟩), .int .i64 16] W fun e w' => e = .returned (.int .i64 ((rdNum 16 t9).1 : Int)) ∧ RdAt 80 rb (rdNum 16 t9).2 w' ∧ Sole rb W w') := C10
  obtain ⟨⟨v10, t10⟩, h10⟩ : ∃ p, rdNum 16 t9 = p := ⟨_, rfl⟩
  rw [h10] at C10 L10 D10
  simp only at C10 L10 D10
  have M11 : Hid (∀ m, (rMany rTn m t10).2.l.length < 4611686018427387904) := fun m => many_le63 tn_le63 m t10 L10
  have N11 : Hid (∀ m, (rMany rTn m t10).1.length = m) := fun m => many_len rTn m t10
  have L11 := M11.out v10
  obtain ⟨⟨v11, t11⟩, h11⟩ : ∃ p, rMany rTn v10 t10 = p := ⟨_, rfl⟩
  rw [h11] at L11
  simp only at L11
  have HE11 : Hid (rMany rTn v10 t10 = (v11, t11)) := h11
  have HF : Hid (rawQ st = (⟨(v0 : Int), v1, j1, v2, j2, v3, j3, v4, v5, (v6 : Int), v7, v9, v11⟩, t11)) := by
    show _ = _
    unfold rawQ rList
    simp only [h0, h1, h2, h3, h4, h5, h6, h7, h8, h9, h10, h11]
  clear h0 L0 h1 L1 h2 L2 h3 L3 h4 L4 h5 L5 h6 L6 h7 L7 h8 L8 h9 L9 h10 L10 h11 L11
  obtain ⟨i9, hi9, hza9, hzb9, hzc9⟩ := info_parts info65
  obtain ⟨i11, hi11, hza11, hzb11, hzc11⟩ := info_parts info24
  go_enter Try.func39, Try.ntmps39
  go_wp2_with fail
  refine (C0.out _ X0.out.rd).mono ?_
  rintro e x0 ⟨rfl, hr, hs⟩
  have X1 : Hid (Rx 80 w rb c #[.int .i64 0, .int .u32 0, .int .u32 0, .int .u64 0, .int .u32 0, .int .u64 0, .int .u32 0, .string ⟨#[]⟩, .string ⟨#[]⟩, .int .i64 0, .int .u8 0, .slice none 0 0, .slice none 0 0] 31 t0 x0) := X0.out.go hr hs
  clear hr hs C0 X0 hW0 hc
  obtain ⟨z0, hz0⟩ : ∃ z, x0.alloc (.cells #[.int .i64 (v0 : Int), .int .u32 0, .int .u32 0, .int .u64 0, .int .u32 0, .int .u64 0, .int .u32 0, .string ⟨#[]⟩, .string ⟨#[]⟩, .int .i64 0, .int .u8 0, .slice none 0 0, .slice none 0 0] 31) = z := ⟨_, rfl⟩
  obtain ⟨b, hb⟩ : ∃ b, x0.heap.size = b := ⟨_, rfl⟩
  have Y1 : Hid (Ry 80 w rb c b #[.int .i64 0, .int .u32 0, .int .u32 0, .int .u64 0, .int .u32 0, .int .u64 0, .int .u32 0, .string ⟨#[]⟩, .string ⟨#[]⟩, .int .i64 0, .int .u8 0, .slice none 0 0, .slice none 0 0] #[.int .i64 (v0 : Int), .int .u32 0, .int .u32 0, .int .u64 0, .int .u32 0, .int .u64 0, .int .u32 0, .string ⟨#[]⟩, .string ⟨#[]⟩, .int .i64 0, .int .u8 0, .slice none 0 0, .slice none 0 0] 31 t0 z0) := by rw [← hz0, ← hb]; exact ry_first X1.out _
  have hgx : (x0.alloc (.cells #[.int .i64 0, .int .u32 0, .int .u32 0, .int .u64 0, .int .u32 0, .int .u64 0, .int .u32 0, .string ⟨#[]⟩, .string ⟨#[]⟩, .int .i64 0, .int .u8 0, .slice none 0 0, .slice none 0 0] 31)).heap[b]? = some (.cells #[.int .i64 0, .int .u32 0, .int .u32 0, .int .u64 0, .int .u32 0, .int .u64 0, .int .u32 0, .string ⟨#[]⟩, .string ⟨#[]⟩, .int .i64 0, .int .u8 0, .slice none 0 0, .slice none 0 0] 31 (0, 0)) := by rw [← hb]; exact heap_alloc_new x0 _
  have hset : (x0.alloc (.cells #[.int .i64 0, .int .u32 0, .int .u32 0, .int .u64 0, .int .u32 0, .int .u64 0, .int .u32 0, .string ⟨#[]⟩, .string ⟨#[]⟩, .int .i64 0, .int .u8 0, .slice none 0 0, .slice none 0 0] 31)).setRow b #[.int .i64 (v0 : Int), .int .u32 0, .int .u32 0, .int .u64 0, .int .u32 0, .int .u64 0, .int .u32 0, .string ⟨#[]⟩, .string ⟨#[]⟩, .int .i64 0, .int .u8 0, .slice none 0 0, .slice none 0 0] = z0 := by rw [← hb, ← hz0]; exact World.setRow_alloc_new x0 _ _ _
  have HGX : Hid _ := hgx
  have HSET : Hid _ := hset
  clear X1 hz0 hgx hset
  go_upto_region 2 with (refine wpList_store_row rfl 31 _ _ rfl b #[.int .i64 (v0 : Int), .int .u32 0, .int .u32 0, .int .u64 0, .int .u32 0, .int .u64 0, .int .u32 0, .string ⟨#[]⟩, .string ⟨#[]⟩, .int .i64 0, .int .u8 0, .slice none 0 0, .slice none 0 0] rfl rfl 31 _ HGX.out (by kernel_rfl) rfl (by simp [Value.oneCell']) ?_; rewrite [HSET.out])
  clear hb HGX HSET
  go_wp2_with fail
  refine (C1.out _ Y1.out.r.rd).mono ?_
  rintro e x1 ⟨rfl, hr, hs⟩
  have X1 : Hid (Ry 80 w rb c b #[.int .i64 0, .int .u32 0, .int .u32 0, .int .u64 0, .int .u32 0, .int .u64 0, .int .u32 0, .string ⟨#[]⟩, .string ⟨#[]⟩, .int .i64 0, .int .u8 0, .slice none 0 0, .slice none 0 0] #[.int .i64 (v0 : Int), .int .u32 0, .int .u32 0, .int .u64 0, .int .u32 0, .int .u64 0, .int .u32 0, .string ⟨#[]⟩, .string ⟨#[]⟩, .int .i64 0, .int .u8 0, .slice none 0 0, .slice none 0 0] 31 t1 x1) := Y1.out.go hr hs
  clear hr hs C1 Y1
  have p1 : x1.cell? ⟨b, 1, none⟩ = some (.int .u32 0) := block_cell X1.out.r.x rfl
  have p2 : x1.cell? ⟨b, 2, none⟩ = some (.int .u32 0) := block_cell X1.out.r.x rfl
  have f1 : x1.frozen? ⟨b, 1, none⟩ = false := block_frozen X1.out.r.x 1
  have f2 : x1.frozen? ⟨b, 2, none⟩ = false := block_frozen X1.out.r.x 2
  obtain ⟨z1, hz1⟩ : ∃ z, ((x1.setCell ⟨b, 1, none⟩ (.int .u32 (v1 : Int))).setCell ⟨b, 2, none⟩ (.int .u32 (j1 : Int))) = z := ⟨_, rfl⟩
  have Y2 : Hid (Ry 80 w rb c b #[.int .i64 0, .int .u32 0, .int .u32 0, .int .u64 0, .int .u32 0, .int .u64 0, .int .u32 0, .string ⟨#[]⟩, .string ⟨#[]⟩, .int .i64 0, .int .u8 0, .slice none 0 0, .slice none 0 0] #[.int .i64 (v0 : Int), .int .u32 (v1 : Int), .int .u32 (j1 : Int), .int .u64 0, .int .u32 0, .int .u64 0, .int .u32 0, .string ⟨#[]⟩, .string ⟨#[]⟩, .int .i64 0, .int .u8 0, .slice none 0 0, .slice none 0 0] 31 t1 z1) := by rw [← hz1]; exact ((X1.out.set 1 (.int .u32 (v1 : Int))).set 2 (.int .u32 (j1 : Int)))
  clear X1
  go_upto_region 3 with fail
  clear hz1 p1 f1 p2 f2
  go_wp2_with fail
  refine (C2.out _ Y2.out.r.rd).mono ?_
  rintro e x2 ⟨rfl, hr, hs⟩
  have X2 : Hid (Ry 80 w rb c b #[.int .i64 0, .int .u32 0, .int .u32 0, .int .u64 0, .int .u32 0, .int .u64 0, .int .u32 0, .string ⟨#[]⟩, .string ⟨#[]⟩, .int .i64 0, .int .u8 0, .slice none 0 0, .slice none 0 0] #[.int .i64 (v0 : Int), .int .u32 (v1 : Int), .int .u32 (j1 : Int), .int .u64 0, .int .u32 0, .int .u64 0, .int .u32 0, .string ⟨#[]⟩, .string ⟨#[]⟩, .int .i64 0, .int .u8 0, .slice none 0 0, .slice none 0 0] 31 t2 x2) := Y2.out.go hr hs
  clear hr hs C2 Y2
  have p3 : x2.cell? ⟨b, 3, none⟩ = some (.int .u64 0) := block_cell X2.out.r.x rfl
  have p4 : x2.cell? ⟨b, 4, none⟩ = some (.int .u32 0) := block_cell X2.out.r.x rfl
  have f3 : x2.frozen? ⟨b, 3, none⟩ = false := block_frozen X2.out.r.x 3
  have f4 : x2.frozen? ⟨b, 4, none⟩ = false := block_frozen X2.out.r.x 4
  obtain ⟨z2, hz2⟩ : ∃ z, ((x2.setCell ⟨b, 3, none⟩ (.int .u64 (v2 : Int))).setCell ⟨b, 4, none⟩ (.int .u32 (j2 : Int))) = z := ⟨_, rfl⟩
  have Y3 : Hid (Ry 80 w rb c b #[.int .i64 0, .int .u32 0, .int .u32 0, .int .u64 0, .int .u32 0, .int .u64 0, .int .u32 0, .string ⟨#[]⟩, .string ⟨#[]⟩, .int .i64 0, .int .u8 0, .slice none 0 0, .slice none 0 0] #[.int .i64 (v0 : Int), .int .u32 (v1 : Int), .int .u32 (j1 : Int), .int .u64 (v2 : Int), .int .u32 (j2 : Int), .int .u64 0, .int .u32 0, .string ⟨#[]⟩, .string ⟨#[]⟩, .int .i64 0, .int .u8 0, .slice none 0 0, .slice none 0 0] 31 t2 z2) := by rw [← hz2]; exact ((X2.out.set 3 (.int .u64 (v2 : Int))).set 4 (.int .u32 (j2 : Int)))
  clear X2
  go_upto_region 4 with fail
  clear hz2 p3 f3 p4 f4
  go_wp2_with fail
  refine (C3.out _ Y3.out.r.rd).mono ?_
  rintro e x3 ⟨rfl, hr, hs⟩
  have X3 : Hid (Ry 80 w rb c b #[.int .i64 0, .int .u32 0, .int .u32 0, .int .u64 0, .int .u32 0, .int .u64 0, .int .u32 0, .string ⟨#[]⟩, .string ⟨#[]⟩, .int .i64 0, .int .u8 0, .slice none 0 0, .slice none 0 0] #[.int .i64 (v0 : Int), .int .u32 (v1 : Int), .int .u32 (j1 : Int), .int .u64 (v2 : Int), .int .u32 (j2 : Int), .int .u64 0, .int .u32 0, .string ⟨#[]⟩, .string ⟨#[]⟩, .int .i64 0, .int .u8 0, .slice none 0 0, .slice none 0 0] 31 t3 x3) := Y3.out.go hr hs
  clear hr hs C3 Y3
  have p5 : x3.cell? ⟨b, 5, none⟩ = some (.int .u64 0) := block_cell X3.out.r.x rfl
  have p6 : x3.cell? ⟨b, 6, none⟩ = some (.int .u32 0) := block_cell X3.out.r.x rfl
  have f5 : x3.frozen? ⟨b, 5, none⟩ = false := block_frozen X3.out.r.x 5
  have f6 : x3.frozen? ⟨b, 6, none⟩ = false := block_frozen X3.out.r.x 6
  obtain ⟨z3, hz3⟩ : ∃ z, ((x3.setCell ⟨b, 5, none⟩ (.int .u64 (v3 : Int))).setCell ⟨b, 6, none⟩ (.int .u32 (j3 : Int))) = z := ⟨_, rfl⟩
  have Y4 : Hid (Ry 80 w rb c b #[.int .i64 0, .int .u32 0, .int .u32 0, .int .u64 0, .int .u32 0, .int .u64 0, .int .u32 0, .string ⟨#[]⟩, .string ⟨#[]⟩, .int .i64 0, .int .u8 0, .slice none 0 0, .slice none 0 0] #[.int .i64 (v0 : Int), .int .u32 (v1 : Int), .int .u32 (j1 : Int), .int .u64 (v2 : Int), .int .u32 (j2 : Int), .int .u64 (v3 : Int), .int .u32 (j3 : Int), .string ⟨#[]⟩, .string ⟨#[]⟩, .int .i64 0, .int .u8 0, .slice none 0 0, .slice none 0 0] 31 t3 z3) := by rw [← hz3]; exact ((X3.out.set 5 (.int .u64 (v3 : Int))).set 6 (.int .u32 (j3 : Int)))
  clear X3
  go_upto_region 5 with fail
  clear hz3 p5 f5 p6 f6
  go_wp2_with fail
  refine (C4.out _ Y4.out.r.rd).mono ?_
  rintro e x4 ⟨rfl, hr, hs⟩
  have X4 : Hid (Ry 80 w rb c b #[.int .i64 0, .int .u32 0, .int .u32 0, .int .u64 0, .int .u32 0, .int .u64 0, .int .u32 0, .string ⟨#[]⟩, .string ⟨#[]⟩, .int .i64 0, .int .u8 0, .slice none 0 0, .slice none 0 0] #[.int .i64 (v0 : Int), .int .u32 (v1 : Int), .int .u32 (j1 : Int), .int .u64 (v2 : Int), .int .u32 (j2 : Int), .int .u64 (v3 : Int), .int .u32 (j3 : Int), .string ⟨#[]⟩, .string ⟨#[]⟩, .int .i64 0, .int .u8 0, .slice none 0 0, .slice none 0 0] 31 t4 x4) := Y4.out.go hr hs
  clear hr hs C4 Y4
  have p7 : x4.cell? ⟨b, 7, none⟩ = some (.string ⟨#[]⟩) := block_cell X4.out.r.x rfl
  have f7 : x4.frozen? ⟨b, 7, none⟩ = false := block_frozen X4.out.r.x 7
  obtain ⟨z4, hz4⟩ : ∃ z, (x4.setCell ⟨b, 7, none⟩ (.string (bs v4))) = z := ⟨_, rfl⟩
  have Y5 : Hid (Ry 80 w rb c b #[.int .i64 0, .int .u32 0, .int .u32 0, .int .u64 0, .int .u32 0, .int .u64 0, .int .u32 0, .string ⟨#[]⟩, .string ⟨#[]⟩, .int .i64 0, .int .u8 0, .slice none 0 0, .slice none 0 0] #[.int .i64 (v0 : Int), .int .u32 (v1 : Int), .int .u32 (j1 : Int), .int .u64 (v2 : Int), .int .u32 (j2 : Int), .int .u64 (v3 : Int), .int .u32 (j3 : Int), .string (bs v4), .string ⟨#[]⟩, .int .i64 0, .int .u8 0, .slice none 0 0, .slice none 0 0] 31 t4 z4) := by rw [← hz4]; exact (X4.out.set 7 (.string (bs v4)))
  clear X4
  go_upto_region 6 with fail
  clear hz4 p7 f7
  go_wp2_with fail
  refine (C5.out _ Y5.out.r.rd).mono ?_
  rintro e x5 ⟨rfl, hr, hs⟩
  have X5 : Hid (Ry 80 w rb c b #[.int .i64 0, .int .u32 0, .int .u32 0, .int .u64 0, .int .u32 0, .int .u64 0, .int .u32 0, .string ⟨#[]⟩, .string ⟨#[]⟩, .int .i64 0, .int .u8 0, .slice none 0 0, .slice none 0 0] #[.int .i64 (v0 : Int), .int .u32 (v1 : Int), .int .u32 (j1 : Int), .int .u64 (v2 : Int), .int .u32 (j2 : Int), .int .u64 (v3 : Int), .int .u32 (j3 : Int), .string (bs v4), .string ⟨#[]⟩, .int .i64 0, .int .u8 0, .slice none 0 0, .slice none 0 0] 31 t5 x5) := Y5.out.go hr hs
  clear hr hs C5 Y5
  have p8 : x5.cell? ⟨b, 8, none⟩ = some (.string ⟨#[]⟩) := block_cell X5.out.r.x rfl
  have f8 : x5.frozen? ⟨b, 8, none⟩ = false := block_frozen X5.out.r.x 8
  obtain ⟨z5, hz5⟩ : ∃ z, (x5.setCell ⟨b, 8, none⟩ (.string (bs v5))) = z := ⟨_, rfl⟩
  have Y6 : Hid (Ry 80 w rb c b #[.int .i64 0, .int .u32 0, .int .u32 0, .int .u64 0, .int .u32 0, .int .u64 0, .int .u32 0, .string ⟨#[]⟩, .string ⟨#[]⟩, .int .i64 0, .int .u8 0, .slice none 0 0, .slice none 0 0] #[.int .i64 (v0 : Int), .int .u32 (v1 : Int), .int .u32 (j1 : Int), .int .u64 (v2 : Int), .int .u32 (j2 : Int), .int .u64 (v3 : Int), .int .u32 (j3 : Int), .string (bs v4), .string (bs v5), .int .i64 0, .int .u8 0, .slice none 0 0, .slice none 0 0] 31 t5 z5) := by rw [← hz5]; exact (X5.out.set 8 (.string (bs v5)))
  clear X5
  go_upto_region 7 with fail
  clear hz5 p8 f8
  go_wp2_with fail
  refine (C6.out _ Y6.out.r.rd).mono ?_
  rintro e x6 ⟨rfl, hr, hs⟩
  have X6 : Hid (Ry 80 w rb c b #[.int .i64 0, .int .u32 0, .int .u32 0, .int .u64 0, .int .u32 0, .int .u64 0, .int .u32 0, .string ⟨#[]⟩, .string ⟨#[]⟩, .int .i64 0, .int .u8 0, .slice none 0 0, .slice none 0 0] #[.int .i64 (v0 : Int), .int .u32 (v1 : Int), .int .u32 (j1 : Int), .int .u64 (v2 : Int), .int .u32 (j2 : Int), .int .u64 (v3 : Int), .int .u32 (j3 : Int), .string (bs v4), .string (bs v5), .int .i64 0, .int .u8 0, .slice none 0 0, .slice none 0 0] 31 t6 x6) := Y6.out.go hr hs
  clear hr hs C6 Y6
  have p9 : x6.cell? ⟨b, 9, none⟩ = some (.int .i64 0) := block_cell X6.out.r.x rfl
  have f9 : x6.frozen? ⟨b, 9, none⟩ = false := block_frozen X6.out.r.x 9
  obtain ⟨z6, hz6⟩ : ∃ z, (x6.setCell ⟨b, 9, none⟩ (.int .i64 (v6 : Int))) = z := ⟨_, rfl⟩
  have Y7 : Hid (Ry 80 w rb c b #[.int .i64 0, .int .u32 0, .int .u32 0, .int .u64 0, .int .u32 0, .int .u64 0, .int .u32 0, .string ⟨#[]⟩, .string ⟨#[]⟩, .int .i64 0, .int .u8 0, .slice none 0 0, .slice none 0 0] #[.int .i64 (v0 : Int), .int .u32 (v1 : Int), .int .u32 (j1 : Int), .int .u64 (v2 : Int), .int .u32 (j2 : Int), .int .u64 (v3 : Int), .int .u32 (j3 : Int), .string (bs v4), .string (bs v5), .int .i64 (v6 : Int), .int .u8 0, .slice none 0 0, .slice none 0 0] 31 t6 z6) := by rw [← hz6]; exact (X6.out.set 9 (.int .i64 (v6 : Int)))
  clear X6
  go_upto_region 8 with fail
  clear hz6 p9 f9
  go_wp2_with fail
  refine (C7.out _ Y7.out.r.rd).mono ?_
  rintro e x7 ⟨rfl, hr, hs⟩
  have X7 : Hid (Ry 80 w rb c b #[.int .i64 0, .int .u32 0, .int .u32 0, .int .u64 0, .int .u32 0, .int .u64 0, .int .u32 0, .string ⟨#[]⟩, .string ⟨#[]⟩, .int .i64 0, .int .u8 0, .slice none 0 0, .slice none 0 0] #[.int .i64 (v0 : Int), .int .u32 (v1 : Int), .int .u32 (j1 : Int), .int .u64 (v2 : Int), .int .u32 (j2 : Int), .int .u64 (v3 : Int), .int .u32 (j3 : Int), .string (bs v4), .string (bs v5), .int .i64 (v6 : Int), .int .u8 0, .slice none 0 0, .slice none 0 0] 31 t7 x7) := Y7.out.go hr hs
  clear hr hs C7 Y7
  have p10 : x7.cell? ⟨b, 10, none⟩ = some (.int .u8 0) := block_cell X7.out.r.x rfl
  have f10 : x7.frozen? ⟨b, 10, none⟩ = false := block_frozen X7.out.r.x 10
  obtain ⟨z7, hz7⟩ : ∃ z, (x7.setCell ⟨b, 10, none⟩ (.int .u8 (v7 : Int))) = z := ⟨_, rfl⟩
  have Y8 : Hid (Ry 80 w rb c b #[.int .i64 0, .int .u32 0, .int .u32 0, .int .u64 0, .int .u32 0, .int .u64 0, .int .u32 0, .string ⟨#[]⟩, .string ⟨#[]⟩, .int .i64 0, .int .u8 0, .slice none 0 0, .slice none 0 0] #[.int .i64 (v0 : Int), .int .u32 (v1 : Int), .int .u32 (j1 : Int), .int .u64 (v2 : Int), .int .u32 (j2 : Int), .int .u64 (v3 : Int), .int .u32 (j3 : Int), .string (bs v4), .string (bs v5), .int .i64 (v6 : Int), .int .u8 (v7 : Int), .slice none 0 0, .slice none 0 0] 31 t7 z7) := by rw [← hz7]; exact (X7.out.set 10 (.int .u8 (v7 : Int)))
  clear X7
  go_upto_region 9 with fail
  clear hz7 p10 f10
  go_wp2_with fail
  refine (C8.out _ Y8.out.r.rd).mono ?_
  rintro e x8 ⟨rfl, hr, hs⟩
  have X8 : Hid (Ry 80 w rb c b #[.int .i64 0, .int .u32 0, .int .u32 0, .int .u64 0, .int .u32 0, .int .u64 0, .int .u32 0, .string ⟨#[]⟩, .string ⟨#[]⟩, .int .i64 0, .int .u8 0, .slice none 0 0, .slice none 0 0] #[.int .i64 (v0 : Int), .int .u32 (v1 : Int), .int .u32 (j1 : Int), .int .u64 (v2 : Int), .int .u32 (j2 : Int), .int .u64 (v3 : Int), .int .u32 (j3 : Int), .string (bs v4), .string (bs v5), .int .i64 (v6 : Int), .int .u8 (v7 : Int), .slice none 0 0, .slice none 0 0] 31 t8 x8) := Y8.out.go hr hs
  clear hr hs C8 Y8
  obtain ⟨B9, hB9⟩ : ∃ B, x8.heap.size = B := ⟨_, rfl⟩
  have O0 : Hid (Ro 80 w rb c b #[.int .i64 0, .int .u32 0, .int .u32 0, .int .u64 0, .int .u32 0, .int .u64 0, .int .u32 0, .string ⟨#[]⟩, .string ⟨#[]⟩, .int .i64 0, .int .u8 0, .slice none 0 0, .slice none 0 0] #[.int .i64 (v0 : Int), .int .u32 (v1 : Int), .int .u32 (j1 : Int), .int .u64 (v2 : Int), .int .u32 (j2 : Int), .int .u64 (v3 : Int), .int .u32 (j3 : Int), .string (bs v4), .string (bs v5), .int .i64 (v6 : Int), .int .u8 (v7 : Int), .slice none 0 0, .slice none 0 0] 31 (rMany rWr 0 t8).2 B9 65 3 (.slice none 0 0) 0 (rowC wrc (rMany rWr 0 t8).1) x8) := by
    rw [← hB9]
    exact ⟨X8.out, own_nil _ _ _ _, lt_of_block X8.out.r.rd, (Array.getElem?_eq_some_iff.1 X8.out.r.x).1, (Array.getElem?_eq_some_iff.1 X8.out.y).1, Nat.le_refl _, X8.out.r.so.size⟩
  clear hB9 X8
  go_wp2_with fail
  go_loopw [5] (fun i wr => ∃ (m : Nat) (ao : Option Addr) (cp : Nat), m ≤ v8 ∧ i = .int .i64 m ∧ Ro 80 w rb c b #[.int .i64 0, .int .u32 0, .int .u32 0, .int .u64 0, .int .u32 0, .int .u64 0, .int .u32 0, .string ⟨#[]⟩, .string ⟨#[]⟩, .int .i64 0, .int .u8 0, .slice none 0 0, .slice none 0 0] #[.int .i64 (v0 : Int), .int .u32 (v1 : Int), .int .u32 (j1 : Int), .int .u64 (v2 : Int), .int .u32 (j2 : Int), .int .u64 (v3 : Int), .int .u32 (j3 : Int), .string (bs v4), .string (bs v5), .int .i64 (v6 : Int), .int .u8 (v7 : Int), .slice ao m cp, .slice none 0 0] 31 (rMany rWr m t8).2 B9 65 3 (.slice ao m cp) m (rowC wrc (rMany rWr m t8).1) wr) (fun i _ => v8 - (intOf i).toNat)
  case atStart => exact ⟨0, none, 0, Nat.zero_le _, rfl, O0.out⟩
  case round =>
    obtain ⟨m, ao, cp, hm, rfl, ho⟩ := hrel
    have HO : Hid (Ro 80 w rb c b #[.int .i64 0, .int .u32 0, .int .u32 0, .int .u64 0, .int .u32 0, .int .u64 0, .int .u32 0, .string ⟨#[]⟩, .string ⟨#[]⟩, .int .i64 0, .int .u8 0, .slice none 0 0, .slice none 0 0] #[.int .i64 (v0 : Int), .int .u32 (v1 : Int), .int .u32 (j1 : Int), .int .u64 (v2 : Int), .int .u32 (j2 : Int), .int .u64 (v3 : Int), .int .u32 (j3 : Int), .string (bs v4), .string (bs v5), .int .i64 (v6 : Int), .int .u8 (v7 : Int), .slice ao m cp, .slice none 0 0] 31 (rMany rWr m t8).2 B9 65 3 (.slice ao m cp) m (rowC wrc (rMany rWr m t8).1) wr) := ho
    clear ho O0
    by_cases hml : m < v8
    · have hml1 : (m : Int) < v8 := by omega
      have HQ : Hid (m + 1 ≤ v8 ∧ m ≤ 1000) := ⟨hml, by omega⟩
      have HLm := M9.out m
      have HN : Hid (rMany rWr (m + 1) t8 = ((rMany rWr m t8).1 ++ [(rWr (rMany rWr m t8).2).1], (rWr (rMany rWr m t8).2).2)) := rfl
      obtain ⟨⟨X, sm⟩, hsm⟩ : ∃ p, rMany rWr m t8 = p := ⟨_, rfl⟩
      rw [hsm] at HO HN HLm
      simp only at HO HN HLm
      clear hsm hm hml
      have E0 : Hid (∀ W, RdAt 80 rb sm W → _) := fun W hW => text27 rb sm 0 32 W hW (by omega) (by omega) (by omega) (by omega) (by omega)
      have K0 := text_le63 0 32 _ HLm
      obtain ⟨⟨a0, s0⟩, h0⟩ : ∃ p, rdText 0 32 sm = p := ⟨_, rfl⟩
      rw [h0] at E0 K0
      simp only at E0 K0
      have E1 : Hid (∀ W, RdAt 80 rb s0 W → _) := fun W hW => flag28 rb s0 W hW
      have K1 := flag_le63 _ K0
      obtain ⟨⟨a1, s1⟩, h1⟩ : ∃ p, rdFlag s0 = p := ⟨_, rfl⟩
      rw [h1] at E1 K1
      simp only at E1 K1
      have E2 : Hid (∀ W, RdAt 80 rb s1 W → _) := fun W hW => text27 rb s1 0 256 W hW (by omega) (by omega) (by omega) (by omega) (by omega)
      have K2 := text_le63 0 256 _ K1
      obtain ⟨⟨a2, s2⟩, h2⟩ : ∃ p, rdText 0 256 s1 = p := ⟨_, rfl⟩
      rw [h2] at E2 K2
      simp only at E2 K2
      have HX : Hid (rWr sm = (⟨a0, a2, a1⟩, s2)) := by
        show _ = _
        unfold rWr
        simp only [h0, h1, h2]
      rw [HX.out] at HN
      simp only at HN
      clear h0 K0 h1 K1 h2 K2 HLm HX
      go_wp2_with fail
      refine (E0.out _ HO.out.y.r.rd).mono ?_
      rintro e y0 ⟨rfl, hr, hs⟩
      have O1 : Hid (Ro 80 w rb c b #[.int .i64 0, .int .u32 0, .int .u32 0, .int .u64 0, .int .u32 0, .int .u64 0, .int .u32 0, .string ⟨#[]⟩, .string ⟨#[]⟩, .int .i64 0, .int .u8 0, .slice none 0 0, .slice none 0 0] #[.int .i64 (v0 : Int), .int .u32 (v1 : Int), .int .u32 (j1 : Int), .int .u64 (v2 : Int), .int .u32 (j2 : Int), .int .u64 (v3 : Int), .int .u32 (j3 : Int), .string (bs v4), .string (bs v5), .int .i64 (v6 : Int), .int .u8 (v7 : Int), .slice ao m cp, .slice none 0 0] 31 s0 B9 65 3 (.slice ao m cp) m (rowC wrc X) y0) := HO.out.go hr hs
      clear hr hs E0 HO
      go_upto_region 14 with fail
      obtain ⟨u0, hu0⟩ : ∃ z, y0.alloc (.cells #[.string (bs a0), .string ⟨#[]⟩, .bool false] 65) = z := ⟨_, rfl⟩
      obtain ⟨bw, hbw⟩ : ∃ b, y0.heap.size = b := ⟨_, rfl⟩
      have Q0 : Hid (Rw 80 w rb c b bw #[.int .i64 0, .int .u32 0, .int .u32 0, .int .u64 0, .int .u32 0, .int .u64 0, .int .u32 0, .string ⟨#[]⟩, .string ⟨#[]⟩, .int .i64 0, .int .u8 0, .slice none 0 0, .slice none 0 0] #[.int .i64 (v0 : Int), .int .u32 (v1 : Int), .int .u32 (j1 : Int), .int .u64 (v2 : Int), .int .u32 (j2 : Int), .int .u64 (v3 : Int), .int .u32 (j3 : Int), .string (bs v4), .string (bs v5), .int .i64 (v6 : Int), .int .u8 (v7 : Int), .slice ao m cp, .slice none 0 0] #[.string (bs a0), .string ⟨#[]⟩, .bool false] 31 s0 B9 65 3 (.slice ao m cp) m (rowC wrc X) u0) := by rw [← hu0, ← hbw]; exact O1.out.box _
      rw [hu0, hbw]
      clear hu0 hbw O1
      go_wp2_with fail
      refine (E1.out _ Q0.out.o.y.r.rd).mono ?_
      rintro e y1 ⟨rfl, hr, hs⟩
      have R1 : Hid (Rw 80 w rb c b bw #[.int .i64 0, .int .u32 0, .int .u32 0, .int .u64 0, .int .u32 0, .int .u64 0, .int .u32 0, .string ⟨#[]⟩, .string ⟨#[]⟩, .int .i64 0, .int .u8 0, .slice none 0 0, .slice none 0 0] #[.int .i64 (v0 : Int), .int .u32 (v1 : Int), .int .u32 (j1 : Int), .int .u64 (v2 : Int), .int .u32 (j2 : Int), .int .u64 (v3 : Int), .int .u32 (j3 : Int), .string (bs v4), .string (bs v5), .int .i64 (v6 : Int), .int .u8 (v7 : Int), .slice ao m cp, .slice none 0 0] #[.string (bs a0), .string ⟨#[]⟩, .bool false] 31 s1 B9 65 3 (.slice ao m cp) m (rowC wrc X) y1) := Q0.out.go hr hs
      clear hr hs E1 Q0
      have p2 : y1.cell? ⟨bw, 2, none⟩ = some (.bool false) := block_cell R1.out.z rfl
      have f2 : y1.frozen? ⟨bw, 2, none⟩ = false := block_frozen R1.out.z 2
      obtain ⟨u1, hu1⟩ : ∃ z, y1.setCell ⟨bw, 2, none⟩ (.bool a1) = z := ⟨_, rfl⟩
      have Q1 : Hid (Rw 80 w rb c b bw #[.int .i64 0, .int .u32 0, .int .u32 0, .int .u64 0, .int .u32 0, .int .u64 0, .int .u32 0, .string ⟨#[]⟩, .string ⟨#[]⟩, .int .i64 0, .int .u8 0, .slice none 0 0, .slice none 0 0] #[.int .i64 (v0 : Int), .int .u32 (v1 : Int), .int .u32 (j1 : Int), .int .u64 (v2 : Int), .int .u32 (j2 : Int), .int .u64 (v3 : Int), .int .u32 (j3 : Int), .string (bs v4), .string (bs v5), .int .i64 (v6 : Int), .int .u8 (v7 : Int), .slice ao m cp, .slice none 0 0] #[.string (bs a0), .string ⟨#[]⟩, .bool a1] 31 s1 B9 65 3 (.slice ao m cp) m (rowC wrc X) u1) := by rw [← hu1]; exact R1.out.setw 2 (.bool a1)
      clear R1
      go_upto_region 15 with fail
      clear hu1 p2 f2
      go_wp2_with fail
      refine (E2.out _ Q1.out.o.y.r.rd).mono ?_
      rintro e y2 ⟨rfl, hr, hs⟩
      have R2 : Hid (Rw 80 w rb c b bw #[.int .i64 0, .int .u32 0, .int .u32 0, .int .u64 0, .int .u32 0, .int .u64 0, .int .u32 0, .string ⟨#[]⟩, .string ⟨#[]⟩, .int .i64 0, .int .u8 0, .slice none 0 0, .slice none 0 0] #[.int .i64 (v0 : Int), .int .u32 (v1 : Int), .int .u32 (j1 : Int), .int .u64 (v2 : Int), .int .u32 (j2 : Int), .int .u64 (v3 : Int), .int .u32 (j3 : Int), .string (bs v4), .string (bs v5), .int .i64 (v6 : Int), .int .u8 (v7 : Int), .slice ao m cp, .slice none 0 0] #[.string (bs a0), .string ⟨#[]⟩, .bool a1] 31 s2 B9 65 3 (.slice ao m cp) m (rowC wrc X) y2) := Q1.out.go hr hs
      clear hr hs E2 Q1
      have p1 : y2.cell? ⟨bw, 1, none⟩ = some (.string ⟨#[]⟩) := block_cell R2.out.z rfl
      have f1 : y2.frozen? ⟨bw, 1, none⟩ = false := block_frozen R2.out.z 1
      obtain ⟨u2, hu2⟩ : ∃ z, y2.setCell ⟨bw, 1, none⟩ (.string (bs a2)) = z := ⟨_, rfl⟩
      have Q2 : Hid (Rw 80 w rb c b bw #[.int .i64 0, .int .u32 0, .int .u32 0, .int .u64 0, .int .u32 0, .int .u64 0, .int .u32 0, .string ⟨#[]⟩, .string ⟨#[]⟩, .int .i64 0, .int .u8 0, .slice none 0 0, .slice none 0 0] #[.int .i64 (v0 : Int), .int .u32 (v1 : Int), .int .u32 (j1 : Int), .int .u64 (v2 : Int), .int .u32 (j2 : Int), .int .u64 (v3 : Int), .int .u32 (j3 : Int), .string (bs v4), .string (bs v5), .int .i64 (v6 : Int), .int .u8 (v7 : Int), .slice ao m cp, .slice none 0 0] #[.string (bs a0), .string (bs a2), .bool a1] 31 s2 B9 65 3 (.slice ao m cp) m (rowC wrc X) u2) := by rw [← hu2]; exact R2.out.setw 1 (.string (bs a2))
      clear R2
      go_upto_region 16 with fail
      clear hu2 p1 f1
      have px : u2.cell? ⟨b, 11, none⟩ = some (.slice ao m cp) := block_cell Q2.out.o.y.r.x rfl
      have p0 : u2.cell? ⟨bw, 0, none⟩ = some (.string (bs a0)) := block_cell Q2.out.z rfl
      have p1 : u2.cell? ⟨bw, 1, none⟩ = some (.string (bs a2)) := block_cell Q2.out.z rfl
      have p2 : u2.cell? ⟨bw, 2, none⟩ = some (.bool a1) := block_cell Q2.out.z rfl
      have HOw : Hid (Ow B9 65 3 (.slice ao m cp) m (rowC wrc X) (u2.heap.size + 1) (.slice (some ⟨u2.heap.size, 0, none⟩) 1 1) 1 (rowC wrc [⟨a0, a2, a1⟩]) (u2.alloc (.cells #[.string (bs a0), .string (bs a2), .bool a1] 65))) := thing_ow wrc_len wrc_one ⟨a0, a2, a1⟩ Q2.out.o.own Q2.out.o.big HQ.out.2
      go_wp2_with (at_builtin; refine wpList_append_rw HOw.out Try.underlying28 hi9 hza9 hzb9 hzc9 rfl (by decide) (by decide) (.tmp 52) (.tmp 54) rfl rfl rfl rfl ?_; intro v' w3 hown hgrow _; obtain ⟨sa, sc, hv'⟩ := own_val hown; subst hv'; have HG : Hid _ := (Q2.out.o.on (al _)).grow hgrow hown; have gx : w3.cell? ⟨b, 11, none⟩ = some (.slice ao m cp) := block_cell HG.out.y.r.x rfl; have fx : w3.frozen? ⟨b, 11, none⟩ = false := block_frozen HG.out.y.r.x 11; clear hown hgrow)
      go_roundw
      case rel =>
        refine ⟨m + 1, sa, sc, HQ.out.1, by go_num, ?_⟩
        rw [HN.out, rowC_append]
        exact HG.out.set 11 (.slice sa (m + 1) sc)
      case measure => simp [intOf]; omega
    · have hml1 : ¬ (m : Int) < v8 := by omega
      have hlm : v9.length = m := by
        have := N9.out v8
        rw [HE9.out] at this
        simp only at this
        omega
      have HE2 : rMany rWr m t8 = (v9, t9) := by rw [← HE9.out]; congr 1; omega
      rw [HE2] at HO
      simp only at HO
      subst hlm
      clear HE2 hm hml
      obtain ⟨ao9, hao9⟩ : ∃ x, ao = x := ⟨_, rfl⟩
      obtain ⟨cp9, hcp9⟩ : ∃ x, cp = x := ⟨_, rfl⟩
      rw [hao9, hcp9] at HO
      clear hao9 hcp9
      obtain ⟨z9, hzk⟩ : ∃ x, wr = x := ⟨_, rfl⟩
      rw [hzk] at HO ⊢
      clear hzk
      have Y10 : Hid (Ry 80 w rb c b #[.int .i64 0, .int .u32 0, .int .u32 0, .int .u64 0, .int .u32 0, .int .u64 0, .int .u32 0, .string ⟨#[]⟩, .string ⟨#[]⟩, .int .i64 0, .int .u8 0, .slice none 0 0, .slice none 0 0] #[.int .i64 (v0 : Int), .int .u32 (v1 : Int), .int .u32 (j1 : Int), .int .u64 (v2 : Int), .int .u32 (j2 : Int), .int .u64 (v3 : Int), .int .u32 (j3 : Int), .string (bs v4), .string (bs v5), .int .i64 (v6 : Int), .int .u8 (v7 : Int), .slice ao9 v9.length cp9, .slice none 0 0] 31 t9 z9) := HO.out.y
      have P9 : Hid (z9.ownsRow B9 65 3 (.slice ao9 v9.length cp9) v9.length (rowC wrc v9) ∧ rb < B9 ∧ b < B9 ∧ c < B9 ∧ w.heap.size ≤ B9) := ⟨HO.out.own, HO.out.hr, HO.out.hb, HO.out.hc, HO.out.low⟩
      clear HO
      go_wp2_with fail
      refine (C10.out _ Y10.out.r.rd).mono ?_
      rintro e x10 ⟨rfl, hr, hs⟩
      have X10 : Hid (Ry 80 w rb c b #[.int .i64 0, .int .u32 0, .int .u32 0, .int .u64 0, .int .u32 0, .int .u64 0, .int .u32 0, .string ⟨#[]⟩, .string ⟨#[]⟩, .int .i64 0, .int .u8 0, .slice none 0 0, .slice none 0 0] #[.int .i64 (v0 : Int), .int .u32 (v1 : Int), .int .u32 (j1 : Int), .int .u64 (v2 : Int), .int .u32 (j2 : Int), .int .u64 (v3 : Int), .int .u32 (j3 : Int), .string (bs v4), .string (bs v5), .int .i64 (v6 : Int), .int .u8 (v7 : Int), .slice ao9 v9.length cp9, .slice none 0 0] 31 t10 x10) := Y10.out.go hr hs
      have P9x : Hid (x10.ownsRow B9 65 3 (.slice ao9 v9.length cp9) v9.length (rowC wrc v9) ∧ rb < B9 ∧ b < B9 ∧ c < B9 ∧ w.heap.size ≤ B9) := ⟨own_sole P9.out.1 hs P9.out.2.1, P9.out.2⟩
      clear P9
      have P9 := P9x
      clear P9x
      clear hr hs C10 Y10
      obtain ⟨B11, hB11⟩ : ∃ B, x10.heap.size = B := ⟨_, rfl⟩
      have O0 : Hid (Ro 80 w rb c b #[.int .i64 0, .int .u32 0, .int .u32 0, .int .u64 0, .int .u32 0, .int .u64 0, .int .u32 0, .string ⟨#[]⟩, .string ⟨#[]⟩, .int .i64 0, .int .u8 0, .slice none 0 0, .slice none 0 0] #[.int .i64 (v0 : Int), .int .u32 (v1 : Int), .int .u32 (j1 : Int), .int .u64 (v2 : Int), .int .u32 (j2 : Int), .int .u64 (v3 : Int), .int .u32 (j3 : Int), .string (bs v4), .string (bs v5), .int .i64 (v6 : Int), .int .u8 (v7 : Int), .slice ao9 v9.length cp9, .slice none 0 0] 31 (rMany rTn 0 t10).2 B11 24 2 (.slice none 0 0) 0 (rowC tnc (rMany rTn 0 t10).1) x10) := by
        rw [← hB11]
        exact ⟨X10.out, own_nil _ _ _ _, lt_of_block X10.out.r.rd, (Array.getElem?_eq_some_iff.1 X10.out.r.x).1, (Array.getElem?_eq_some_iff.1 X10.out.y).1, Nat.le_refl _, X10.out.r.so.size⟩
      have G0 : Hid (Fz B9 65 3 (.slice ao9 v9.length cp9) v9.length (rowC wrc v9) B11 x10 ∧ rb < B9 ∧ b < B9 ∧ c < B9 ∧ w.heap.size ≤ B9) := by rw [← hB11]; exact ⟨fz_new P9.out.1, P9.out.2⟩
      clear P9
      clear hB11 X10
      go_wp2_with fail
      go_loopw [7] (fun i wr => ∃ (m : Nat) (ao : Option Addr) (cp : Nat), m ≤ v10 ∧ i = .int .i64 m ∧ Ro 80 w rb c b #[.int .i64 0, .int .u32 0, .int .u32 0, .int .u64 0, .int .u32 0, .int .u64 0, .int .u32 0, .string ⟨#[]⟩, .string ⟨#[]⟩, .int .i64 0, .int .u8 0, .slice none 0 0, .slice none 0 0] #[.int .i64 (v0 : Int), .int .u32 (v1 : Int), .int .u32 (j1 : Int), .int .u64 (v2 : Int), .int .u32 (j2 : Int), .int .u64 (v3 : Int), .int .u32 (j3 : Int), .string (bs v4), .string (bs v5), .int .i64 (v6 : Int), .int .u8 (v7 : Int), .slice ao9 v9.length cp9, .slice ao m cp] 31 (rMany rTn m t10).2 B11 24 2 (.slice ao m cp) m (rowC tnc (rMany rTn m t10).1) wr ∧ Fz B9 65 3 (.slice ao9 v9.length cp9) v9.length (rowC wrc v9) B11 wr ∧ rb < B9 ∧ b < B9 ∧ c < B9 ∧ w.heap.size ≤ B9) (fun i _ => v10 - (intOf i).toNat)
      case atStart => exact ⟨0, none, 0, Nat.zero_le _, rfl, O0.out, G0.out⟩
      case round =>
        obtain ⟨m, ao, cp, hm, rfl, ho, hfz⟩ := hrel
        have HO : Hid (Ro 80 w rb c b #[.int .i64 0, .int .u32 0, .int .u32 0, .int .u64 0, .int .u32 0, .int .u64 0, .int .u32 0, .string ⟨#[]⟩, .string ⟨#[]⟩, .int .i64 0, .int .u8 0, .slice none 0 0, .slice none 0 0] #[.int .i64 (v0 : Int), .int .u32 (v1 : Int), .int .u32 (j1 : Int), .int .u64 (v2 : Int), .int .u32 (j2 : Int), .int .u64 (v3 : Int), .int .u32 (j3 : Int), .string (bs v4), .string (bs v5), .int .i64 (v6 : Int), .int .u8 (v7 : Int), .slice ao9 v9.length cp9, .slice ao m cp] 31 (rMany rTn m t10).2 B11 24 2 (.slice ao m cp) m (rowC tnc (rMany rTn m t10).1) wr) := ho
        have HFZ : Hid (Fz B9 65 3 (.slice ao9 v9.length cp9) v9.length (rowC wrc v9) B11 wr ∧ rb < B9 ∧ b < B9 ∧ c < B9 ∧ w.heap.size ≤ B9) := hfz
        clear hfz G0
        clear ho O0
        by_cases hml : m < v10
        · have hml1 : (m : Int) < v10 := by omega
          have HQ : Hid (m + 1 ≤ v10 ∧ m ≤ 1000) := ⟨hml, by omega⟩
          have HLm := M11.out m
          have HN : Hid (rMany rTn (m + 1) t10 = ((rMany rTn m t10).1 ++ [(rTn (rMany rTn m t10).2).1], (rTn (rMany rTn m t10).2).2)) := rfl
          obtain ⟨⟨X, sm⟩, hsm⟩ : ∃ p, rMany rTn m t10 = p := ⟨_, rfl⟩
          rw [hsm] at HO HN HLm
          simp only at HO HN HLm
          clear hsm hm hml
          have HXl := HLm
          have E0 : Hid (∀ W, RdAt 80 rb sm W → _) := fun W hW => rtn72 rb sm W hW HXl
          obtain ⟨⟨⟨xc, xn⟩, s0⟩, h0⟩ : ∃ p, rTn sm = p := ⟨_, rfl⟩
          rw [h0] at E0 HN
          simp only at E0 HN
          clear h0 HLm HXl
          have HOD : Hid (Ro 80 w rb c b #[.int .i64 0, .int .u32 0, .int .u32 0, .int .u64 0, .int .u32 0, .int .u64 0, .int .u32 0, .string ⟨#[]⟩, .string ⟨#[]⟩, .int .i64 0, .int .u8 0, .slice none 0 0, .slice none 0 0] #[.int .i64 (v0 : Int), .int .u32 (v1 : Int), .int .u32 (j1 : Int), .int .u64 (v2 : Int), .int .u32 (j2 : Int), .int .u64 (v3 : Int), .int .u32 (j3 : Int), .string (bs v4), .string (bs v5), .int .i64 (v6 : Int), .int .u8 (v7 : Int), .slice ao9 v9.length cp9, .slice ao m cp] 31 sm B11 24 2 (.slice ao m cp) m (rowC tnc X) wr.drew) := HO.out.on (Below.refl _ _).drew
          have HFD : Hid (Fz B9 65 3 (.slice ao9 v9.length cp9) v9.length (rowC wrc v9) B11 wr.drew ∧ rb < B9 ∧ b < B9 ∧ c < B9 ∧ w.heap.size ≤ B9) := ⟨HFZ.out.1.on (Below.refl _ _).drew, HFZ.out.2⟩
          have CD : Hid (1 = 1 → Calls Try.prog 72 #[.pointer (some ⟨rb, 0, none⟩)] wr.drew fun r w' => r = .returned (.agg #[.int .u32 (xc : Int), .int .u32 (xn : Int)]) ∧ (Ro 80 w rb c b #[.int .i64 0, .int .u32 0, .int .u32 0, .int .u64 0, .int .u32 0, .int .u64 0, .int .u32 0, .string ⟨#[]⟩, .string ⟨#[]⟩, .int .i64 0, .int .u8 0, .slice none 0 0, .slice none 0 0] #[.int .i64 (v0 : Int), .int .u32 (v1 : Int), .int .u32 (j1 : Int), .int .u64 (v2 : Int), .int .u32 (j2 : Int), .int .u64 (v3 : Int), .int .u32 (j3 : Int), .string (bs v4), .string (bs v5), .int .i64 (v6 : Int), .int .u8 (v7 : Int), .slice ao9 v9.length cp9, .slice ao m cp] 31 s0 B11 24 2 (.slice ao m cp) m (rowC tnc X) w') ∧ (Fz B9 65 3 (.slice ao9 v9.length cp9) v9.length (rowC wrc v9) B11 w' ∧ rb < B9 ∧ b < B9 ∧ c < B9 ∧ w.heap.size ≤ B9)) := fun _ => (E0.out wr.drew HOD.out.y.r.rd).mono fun r w' h => ⟨h.1, HOD.out.go h.2.1 h.2.2, HFD.out.1.sole h.2.2 HFD.out.2.1, HFD.out.2⟩
          have c1 : wr.drew.cell? ⟨b, 12, none⟩ = some (.slice ao m cp) := block_cell HOD.out.y.r.x rfl
          clear E0
          go_upto_region 21 with fail
          go_region_law (first
            | (refine step_append_rw HOw.out Try.underlying29 hi11 hza11 hzb11 hzc11 rfl (by decide) (by decide) (.tmp 65) (.tmp 68) (by rfl) (by rfl) (by rfl) (by rfl) ?_; intro vv w9 hown hg hat; obtain ⟨sa, sc, hvv⟩ := own_val hown; subst hvv; have H9 : Hid _ := (H6.out.on (al _)).grow hg hown; have F9 : Hid (Fz B9 65 3 (.slice ao9 v9.length cp9) v9.length (rowC wrc v9) B11 w9 ∧ rb < B9 ∧ b < B9 ∧ c < B9 ∧ w.heap.size ≤ B9) := ⟨(F6.out.1.on (al _)).grown hg (fun k hk => (World.ownsRow.lt H6.out.own k hk).1), F6.out.2⟩; have gx : w9.cell? ⟨b, 12, none⟩ = some (.slice ao m cp) := block_cell H9.out.y.r.x rfl; have fx : w9.frozen? ⟨b, 12, none⟩ = false := block_frozen H9.out.y.r.x 12; clear hown hg hat)
            | (refine step_call1 (f := 72) (args := #[.pointer (some ⟨rb, 0, none⟩)]) rfl (by go_simp) ?_; refine (CD.out (by trivial)).mono ?_; rintro e w6 ⟨rfl, h6, h6f⟩; have H6 : Hid (Ro 80 w rb c b #[.int .i64 0, .int .u32 0, .int .u32 0, .int .u64 0, .int .u32 0, .int .u64 0, .int .u32 0, .string ⟨#[]⟩, .string ⟨#[]⟩, .int .i64 0, .int .u8 0, .slice none 0 0, .slice none 0 0] #[.int .i64 (v0 : Int), .int .u32 (v1 : Int), .int .u32 (j1 : Int), .int .u64 (v2 : Int), .int .u32 (j2 : Int), .int .u64 (v3 : Int), .int .u32 (j3 : Int), .string (bs v4), .string (bs v5), .int .i64 (v6 : Int), .int .u8 (v7 : Int), .slice ao9 v9.length cp9, .slice ao m cp] 31 s0 B11 24 2 (.slice ao m cp) m (rowC tnc X) w6) := h6; have F6 : Hid (Fz B9 65 3 (.slice ao9 v9.length cp9) v9.length (rowC wrc v9) B11 w6 ∧ rb < B9 ∧ b < B9 ∧ c < B9 ∧ w.heap.size ≤ B9) := h6f; have c6 : w6.cell? ⟨b, 12, none⟩ = some (.slice ao m cp) := block_cell h6.y.r.x rfl; have c7 : (w6.alloc (.cells #[.int .u32 (xc : Int), .int .u32 (xn : Int)] 24)).cell? ⟨b, 12, none⟩ = some (.slice ao m cp) := block_cell (h6.on (al _)).y.r.x rfl; have HOw : Hid (Ow B11 24 2 (.slice ao m cp) m (rowC tnc X) (w6.heap.size + 1) (.slice (some ⟨w6.heap.size, 0, none⟩) 1 1) 1 (rowC tnc [⟨xc, xn⟩]) (w6.alloc (.cells #[.int .u32 (xc : Int), .int .u32 (xn : Int)] 24))) := thing_ow tnc_len tnc_one ⟨xc, xn⟩ h6.own h6.big HQ.out.2; clear h6 h6f; dsimp only))
          all_goals
            obtain ⟨y9, hy9⟩ : ∃ y9, w9.setCell ⟨b, 12, none⟩ (.slice sa (m + 1) sc) = y9 := ⟨_, rfl⟩
            have HY9 : Hid _ := H9.out.set 12 (.slice sa (m + 1) sc)
            have FY9 : Hid (Fz B9 65 3 (.slice ao9 v9.length cp9) v9.length (rowC wrc v9) B11 y9 ∧ rb < B9 ∧ b < B9 ∧ c < B9 ∧ w.heap.size ≤ B9) := by rw [← hy9]; exact ⟨F9.out.1.set F9.out.2.2.1 _ _, F9.out.2⟩
            rw [hy9] at HY9
            clear H9 F9 H6 F6 HOw CD HO HOD HFZ HFD c1 c6 c7 gx fx
            go_wp2_with fail
            go_roundw
            case rel =>
              refine ⟨m + 1, sa, sc, HQ.out.1, by go_num, ?_, FY9.out⟩
              rw [HN.out, rowC_append]
              exact HY9.out
            case measure => simp [intOf]; omega
        · have hml1 : ¬ (m : Int) < v10 := by omega
          have hlm : v11.length = m := by
            have := N11.out v10
            rw [HE11.out] at this
            simp only at this
            omega
          have HE2 : rMany rTn m t10 = (v11, t11) := by rw [← HE11.out]; congr 1; omega
          rw [HE2] at HO
          simp only at HO
          subst hlm
          clear HE2 hm hml
          obtain ⟨ao11, hao11⟩ : ∃ x, ao = x := ⟨_, rfl⟩
          obtain ⟨cp11, hcp11⟩ : ∃ x, cp = x := ⟨_, rfl⟩
          rw [hao11, hcp11] at HO
          clear hao11 hcp11
          obtain ⟨z11, hzk⟩ : ∃ x, wr = x := ⟨_, rfl⟩
          rw [hzk] at HO ⊢
          rw [hzk] at HFZ
          clear hzk
          have Y12 : Hid (Ry 80 w rb c b #[.int .i64 0, .int .u32 0, .int .u32 0, .int .u64 0, .int .u32 0, .int .u64 0, .int .u32 0, .string ⟨#[]⟩, .string ⟨#[]⟩, .int .i64 0, .int .u8 0, .slice none 0 0, .slice none 0 0] #[.int .i64 (v0 : Int), .int .u32 (v1 : Int), .int .u32 (j1 : Int), .int .u64 (v2 : Int), .int .u32 (j2 : Int), .int .u64 (v3 : Int), .int .u32 (j3 : Int), .string (bs v4), .string (bs v5), .int .i64 (v6 : Int), .int .u8 (v7 : Int), .slice ao9 v9.length cp9, .slice ao11 v11.length cp11] 31 t11 z11) := HO.out.y
          have P11 : Hid (z11.ownsRow B11 24 2 (.slice ao11 v11.length cp11) v11.length (rowC tnc v11) ∧ rb < B11 ∧ b < B11 ∧ c < B11 ∧ w.heap.size ≤ B11) := ⟨HO.out.own, HO.out.hr, HO.out.hb, HO.out.hc, HO.out.low⟩
          have P9 : Hid (z11.ownsRow B9 65 3 (.slice ao9 v9.length cp9) v9.length (rowC wrc v9) ∧ rb < B9 ∧ b < B9 ∧ c < B9 ∧ w.heap.size ≤ B9) := ⟨HFZ.out.1.own, HFZ.out.2⟩
          clear HFZ
          clear HO
          go_wp2_with (first
            | (refine wpList_load_row rfl 31 _ rfl b rfl 31 _ (0, 0) _ Y12.out.r.x Try.underlying31 rfl (by kernel_rfl) ?_)
            | (refine wpList_store_row rfl 31 _ _ rfl c #[.int .i64 (v0 : Int), .int .u32 (v1 : Int), .int .u32 (j1 : Int), .int .u64 (v2 : Int), .int .u32 (j2 : Int), .int .u64 (v3 : Int), .int .u32 (j3 : Int), .string (bs v4), .string (bs v5), .int .i64 (v6 : Int), .int .u8 (v7 : Int), .slice ao9 v9.length cp9, .slice ao11 v11.length cp11] rfl rfl 31 _ Y12.out.y (by kernel_rfl) rfl (by simp [Value.oneCell']) ?_))
          have YR : Hid (Rx 80 w rb c #[.int .i64 (v0 : Int), .int .u32 (v1 : Int), .int .u32 (j1 : Int), .int .u64 (v2 : Int), .int .u32 (j2 : Int), .int .u64 (v3 : Int), .int .u32 (j3 : Int), .string (bs v4), .string (bs v5), .int .i64 (v6 : Int), .int .u8 (v7 : Int), .slice ao9 v9.length cp9, .slice ao11 v11.length cp11] 31 t11 (z11.setRow c #[.int .i64 (v0 : Int), .int .u32 (v1 : Int), .int .u32 (j1 : Int), .int .u64 (v2 : Int), .int .u32 (j2 : Int), .int .u64 (v3 : Int), .int .u32 (j3 : Int), .string (bs v4), .string (bs v5), .int .i64 (v6 : Int), .int .u8 (v7 : Int), .slice ao9 v9.length cp9, .slice ao11 v11.length cp11])) := Rx.row ⟨Y12.out.r.rd, Y12.out.r.so, Y12.out.y, Y12.out.nr, Y12.out.nw⟩ _
          (try simp only [Exit.inBlock, Exit.then])
          refine bodyPost_ret (results_cell_row rfl _ _ c 31 _ (0, 0) _ rfl YR.out.x Try.underlying31 rfl (by kernel_rfl)) rfl ?_
          rw [HF.out]
          exact ⟨ao9, cp9, ao11, cp11, rfl, own_le (row_own P9.out.1 P9.out.2.2.2.1 _) P9.out.2.2.2.2, own_le (row_own P11.out.1 P11.out.2.2.2.1 _) P11.out.2.2.2.2, YR.out.rd, YR.out.so⟩
end Go.Proofs.Ytmldgfepnmencaa
