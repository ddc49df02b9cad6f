/-
  The program's Read: requests and replies.
-/
import Derived.Test.YtmldgfepnmencaaGa
namespace Go.Proofs.Ytmldgfepnmencaa
open Go.RowKit Go.Sort Go.Shelf

/-- A Reader, the result's box and a box of the call's own. -/
structure Ry (T : Nat) (w : World) (rb c b : Nat) (zs cs : Array Value) (ty : TypeId) (st : St) (W : World) : Prop where
  r : Rx T w rb b cs ty st W
  y : W.heap[c]? = some (.cells zs ty (0, 0))
  nr : c ≠ rb
  nb : c ≠ b
  nw : w.heap.size ≤ c
variable {T : Nat} {w W W' : World} {rb c b : Nat} {zs cs : Array Value} {ty : TypeId} {st st' : St}
theorem ry_new (h : RdAt T rb st w) (zs : Array Value) (ty : TypeId) : Ry T w rb w.heap.size (w.heap.size + 1) zs zs ty st ((w.alloc (.cells zs ty)).alloc (.cells zs ty)) := by
  have h1 := rx_new h zs ty
  have hs : (w.alloc (.cells zs ty)).heap.size = w.heap.size + 1 := size_al w _
  have h2 := rx_new h1.rd zs ty
  rw [hs] at h2
  have hl := lt_of_block h
  refine ⟨⟨h2.rd, h1.so.trans h2.so, h2.x, by omega, by omega⟩, ?_, by omega, by omega, Nat.le_refl _⟩
  rw [(al (W := w.alloc (.cells zs ty)) _).block _ (by rw [hs]; omega)]
  exact h1.x
theorem Ry.go (h : Ry T w rb c b zs cs ty st W) (hr : RdAt T rb st' W') (hs : Sole rb W W') : Ry T w rb c b zs cs ty st' W' :=
  ⟨h.r.go hr hs, by rw [hs.block c (Array.getElem?_eq_some_iff.1 h.y).1 h.nr]; exact h.y, h.nr, h.nb, h.nw⟩
theorem Ry.set (h : Ry T w rb c b zs cs ty st W) (j : Nat) (u : Value) : Ry T w rb c b zs (cs.setIfInBounds j u) ty st (W.setCell ⟨b, j, none⟩ u) :=
  ⟨h.r.set j u, by rw [Below.heap_setCell _ _ _ _ h.nb]; exact h.y, h.nr, h.nb, h.nw⟩
theorem set_own {base e size : Nat} {v : Value} {n : Nat} {xs : List Value} (h : W.ownsRow base e size v n xs) (hb : b < base) (j : Nat) (u : Value) : (W.setCell ⟨b, j, none⟩ u).ownsRow base e size v n xs :=
  own_kept h (set_kept' W b j u) (fun k hk e => by have := (World.ownsRow.lt h k hk).1; omega)
theorem row_kept (W : World) (b : Nat) (ds : Array Value) : Kept (fun k => k = b) W (W.setRow b ds) :=
  ⟨rfl, rfl, rfl, by rw [size_setRow]; exact Nat.le_refl _, fun k _ hne => setRow_other W b k ds hne⟩
theorem row_own {base e size : Nat} {v : Value} {n : Nat} {xs : List Value} (h : W.ownsRow base e size v n xs) (hb : b < base) (ds : Array Value) : (W.setRow b ds).ownsRow base e size v n xs :=
  own_kept h (row_kept W b ds) (fun k hk e => by have := (World.ownsRow.lt h k hk).1; omega)
set_option maxHeartbeats 6400000 in
set_option maxRecDepth 100000 in
theorem ask32 (rb : Nat) (st : St) (w : World) (h : RdAt 98 rb st w) (hl : st.l.length < 4611686018427387904) :
    Calls Try.prog 32 #[.pointer (some ⟨rb, 0, none⟩)] w fun e w' => ∃ (ao8 : Option Addr) (cp8 : Nat) (ao9 : Option Addr) (cp9 : Nat), e = .returned (.agg #[.int .i64 (rawQ st).1.k, .int .u32 ((rawQ st).1.c : Int), .int .u32 ((rawQ st).1.n : Int), .int .u64 ((rawQ st).1.sp : Int), .int .u32 ((rawQ st).1.sl : Int), .int .u64 ((rawQ st).1.ap : Int), .int .u32 ((rawQ st).1.al : Int), .string (bs (rawQ st).1.key), .string (bs (rawQ st).1.to), .int .i64 (rawQ st).1.lim, .int .u8 ((rawQ st).1.pt : Int), .slice ao8 (rawQ st).1.ws.length cp8, .slice ao9 (rawQ st).1.sk.length cp9]) ∧ w'.ownsRow w.heap.size 65 3 (.slice ao8 (rawQ st).1.ws.length cp8) (rawQ st).1.ws.length (rowC wrc (rawQ st).1.ws) ∧ w'.ownsRow w.heap.size 24 2 (.slice ao9 (rawQ st).1.sk.length cp9) (rawQ st).1.sk.length (rowC tnc (rawQ st).1.sk) ∧ RdAt 98 rb (rawQ st).2 w' ∧ Sole rb w w' := by
  have H0 : Hid _ := ry_new h #[.int .i64 0, .int .u32 0, .int .u32 0, .int .u64 0, .int .u32 0, .int .u64 0, .int .u32 0, .string ⟨#[]⟩, .string ⟨#[]⟩, .int .i64 0, .int .u8 0, .slice none 0 0, .slice none 0 0] 31
  have hrb := lt_of_block h
  obtain ⟨W0, hW0⟩ : ∃ W0, w.alloc (.cells #[.int .i64 0, .int .u32 0, .int .u32 0, .int .u64 0, .int .u32 0, .int .u64 0, .int .u32 0, .string ⟨#[]⟩, .string ⟨#[]⟩, .int .i64 0, .int .u8 0, .slice none 0 0, .slice none 0 0] 31) = W0 := ⟨_, rfl⟩
  obtain ⟨W1, hW1⟩ : ∃ W1, W0.alloc (.cells #[.int .i64 0, .int .u32 0, .int .u32 0, .int .u64 0, .int .u32 0, .int .u64 0, .int .u32 0, .string ⟨#[]⟩, .string ⟨#[]⟩, .int .i64 0, .int .u8 0, .slice none 0 0, .slice none 0 0] 31) = W1 := ⟨_, rfl⟩
  obtain ⟨c, hc⟩ : ∃ b, w.heap.size = b := ⟨_, rfl⟩
  obtain ⟨b, hb⟩ : ∃ b, c + 1 = b := ⟨_, rfl⟩
  have hsz : W0.heap.size = b := by rw [← hb, ← hc, ← hW0]; simp
  have Y0 : Hid (Ry 98 w rb c b #[.int .i64 0, .int .u32 0, .int .u32 0, .int .u64 0, .int .u32 0, .int .u64 0, .int .u32 0, .string ⟨#[]⟩, .string ⟨#[]⟩, .int .i64 0, .int .u8 0, .slice none 0 0, .slice none 0 0] #[.int .i64 0, .int .u32 0, .int .u32 0, .int .u64 0, .int .u32 0, .int .u64 0, .int .u32 0, .string ⟨#[]⟩, .string ⟨#[]⟩, .int .i64 0, .int .u8 0, .slice none 0 0, .slice none 0 0] 31 st W1) := by rw [← hW1, ← hW0, ← hb, ← hc]; exact H0.out
  have HCB : Hid (∀ W, Sole rb w W → b < W.heap.size → c < W.heap.size) := fun W _ h => by omega
  clear H0 h
  have C0 : Hid (∀ W, RdAt 98 rb st W → _) := fun W hW => num20 rb st 9 W hW (by omega)
  have L0 := num_le63 9 _ hl
  have D0 := (rdNum_le 9 st).1
  obtain ⟨⟨v0, t0⟩, h0⟩ : ∃ p, rdNum 9 st = p := ⟨_, rfl⟩
  rw [h0] at C0 L0 D0
  simp only at C0 L0 D0
  have C1 : Hid (∀ W, RdAt 98 rb t0 W → _) := fun W hW => ttn63 rb t0 W hW L0
  have L1 := tn_le63 _ L0
  obtain ⟨⟨⟨v1, u1⟩, t1⟩, h1⟩ : ∃ p, rTn t0 = p := ⟨_, rfl⟩
  rw [h1] at C1 L1
  simp only at C1 L1
  have C2 : Hid (∀ W, RdAt 98 rb t1 W → _) := fun W hW => stamp23 rb t1 W hW (by omega)
  have L2 := stamp_le63 _ L1
  obtain ⟨⟨⟨v2, u2⟩, t2⟩, h2⟩ : ∃ p, rdStamp t1 = p := ⟨_, rfl⟩
  rw [h2] at C2 L2
  simp only at C2 L2
  have C3 : Hid (∀ W, RdAt 98 rb t2 W → _) := fun W hW => stamp23 rb t2 W hW (by omega)
  have L3 := stamp_le63 _ L2
  obtain ⟨⟨⟨v3, u3⟩, t3⟩, h3⟩ : ∃ p, rdStamp t2 = p := ⟨_, rfl⟩
  rw [h3] at C3 L3
  simp only at C3 L3
  have C4 : Hid (∀ W, RdAt 98 rb t3 W → _) := fun W hW => text21 rb t3 0 32 W hW (by omega) (by omega) (by omega) (by omega) (by omega)
  have L4 := text_le63 0 32 _ L3
  obtain ⟨⟨v4, t4⟩, h4⟩ : ∃ p, rdText 0 32 t3 = p := ⟨_, rfl⟩
  rw [h4] at C4 L4
  simp only at C4 L4
  have C5 : Hid (∀ W, RdAt 98 rb t4 W → _) := fun W hW => text21 rb t4 0 32 W hW (by omega) (by omega) (by omega) (by omega) (by omega)
  have L5 := text_le63 0 32 _ L4
  obtain ⟨⟨v5, t5⟩, h5⟩ : ∃ p, rdText 0 32 t4 = p := ⟨_, rfl⟩
  rw [h5] at C5 L5
  simp only at C5 L5
  have C6 : Hid (∀ W, RdAt 98 rb t5 W → _) := fun W hW => num20 rb t5 32 W hW (by omega)
  have L6 := num_le63 32 _ L5
  have D6 := (rdNum_le 32 t5).1
  obtain ⟨⟨v6, t6⟩, h6⟩ : ∃ p, rdNum 32 t5 = p := ⟨_, rfl⟩
  rw [h6] at C6 L6 D6
  simp only at C6 L6 D6
  have C7 : Hid (∀ W, RdAt 98 rb t6 W → _) := fun W hW => num20 rb t6 255 W hW (by omega)
  have L7 := num_le63 255 _ L6
  have D7 := (rdNum_le 255 t6).1
  obtain ⟨⟨v7, t7⟩, h7⟩ : ∃ p, rdNum 255 t6 = p := ⟨_, rfl⟩
  rw [h7] at C7 L7 D7
  simp only at C7 L7 D7
  have C8 : Hid (∀ W, RdAt 98 rb t7 W → _) := fun W hW => tws65 rb t7 W hW L7
  have L8 := list_le63 wr_le63 16 _ L7
  obtain ⟨⟨v8, t8⟩, h8⟩ : ∃ p, rList rWr 16 t7 = p := ⟨_, rfl⟩
  rw [h8] at C8 L8
  simp only at C8 L8
  have C9 : Hid (∀ W, RdAt 98 rb t8 W → _) := fun W hW => tts67 rb t8 W hW L8
  have L9 := list_le63 tn_le63 16 _ L8
  obtain ⟨⟨v9, t9⟩, h9⟩ : ∃ p, rList rTn 16 t8 = p := ⟨_, rfl⟩
  rw [h9] at C9 L9
  simp only at C9 L9
  have HF : Hid (rawQ st = (⟨(v0 : Int), v1, u1, v2, u2, v3, u3, v4, v5, (v6 : Int), v7, v8, v9⟩, t9)) := by
    show _ = _
    unfold rawQ
    simp only [h0, h1, h2, h3, h4, h5, h6, h7, h8, h9]
  clear h0 L0 h1 L1 h2 L2 h3 L3 h4 L4 h5 L5 h6 L6 h7 L7 h8 L8 h9 L9
  go_enter Try.func32, Try.ntmps32
  go_wp2_with fail
  refine (C0.out _ Y0.out.r.rd).mono ?_
  rintro e x0 ⟨rfl, hr, hs⟩
  have X0 : Hid (Ry 98 w rb c b #[.int .i64 0, .int .u32 0, .int .u32 0, .int .u64 0, .int .u32 0, .int .u64 0, .int .u32 0, .string ⟨#[]⟩, .string ⟨#[]⟩, .int .i64 0, .int .u8 0, .slice none 0 0, .slice none 0 0] #[.int .i64 0, .int .u32 0, .int .u32 0, .int .u64 0, .int .u32 0, .int .u64 0, .int .u32 0, .string ⟨#[]⟩, .string ⟨#[]⟩, .int .i64 0, .int .u8 0, .slice none 0 0, .slice none 0 0] 31 t0 x0) := Y0.out.go hr hs
  clear hW0 hW1 hc hb hsz
  clear hr hs C0 Y0
  have p0 : x0.cell? ⟨b, 0, none⟩ = some (.int .i64 0) := block_cell X0.out.r.x rfl
  have f0 : x0.frozen? ⟨b, 0, none⟩ = false := block_frozen X0.out.r.x 0
  obtain ⟨z0, hz0⟩ : ∃ z, (x0.setCell ⟨b, 0, none⟩ (.int .i64 (v0 : Int))) = z := ⟨_, rfl⟩
  have Y1 : Hid (Ry 98 w rb c b #[.int .i64 0, .int .u32 0, .int .u32 0, .int .u64 0, .int .u32 0, .int .u64 0, .int .u32 0, .string ⟨#[]⟩, .string ⟨#[]⟩, .int .i64 0, .int .u8 0, .slice none 0 0, .slice none 0 0] #[.int .i64 (v0 : Int), .int .u32 0, .int .u32 0, .int .u64 0, .int .u32 0, .int .u64 0, .int .u32 0, .string ⟨#[]⟩, .string ⟨#[]⟩, .int .i64 0, .int .u8 0, .slice none 0 0, .slice none 0 0] 31 t0 z0) := by rw [← hz0]; exact (X0.out.set 0 (.int .i64 (v0 : Int)))
  clear X0
  go_upto_region 3 with fail
  clear hz0 p0 f0
  go_wp2_with fail
  refine (C1.out _ Y1.out.r.rd).mono ?_
  rintro e x1 ⟨rfl, hr, hs⟩
  have X1 : Hid (Ry 98 w rb c b #[.int .i64 0, .int .u32 0, .int .u32 0, .int .u64 0, .int .u32 0, .int .u64 0, .int .u32 0, .string ⟨#[]⟩, .string ⟨#[]⟩, .int .i64 0, .int .u8 0, .slice none 0 0, .slice none 0 0] #[.int .i64 (v0 : Int), .int .u32 0, .int .u32 0, .int .u64 0, .int .u32 0, .int .u64 0, .int .u32 0, .string ⟨#[]⟩, .string ⟨#[]⟩, .int .i64 0, .int .u8 0, .slice none 0 0, .slice none 0 0] 31 t1 x1) := Y1.out.go hr hs
  clear hr hs C1 Y1
  have p1 : x1.cell? ⟨b, 1, none⟩ = some (.int .u32 0) := block_cell X1.out.r.x rfl
  have p2 : x1.cell? ⟨b, 2, none⟩ = some (.int .u32 0) := block_cell X1.out.r.x rfl
  have f1 : x1.frozen? ⟨b, 1, none⟩ = false := block_frozen X1.out.r.x 1
  have f2 : x1.frozen? ⟨b, 2, none⟩ = false := block_frozen X1.out.r.x 2
  obtain ⟨z1, hz1⟩ : ∃ z, ((x1.setCell ⟨b, 1, none⟩ (.int .u32 (v1 : Int))).setCell ⟨b, 2, none⟩ (.int .u32 (u1 : Int))) = z := ⟨_, rfl⟩
  have Y2 : Hid (Ry 98 w rb c b #[.int .i64 0, .int .u32 0, .int .u32 0, .int .u64 0, .int .u32 0, .int .u64 0, .int .u32 0, .string ⟨#[]⟩, .string ⟨#[]⟩, .int .i64 0, .int .u8 0, .slice none 0 0, .slice none 0 0] #[.int .i64 (v0 : Int), .int .u32 (v1 : Int), .int .u32 (u1 : Int), .int .u64 0, .int .u32 0, .int .u64 0, .int .u32 0, .string ⟨#[]⟩, .string ⟨#[]⟩, .int .i64 0, .int .u8 0, .slice none 0 0, .slice none 0 0] 31 t1 z1) := by rw [← hz1]; exact ((X1.out.set 1 (.int .u32 (v1 : Int))).set 2 (.int .u32 (u1 : Int)))
  clear X1
  go_upto_region 4 with fail
  clear hz1 p1 f1 p2 f2
  go_wp2_with fail
  refine (C2.out _ Y2.out.r.rd).mono ?_
  rintro e x2 ⟨rfl, hr, hs⟩
  have X2 : Hid (Ry 98 w rb c b #[.int .i64 0, .int .u32 0, .int .u32 0, .int .u64 0, .int .u32 0, .int .u64 0, .int .u32 0, .string ⟨#[]⟩, .string ⟨#[]⟩, .int .i64 0, .int .u8 0, .slice none 0 0, .slice none 0 0] #[.int .i64 (v0 : Int), .int .u32 (v1 : Int), .int .u32 (u1 : Int), .int .u64 0, .int .u32 0, .int .u64 0, .int .u32 0, .string ⟨#[]⟩, .string ⟨#[]⟩, .int .i64 0, .int .u8 0, .slice none 0 0, .slice none 0 0] 31 t2 x2) := Y2.out.go hr hs
  clear hr hs C2 Y2
  have p3 : x2.cell? ⟨b, 3, none⟩ = some (.int .u64 0) := block_cell X2.out.r.x rfl
  have p4 : x2.cell? ⟨b, 4, none⟩ = some (.int .u32 0) := block_cell X2.out.r.x rfl
  have f3 : x2.frozen? ⟨b, 3, none⟩ = false := block_frozen X2.out.r.x 3
  have f4 : x2.frozen? ⟨b, 4, none⟩ = false := block_frozen X2.out.r.x 4
  obtain ⟨z2, hz2⟩ : ∃ z, ((x2.setCell ⟨b, 3, none⟩ (.int .u64 (v2 : Int))).setCell ⟨b, 4, none⟩ (.int .u32 (u2 : Int))) = z := ⟨_, rfl⟩
  have Y3 : Hid (Ry 98 w rb c b #[.int .i64 0, .int .u32 0, .int .u32 0, .int .u64 0, .int .u32 0, .int .u64 0, .int .u32 0, .string ⟨#[]⟩, .string ⟨#[]⟩, .int .i64 0, .int .u8 0, .slice none 0 0, .slice none 0 0] #[.int .i64 (v0 : Int), .int .u32 (v1 : Int), .int .u32 (u1 : Int), .int .u64 (v2 : Int), .int .u32 (u2 : Int), .int .u64 0, .int .u32 0, .string ⟨#[]⟩, .string ⟨#[]⟩, .int .i64 0, .int .u8 0, .slice none 0 0, .slice none 0 0] 31 t2 z2) := by rw [← hz2]; exact ((X2.out.set 3 (.int .u64 (v2 : Int))).set 4 (.int .u32 (u2 : Int)))
  clear X2
  go_upto_region 5 with fail
  clear hz2 p3 f3 p4 f4
  go_wp2_with fail
  refine (C3.out _ Y3.out.r.rd).mono ?_
  rintro e x3 ⟨rfl, hr, hs⟩
  have X3 : Hid (Ry 98 w rb c b #[.int .i64 0, .int .u32 0, .int .u32 0, .int .u64 0, .int .u32 0, .int .u64 0, .int .u32 0, .string ⟨#[]⟩, .string ⟨#[]⟩, .int .i64 0, .int .u8 0, .slice none 0 0, .slice none 0 0] #[.int .i64 (v0 : Int), .int .u32 (v1 : Int), .int .u32 (u1 : Int), .int .u64 (v2 : Int), .int .u32 (u2 : Int), .int .u64 0, .int .u32 0, .string ⟨#[]⟩, .string ⟨#[]⟩, .int .i64 0, .int .u8 0, .slice none 0 0, .slice none 0 0] 31 t3 x3) := Y3.out.go hr hs
  clear hr hs C3 Y3
  have p5 : x3.cell? ⟨b, 5, none⟩ = some (.int .u64 0) := block_cell X3.out.r.x rfl
  have p6 : x3.cell? ⟨b, 6, none⟩ = some (.int .u32 0) := block_cell X3.out.r.x rfl
  have f5 : x3.frozen? ⟨b, 5, none⟩ = false := block_frozen X3.out.r.x 5
  have f6 : x3.frozen? ⟨b, 6, none⟩ = false := block_frozen X3.out.r.x 6
  obtain ⟨z3, hz3⟩ : ∃ z, ((x3.setCell ⟨b, 5, none⟩ (.int .u64 (v3 : Int))).setCell ⟨b, 6, none⟩ (.int .u32 (u3 : Int))) = z := ⟨_, rfl⟩
  have Y4 : Hid (Ry 98 w rb c b #[.int .i64 0, .int .u32 0, .int .u32 0, .int .u64 0, .int .u32 0, .int .u64 0, .int .u32 0, .string ⟨#[]⟩, .string ⟨#[]⟩, .int .i64 0, .int .u8 0, .slice none 0 0, .slice none 0 0] #[.int .i64 (v0 : Int), .int .u32 (v1 : Int), .int .u32 (u1 : Int), .int .u64 (v2 : Int), .int .u32 (u2 : Int), .int .u64 (v3 : Int), .int .u32 (u3 : Int), .string ⟨#[]⟩, .string ⟨#[]⟩, .int .i64 0, .int .u8 0, .slice none 0 0, .slice none 0 0] 31 t3 z3) := by rw [← hz3]; exact ((X3.out.set 5 (.int .u64 (v3 : Int))).set 6 (.int .u32 (u3 : Int)))
  clear X3
  go_upto_region 6 with fail
  clear hz3 p5 f5 p6 f6
  go_wp2_with fail
  refine (C4.out _ Y4.out.r.rd).mono ?_
  rintro e x4 ⟨rfl, hr, hs⟩
  have X4 : Hid (Ry 98 w rb c b #[.int .i64 0, .int .u32 0, .int .u32 0, .int .u64 0, .int .u32 0, .int .u64 0, .int .u32 0, .string ⟨#[]⟩, .string ⟨#[]⟩, .int .i64 0, .int .u8 0, .slice none 0 0, .slice none 0 0] #[.int .i64 (v0 : Int), .int .u32 (v1 : Int), .int .u32 (u1 : Int), .int .u64 (v2 : Int), .int .u32 (u2 : Int), .int .u64 (v3 : Int), .int .u32 (u3 : Int), .string ⟨#[]⟩, .string ⟨#[]⟩, .int .i64 0, .int .u8 0, .slice none 0 0, .slice none 0 0] 31 t4 x4) := Y4.out.go hr hs
  clear hr hs C4 Y4
  have p7 : x4.cell? ⟨b, 7, none⟩ = some (.string ⟨#[]⟩) := block_cell X4.out.r.x rfl
  have f7 : x4.frozen? ⟨b, 7, none⟩ = false := block_frozen X4.out.r.x 7
  obtain ⟨z4, hz4⟩ : ∃ z, (x4.setCell ⟨b, 7, none⟩ (.string (bs v4))) = z := ⟨_, rfl⟩
  have Y5 : Hid (Ry 98 w rb c b #[.int .i64 0, .int .u32 0, .int .u32 0, .int .u64 0, .int .u32 0, .int .u64 0, .int .u32 0, .string ⟨#[]⟩, .string ⟨#[]⟩, .int .i64 0, .int .u8 0, .slice none 0 0, .slice none 0 0] #[.int .i64 (v0 : Int), .int .u32 (v1 : Int), .int .u32 (u1 : Int), .int .u64 (v2 : Int), .int .u32 (u2 : Int), .int .u64 (v3 : Int), .int .u32 (u3 : Int), .string (bs v4), .string ⟨#[]⟩, .int .i64 0, .int .u8 0, .slice none 0 0, .slice none 0 0] 31 t4 z4) := by rw [← hz4]; exact (X4.out.set 7 (.string (bs v4)))
  clear X4
  go_upto_region 7 with fail
  clear hz4 p7 f7
  go_wp2_with fail
  refine (C5.out _ Y5.out.r.rd).mono ?_
  rintro e x5 ⟨rfl, hr, hs⟩
  have X5 : Hid (Ry 98 w rb c b #[.int .i64 0, .int .u32 0, .int .u32 0, .int .u64 0, .int .u32 0, .int .u64 0, .int .u32 0, .string ⟨#[]⟩, .string ⟨#[]⟩, .int .i64 0, .int .u8 0, .slice none 0 0, .slice none 0 0] #[.int .i64 (v0 : Int), .int .u32 (v1 : Int), .int .u32 (u1 : Int), .int .u64 (v2 : Int), .int .u32 (u2 : Int), .int .u64 (v3 : Int), .int .u32 (u3 : Int), .string (bs v4), .string ⟨#[]⟩, .int .i64 0, .int .u8 0, .slice none 0 0, .slice none 0 0] 31 t5 x5) := Y5.out.go hr hs
  clear hr hs C5 Y5
  have p8 : x5.cell? ⟨b, 8, none⟩ = some (.string ⟨#[]⟩) := block_cell X5.out.r.x rfl
  have f8 : x5.frozen? ⟨b, 8, none⟩ = false := block_frozen X5.out.r.x 8
  obtain ⟨z5, hz5⟩ : ∃ z, (x5.setCell ⟨b, 8, none⟩ (.string (bs v5))) = z := ⟨_, rfl⟩
  have Y6 : Hid (Ry 98 w rb c b #[.int .i64 0, .int .u32 0, .int .u32 0, .int .u64 0, .int .u32 0, .int .u64 0, .int .u32 0, .string ⟨#[]⟩, .string ⟨#[]⟩, .int .i64 0, .int .u8 0, .slice none 0 0, .slice none 0 0] #[.int .i64 (v0 : Int), .int .u32 (v1 : Int), .int .u32 (u1 : Int), .int .u64 (v2 : Int), .int .u32 (u2 : Int), .int .u64 (v3 : Int), .int .u32 (u3 : Int), .string (bs v4), .string (bs v5), .int .i64 0, .int .u8 0, .slice none 0 0, .slice none 0 0] 31 t5 z5) := by rw [← hz5]; exact (X5.out.set 8 (.string (bs v5)))
  clear X5
  go_upto_region 8 with fail
  clear hz5 p8 f8
  go_wp2_with fail
  refine (C6.out _ Y6.out.r.rd).mono ?_
  rintro e x6 ⟨rfl, hr, hs⟩
  have X6 : Hid (Ry 98 w rb c b #[.int .i64 0, .int .u32 0, .int .u32 0, .int .u64 0, .int .u32 0, .int .u64 0, .int .u32 0, .string ⟨#[]⟩, .string ⟨#[]⟩, .int .i64 0, .int .u8 0, .slice none 0 0, .slice none 0 0] #[.int .i64 (v0 : Int), .int .u32 (v1 : Int), .int .u32 (u1 : Int), .int .u64 (v2 : Int), .int .u32 (u2 : Int), .int .u64 (v3 : Int), .int .u32 (u3 : Int), .string (bs v4), .string (bs v5), .int .i64 0, .int .u8 0, .slice none 0 0, .slice none 0 0] 31 t6 x6) := Y6.out.go hr hs
  clear hr hs C6 Y6
  have p9 : x6.cell? ⟨b, 9, none⟩ = some (.int .i64 0) := block_cell X6.out.r.x rfl
  have f9 : x6.frozen? ⟨b, 9, none⟩ = false := block_frozen X6.out.r.x 9
  obtain ⟨z6, hz6⟩ : ∃ z, (x6.setCell ⟨b, 9, none⟩ (.int .i64 (v6 : Int))) = z := ⟨_, rfl⟩
  have Y7 : Hid (Ry 98 w rb c b #[.int .i64 0, .int .u32 0, .int .u32 0, .int .u64 0, .int .u32 0, .int .u64 0, .int .u32 0, .string ⟨#[]⟩, .string ⟨#[]⟩, .int .i64 0, .int .u8 0, .slice none 0 0, .slice none 0 0] #[.int .i64 (v0 : Int), .int .u32 (v1 : Int), .int .u32 (u1 : Int), .int .u64 (v2 : Int), .int .u32 (u2 : Int), .int .u64 (v3 : Int), .int .u32 (u3 : Int), .string (bs v4), .string (bs v5), .int .i64 (v6 : Int), .int .u8 0, .slice none 0 0, .slice none 0 0] 31 t6 z6) := by rw [← hz6]; exact (X6.out.set 9 (.int .i64 (v6 : Int)))
  clear X6
  go_upto_region 9 with fail
  clear hz6 p9 f9
  go_wp2_with fail
  refine (C7.out _ Y7.out.r.rd).mono ?_
  rintro e x7 ⟨rfl, hr, hs⟩
  have X7 : Hid (Ry 98 w rb c b #[.int .i64 0, .int .u32 0, .int .u32 0, .int .u64 0, .int .u32 0, .int .u64 0, .int .u32 0, .string ⟨#[]⟩, .string ⟨#[]⟩, .int .i64 0, .int .u8 0, .slice none 0 0, .slice none 0 0] #[.int .i64 (v0 : Int), .int .u32 (v1 : Int), .int .u32 (u1 : Int), .int .u64 (v2 : Int), .int .u32 (u2 : Int), .int .u64 (v3 : Int), .int .u32 (u3 : Int), .string (bs v4), .string (bs v5), .int .i64 (v6 : Int), .int .u8 0, .slice none 0 0, .slice none 0 0] 31 t7 x7) := Y7.out.go hr hs
  clear hr hs C7 Y7
  have p10 : x7.cell? ⟨b, 10, none⟩ = some (.int .u8 0) := block_cell X7.out.r.x rfl
  have f10 : x7.frozen? ⟨b, 10, none⟩ = false := block_frozen X7.out.r.x 10
  obtain ⟨z7, hz7⟩ : ∃ z, (x7.setCell ⟨b, 10, none⟩ (.int .u8 (v7 : Int))) = z := ⟨_, rfl⟩
  have Y8 : Hid (Ry 98 w rb c b #[.int .i64 0, .int .u32 0, .int .u32 0, .int .u64 0, .int .u32 0, .int .u64 0, .int .u32 0, .string ⟨#[]⟩, .string ⟨#[]⟩, .int .i64 0, .int .u8 0, .slice none 0 0, .slice none 0 0] #[.int .i64 (v0 : Int), .int .u32 (v1 : Int), .int .u32 (u1 : Int), .int .u64 (v2 : Int), .int .u32 (u2 : Int), .int .u64 (v3 : Int), .int .u32 (u3 : Int), .string (bs v4), .string (bs v5), .int .i64 (v6 : Int), .int .u8 (v7 : Int), .slice none 0 0, .slice none 0 0] 31 t7 z7) := by rw [← hz7]; exact (X7.out.set 10 (.int .u8 (v7 : Int)))
  clear X7
  go_upto_region 10 with fail
  clear hz7 p10 f10
  go_wp2_with fail
  refine (C8.out _ Y8.out.r.rd).mono ?_
  rintro e x8 ⟨vv, rfl, ho, hr, hs⟩
  obtain ⟨ao8, cp8, rfl⟩ := own_val ho
  have X8 : Hid (Ry 98 w rb c b #[.int .i64 0, .int .u32 0, .int .u32 0, .int .u64 0, .int .u32 0, .int .u64 0, .int .u32 0, .string ⟨#[]⟩, .string ⟨#[]⟩, .int .i64 0, .int .u8 0, .slice none 0 0, .slice none 0 0] #[.int .i64 (v0 : Int), .int .u32 (v1 : Int), .int .u32 (u1 : Int), .int .u64 (v2 : Int), .int .u32 (u2 : Int), .int .u64 (v3 : Int), .int .u32 (u3 : Int), .string (bs v4), .string (bs v5), .int .i64 (v6 : Int), .int .u8 (v7 : Int), .slice none 0 0, .slice none 0 0] 31 t8 x8) := Y8.out.go hr hs
  have O8 : Hid (x8.ownsRow z7.heap.size 65 3 (.slice ao8 v8.length cp8) v8.length (rowC wrc v8) ∧ w.heap.size ≤ z7.heap.size ∧ rb < z7.heap.size ∧ b < z7.heap.size ∧ c < z7.heap.size) := ⟨ho, Y8.out.r.so.size, lt_of_block Y8.out.r.rd, (Array.getElem?_eq_some_iff.1 Y8.out.r.x).1, (Array.getElem?_eq_some_iff.1 Y8.out.y).1⟩
  clear hr hs C8 Y8 ho
  obtain ⟨B8, hB8⟩ : ∃ B, z7.heap.size = B := ⟨_, rfl⟩
  rw [hB8] at O8
  clear hB8
  have p11 : x8.cell? ⟨b, 11, none⟩ = some (.slice none 0 0) := block_cell X8.out.r.x rfl
  have f11 : x8.frozen? ⟨b, 11, none⟩ = false := block_frozen X8.out.r.x 11
  obtain ⟨z8, hz8⟩ : ∃ z, (x8.setCell ⟨b, 11, none⟩ (.slice ao8 v8.length cp8)) = z := ⟨_, rfl⟩
  have Y9 : Hid (Ry 98 w rb c b #[.int .i64 0, .int .u32 0, .int .u32 0, .int .u64 0, .int .u32 0, .int .u64 0, .int .u32 0, .string ⟨#[]⟩, .string ⟨#[]⟩, .int .i64 0, .int .u8 0, .slice none 0 0, .slice none 0 0] #[.int .i64 (v0 : Int), .int .u32 (v1 : Int), .int .u32 (u1 : Int), .int .u64 (v2 : Int), .int .u32 (u2 : Int), .int .u64 (v3 : Int), .int .u32 (u3 : Int), .string (bs v4), .string (bs v5), .int .i64 (v6 : Int), .int .u8 (v7 : Int), .slice ao8 v8.length cp8, .slice none 0 0] 31 t8 z8) := by rw [← hz8]; exact (X8.out.set 11 (.slice ao8 v8.length cp8))
  have O8x : Hid (z8.ownsRow B8 65 3 (.slice ao8 v8.length cp8) v8.length (rowC wrc v8) ∧ w.heap.size ≤ B8 ∧ rb < B8 ∧ b < B8 ∧ c < B8) := by rw [← hz8]; exact ⟨(set_own O8.out.1 O8.out.2.2.2.1 11 (.slice ao8 v8.length cp8)), O8.out.2⟩
  clear O8
  have O8 := O8x
  clear O8x
  clear X8
  go_upto_region 11 with fail
  clear hz8 p11 f11
  go_wp2_with fail
  refine (C9.out _ Y9.out.r.rd).mono ?_
  rintro e x9 ⟨vv, rfl, ho, hr, hs⟩
  obtain ⟨ao9, cp9, rfl⟩ := own_val ho
  have X9 : Hid (Ry 98 w rb c b #[.int .i64 0, .int .u32 0, .int .u32 0, .int .u64 0, .int .u32 0, .int .u64 0, .int .u32 0, .string ⟨#[]⟩, .string ⟨#[]⟩, .int .i64 0, .int .u8 0, .slice none 0 0, .slice none 0 0] #[.int .i64 (v0 : Int), .int .u32 (v1 : Int), .int .u32 (u1 : Int), .int .u64 (v2 : Int), .int .u32 (u2 : Int), .int .u64 (v3 : Int), .int .u32 (u3 : Int), .string (bs v4), .string (bs v5), .int .i64 (v6 : Int), .int .u8 (v7 : Int), .slice ao8 v8.length cp8, .slice none 0 0] 31 t9 x9) := Y9.out.go hr hs
  have O9 : Hid (x9.ownsRow z8.heap.size 24 2 (.slice ao9 v9.length cp9) v9.length (rowC tnc v9) ∧ w.heap.size ≤ z8.heap.size ∧ rb < z8.heap.size ∧ b < z8.heap.size ∧ c < z8.heap.size) := ⟨ho, Y9.out.r.so.size, lt_of_block Y9.out.r.rd, (Array.getElem?_eq_some_iff.1 Y9.out.r.x).1, (Array.getElem?_eq_some_iff.1 Y9.out.y).1⟩
  have O8x : Hid (x9.ownsRow B8 65 3 (.slice ao8 v8.length cp8) v8.length (rowC wrc v8) ∧ w.heap.size ≤ B8 ∧ rb < B8 ∧ b < B8 ∧ c < B8) := ⟨own_sole O8.out.1 hs O8.out.2.2.1, O8.out.2⟩
  clear O8
  have O8 := O8x
  clear O8x
  clear hr hs C9 Y9 ho
  obtain ⟨B9, hB9⟩ : ∃ B, z8.heap.size = B := ⟨_, rfl⟩
  rw [hB9] at O9
  clear hB9
  have p12 : x9.cell? ⟨b, 12, none⟩ = some (.slice none 0 0) := block_cell X9.out.r.x rfl
  have f12 : x9.frozen? ⟨b, 12, none⟩ = false := block_frozen X9.out.r.x 12
  obtain ⟨z9, hz9⟩ : ∃ z, (x9.setCell ⟨b, 12, none⟩ (.slice ao9 v9.length cp9)) = z := ⟨_, rfl⟩
  have Y10 : Hid (Ry 98 w rb c b #[.int .i64 0, .int .u32 0, .int .u32 0, .int .u64 0, .int .u32 0, .int .u64 0, .int .u32 0, .string ⟨#[]⟩, .string ⟨#[]⟩, .int .i64 0, .int .u8 0, .slice none 0 0, .slice none 0 0] #[.int .i64 (v0 : Int), .int .u32 (v1 : Int), .int .u32 (u1 : Int), .int .u64 (v2 : Int), .int .u32 (u2 : Int), .int .u64 (v3 : Int), .int .u32 (u3 : Int), .string (bs v4), .string (bs v5), .int .i64 (v6 : Int), .int .u8 (v7 : Int), .slice ao8 v8.length cp8, .slice ao9 v9.length cp9] 31 t9 z9) := by rw [← hz9]; exact (X9.out.set 12 (.slice ao9 v9.length cp9))
  have O8x : Hid (z9.ownsRow B8 65 3 (.slice ao8 v8.length cp8) v8.length (rowC wrc v8) ∧ w.heap.size ≤ B8 ∧ rb < B8 ∧ b < B8 ∧ c < B8) := by rw [← hz9]; exact ⟨(set_own O8.out.1 O8.out.2.2.2.1 12 (.slice ao9 v9.length cp9)), O8.out.2⟩
  clear O8
  have O8 := O8x
  clear O8x
  have O9x : Hid (z9.ownsRow B9 24 2 (.slice ao9 v9.length cp9) v9.length (rowC tnc v9) ∧ w.heap.size ≤ B9 ∧ rb < B9 ∧ b < B9 ∧ c < B9) := by rw [← hz9]; exact ⟨(set_own O9.out.1 O9.out.2.2.2.1 12 (.slice ao9 v9.length cp9)), O9.out.2⟩
  clear O9
  have O9 := O9x
  clear O9x
  clear X9
  go_upto_region 12 with fail
  clear hz9 p12 f12
  go_wp2_with (first
    | (refine wpList_load_row rfl 31 _ rfl b rfl 31 _ (0, 0) _ Y10.out.r.x Try.underlying31 rfl (by kernel_rfl) ?_)
    | (refine wpList_store_row rfl 31 _ _ rfl c #[.int .i64 (v0 : Int), .int .u32 (v1 : Int), .int .u32 (u1 : Int), .int .u64 (v2 : Int), .int .u32 (u2 : Int), .int .u64 (v3 : Int), .int .u32 (u3 : Int), .string (bs v4), .string (bs v5), .int .i64 (v6 : Int), .int .u8 (v7 : Int), .slice ao8 v8.length cp8, .slice ao9 v9.length cp9] rfl rfl 31 _ Y10.out.y (by kernel_rfl) rfl (by simp [Value.oneCell']) ?_))
  have YR : Hid (Rx 98 w rb c #[.int .i64 (v0 : Int), .int .u32 (v1 : Int), .int .u32 (u1 : Int), .int .u64 (v2 : Int), .int .u32 (u2 : Int), .int .u64 (v3 : Int), .int .u32 (u3 : Int), .string (bs v4), .string (bs v5), .int .i64 (v6 : Int), .int .u8 (v7 : Int), .slice ao8 v8.length cp8, .slice ao9 v9.length cp9] 31 t9 (z9.setRow c #[.int .i64 (v0 : Int), .int .u32 (v1 : Int), .int .u32 (u1 : Int), .int .u64 (v2 : Int), .int .u32 (u2 : Int), .int .u64 (v3 : Int), .int .u32 (u3 : Int), .string (bs v4), .string (bs v5), .int .i64 (v6 : Int), .int .u8 (v7 : Int), .slice ao8 v8.length cp8, .slice ao9 v9.length cp9])) := Rx.row ⟨Y10.out.r.rd, Y10.out.r.so, Y10.out.y, Y10.out.nr, Y10.out.nw⟩ _
  (try simp only [Exit.inBlock, Exit.then])
  refine bodyPost_ret (results_cell_row rfl _ _ c 31 _ (0, 0) _ rfl YR.out.x Try.underlying31 rfl (by kernel_rfl)) rfl ?_
  rw [HF.out]
  refine ⟨ao8, cp8, ao9, cp9, rfl, own_le (row_own O8.out.1 O8.out.2.2.2.2 _) O8.out.2.1, own_le (row_own O9.out.1 O9.out.2.2.2.2 _) O9.out.2.1, YR.out.rd, YR.out.so⟩
set_option maxHeartbeats 6400000 in
set_option maxRecDepth 100000 in
theorem reply31 (rb : Nat) (st : St) (w : World) (h : RdAt 98 rb st w) (hl : st.l.length < 4611686018427387904) :
    Calls Try.prog 31 #[.pointer (some ⟨rb, 0, none⟩)] w fun e w' => ∃ (ao4 : Option Addr) (cp4 : Nat), e = .returned (.agg #[.int .i64 (rawR st).1.k, .int .i64 (rawR st).1.er, .bool (rawR st).1.fd, .string (bs (rawR st).1.val), .slice ao4 (rawR st).1.ps.length cp4, .int .u32 ((rawR st).1.c : Int), .int .u32 ((rawR st).1.n : Int), .int .u64 ((rawR st).1.sp : Int), .int .u32 ((rawR st).1.sl : Int), .int .u64 ((rawR st).1.ap : Int), .int .u32 ((rawR st).1.al : Int), .string (bs (rawR st).1.prim), .int .u64 ((rawR st).1.np : Int), .int .u32 ((rawR st).1.nl : Int)]) ∧ w'.ownsRow w.heap.size 67 2 (.slice ao4 (rawR st).1.ps.length cp4) (rawR st).1.ps.length (rowC prc (rawR st).1.ps) ∧ RdAt 98 rb (rawR st).2 w' ∧ Sole rb w w' := by
  have H0 : Hid _ := ry_new h #[.int .i64 0, .int .i64 0, .bool false, .string ⟨#[]⟩, .slice none 0 0, .int .u32 0, .int .u32 0, .int .u64 0, .int .u32 0, .int .u64 0, .int .u32 0, .string ⟨#[]⟩, .int .u64 0, .int .u32 0] 35
  have hrb := lt_of_block h
  obtain ⟨W0, hW0⟩ : ∃ W0, w.alloc (.cells #[.int .i64 0, .int .i64 0, .bool false, .string ⟨#[]⟩, .slice none 0 0, .int .u32 0, .int .u32 0, .int .u64 0, .int .u32 0, .int .u64 0, .int .u32 0, .string ⟨#[]⟩, .int .u64 0, .int .u32 0] 35) = W0 := ⟨_, rfl⟩
  obtain ⟨W1, hW1⟩ : ∃ W1, W0.alloc (.cells #[.int .i64 0, .int .i64 0, .bool false, .string ⟨#[]⟩, .slice none 0 0, .int .u32 0, .int .u32 0, .int .u64 0, .int .u32 0, .int .u64 0, .int .u32 0, .string ⟨#[]⟩, .int .u64 0, .int .u32 0] 35) = W1 := ⟨_, rfl⟩
  obtain ⟨c, hc⟩ : ∃ b, w.heap.size = b := ⟨_, rfl⟩
  obtain ⟨b, hb⟩ : ∃ b, c + 1 = b := ⟨_, rfl⟩
  have hsz : W0.heap.size = b := by rw [← hb, ← hc, ← hW0]; simp
  have Y0 : Hid (Ry 98 w rb c b #[.int .i64 0, .int .i64 0, .bool false, .string ⟨#[]⟩, .slice none 0 0, .int .u32 0, .int .u32 0, .int .u64 0, .int .u32 0, .int .u64 0, .int .u32 0, .string ⟨#[]⟩, .int .u64 0, .int .u32 0] #[.int .i64 0, .int .i64 0, .bool false, .string ⟨#[]⟩, .slice none 0 0, .int .u32 0, .int .u32 0, .int .u64 0, .int .u32 0, .int .u64 0, .int .u32 0, .string ⟨#[]⟩, .int .u64 0, .int .u32 0] 35 st W1) := by rw [← hW1, ← hW0, ← hb, ← hc]; exact H0.out
  have HCB : Hid (∀ W, Sole rb w W → b < W.heap.size → c < W.heap.size) := fun W _ h => by omega
  clear H0 h
  have C0 : Hid (∀ W, RdAt 98 rb st W → _) := fun W hW => num20 rb st 10 W hW (by omega)
  have L0 := num_le63 10 _ hl
  have D0 := (rdNum_le 10 st).1
  obtain ⟨⟨v0, t0⟩, h0⟩ : ∃ p, rdNum 10 st = p := ⟨_, rfl⟩
  rw [h0] at C0 L0 D0
  simp only at C0 L0 D0
  have C1 : Hid (∀ W, RdAt 98 rb t0 W → _) := fun W hW => num20 rb t0 255 W hW (by omega)
  have L1 := num_le63 255 _ L0
  have D1 := (rdNum_le 255 t0).1
  obtain ⟨⟨v1, t1⟩, h1⟩ : ∃ p, rdNum 255 t0 = p := ⟨_, rfl⟩
  rw [h1] at C1 L1 D1
  simp only at C1 L1 D1
  have C2 : Hid (∀ W, RdAt 98 rb t1 W → _) := fun W hW => flag22 rb t1 W hW
  have L2 := flag_le63 _ L1
  obtain ⟨⟨v2, t2⟩, h2⟩ : ∃ p, rdFlag t1 = p := ⟨_, rfl⟩
  rw [h2] at C2 L2
  simp only at C2 L2
  have C3 : Hid (∀ W, RdAt 98 rb t2 W → _) := fun W hW => text21 rb t2 0 256 W hW (by omega) (by omega) (by omega) (by omega) (by omega)
  have L3 := text_le63 0 256 _ L2
  obtain ⟨⟨v3, t3⟩, h3⟩ : ∃ p, rdText 0 256 t2 = p := ⟨_, rfl⟩
  rw [h3] at C3 L3
  simp only at C3 L3
  have C4 : Hid (∀ W, RdAt 98 rb t3 W → _) := fun W hW => tps61 rb t3 W hW L3
  have L4 := list_le63 pr_le63 32 _ L3
  obtain ⟨⟨v4, t4⟩, h4⟩ : ∃ p, rList rPr 32 t3 = p := ⟨_, rfl⟩
  rw [h4] at C4 L4
  simp only at C4 L4
  have C5 : Hid (∀ W, RdAt 98 rb t4 W → _) := fun W hW => ttn63 rb t4 W hW L4
  have L5 := tn_le63 _ L4
  obtain ⟨⟨⟨v5, u5⟩, t5⟩, h5⟩ : ∃ p, rTn t4 = p := ⟨_, rfl⟩
  rw [h5] at C5 L5
  simp only at C5 L5
  have C6 : Hid (∀ W, RdAt 98 rb t5 W → _) := fun W hW => stamp23 rb t5 W hW (by omega)
  have L6 := stamp_le63 _ L5
  obtain ⟨⟨⟨v6, u6⟩, t6⟩, h6⟩ : ∃ p, rdStamp t5 = p := ⟨_, rfl⟩
  rw [h6] at C6 L6
  simp only at C6 L6
  have C7 : Hid (∀ W, RdAt 98 rb t6 W → _) := fun W hW => stamp23 rb t6 W hW (by omega)
  have L7 := stamp_le63 _ L6
  obtain ⟨⟨⟨v7, u7⟩, t7⟩, h7⟩ : ∃ p, rdStamp t6 = p := ⟨_, rfl⟩
  rw [h7] at C7 L7
  simp only at C7 L7
  have C8 : Hid (∀ W, RdAt 98 rb t7 W → _) := fun W hW => text21 rb t7 0 32 W hW (by omega) (by omega) (by omega) (by omega) (by omega)
  have L8 := text_le63 0 32 _ L7
  obtain ⟨⟨v8, t8⟩, h8⟩ : ∃ p, rdText 0 32 t7 = p := ⟨_, rfl⟩
  rw [h8] at C8 L8
  simp only at C8 L8
  have C9 : Hid (∀ W, RdAt 98 rb t8 W → _) := fun W hW => stamp23 rb t8 W hW (by omega)
  have L9 := stamp_le63 _ L8
  obtain ⟨⟨⟨v9, u9⟩, t9⟩, h9⟩ : ∃ p, rdStamp t8 = p := ⟨_, rfl⟩
  rw [h9] at C9 L9
  simp only at C9 L9
  have HF : Hid (rawR st = (⟨(v0 : Int), (v1 : Int), v2, v3, v4, v5, u5, v6, u6, v7, u7, v8, v9, u9⟩, t9)) := by
    show _ = _
    unfold rawR
    simp only [h0, h1, h2, h3, h4, h5, h6, h7, h8, h9]
  clear h0 L0 h1 L1 h2 L2 h3 L3 h4 L4 h5 L5 h6 L6 h7 L7 h8 L8 h9 L9
  go_enter Try.func31, Try.ntmps31
  go_wp2_with fail
  refine (C0.out _ Y0.out.r.rd).mono ?_
  rintro e x0 ⟨rfl, hr, hs⟩
  have X0 : Hid (Ry 98 w rb c b #[.int .i64 0, .int .i64 0, .bool false, .string ⟨#[]⟩, .slice none 0 0, .int .u32 0, .int .u32 0, .int .u64 0, .int .u32 0, .int .u64 0, .int .u32 0, .string ⟨#[]⟩, .int .u64 0, .int .u32 0] #[.int .i64 0, .int .i64 0, .bool false, .string ⟨#[]⟩, .slice none 0 0, .int .u32 0, .int .u32 0, .int .u64 0, .int .u32 0, .int .u64 0, .int .u32 0, .string ⟨#[]⟩, .int .u64 0, .int .u32 0] 35 t0 x0) := Y0.out.go hr hs
  clear hW0 hW1 hc hb hsz
  clear hr hs C0 Y0
  have p0 : x0.cell? ⟨b, 0, none⟩ = some (.int .i64 0) := block_cell X0.out.r.x rfl
  have f0 : x0.frozen? ⟨b, 0, none⟩ = false := block_frozen X0.out.r.x 0
  obtain ⟨z0, hz0⟩ : ∃ z, (x0.setCell ⟨b, 0, none⟩ (.int .i64 (v0 : Int))) = z := ⟨_, rfl⟩
  have Y1 : Hid (Ry 98 w rb c b #[.int .i64 0, .int .i64 0, .bool false, .string ⟨#[]⟩, .slice none 0 0, .int .u32 0, .int .u32 0, .int .u64 0, .int .u32 0, .int .u64 0, .int .u32 0, .string ⟨#[]⟩, .int .u64 0, .int .u32 0] #[.int .i64 (v0 : Int), .int .i64 0, .bool false, .string ⟨#[]⟩, .slice none 0 0, .int .u32 0, .int .u32 0, .int .u64 0, .int .u32 0, .int .u64 0, .int .u32 0, .string ⟨#[]⟩, .int .u64 0, .int .u32 0] 35 t0 z0) := by rw [← hz0]; exact (X0.out.set 0 (.int .i64 (v0 : Int)))
  clear X0
  go_upto_region 3 with fail
  clear hz0 p0 f0
  go_wp2_with fail
  refine (C1.out _ Y1.out.r.rd).mono ?_
  rintro e x1 ⟨rfl, hr, hs⟩
  have X1 : Hid (Ry 98 w rb c b #[.int .i64 0, .int .i64 0, .bool false, .string ⟨#[]⟩, .slice none 0 0, .int .u32 0, .int .u32 0, .int .u64 0, .int .u32 0, .int .u64 0, .int .u32 0, .string ⟨#[]⟩, .int .u64 0, .int .u32 0] #[.int .i64 (v0 : Int), .int .i64 0, .bool false, .string ⟨#[]⟩, .slice none 0 0, .int .u32 0, .int .u32 0, .int .u64 0, .int .u32 0, .int .u64 0, .int .u32 0, .string ⟨#[]⟩, .int .u64 0, .int .u32 0] 35 t1 x1) := Y1.out.go hr hs
  clear hr hs C1 Y1
  have p1 : x1.cell? ⟨b, 1, none⟩ = some (.int .i64 0) := block_cell X1.out.r.x rfl
  have f1 : x1.frozen? ⟨b, 1, none⟩ = false := block_frozen X1.out.r.x 1
  obtain ⟨z1, hz1⟩ : ∃ z, (x1.setCell ⟨b, 1, none⟩ (.int .i64 (v1 : Int))) = z := ⟨_, rfl⟩
  have Y2 : Hid (Ry 98 w rb c b #[.int .i64 0, .int .i64 0, .bool false, .string ⟨#[]⟩, .slice none 0 0, .int .u32 0, .int .u32 0, .int .u64 0, .int .u32 0, .int .u64 0, .int .u32 0, .string ⟨#[]⟩, .int .u64 0, .int .u32 0] #[.int .i64 (v0 : Int), .int .i64 (v1 : Int), .bool false, .string ⟨#[]⟩, .slice none 0 0, .int .u32 0, .int .u32 0, .int .u64 0, .int .u32 0, .int .u64 0, .int .u32 0, .string ⟨#[]⟩, .int .u64 0, .int .u32 0] 35 t1 z1) := by rw [← hz1]; exact (X1.out.set 1 (.int .i64 (v1 : Int)))
  clear X1
  go_upto_region 4 with fail
  clear hz1 p1 f1
  go_wp2_with fail
  refine (C2.out _ Y2.out.r.rd).mono ?_
  rintro e x2 ⟨rfl, hr, hs⟩
  have X2 : Hid (Ry 98 w rb c b #[.int .i64 0, .int .i64 0, .bool false, .string ⟨#[]⟩, .slice none 0 0, .int .u32 0, .int .u32 0, .int .u64 0, .int .u32 0, .int .u64 0, .int .u32 0, .string ⟨#[]⟩, .int .u64 0, .int .u32 0] #[.int .i64 (v0 : Int), .int .i64 (v1 : Int), .bool false, .string ⟨#[]⟩, .slice none 0 0, .int .u32 0, .int .u32 0, .int .u64 0, .int .u32 0, .int .u64 0, .int .u32 0, .string ⟨#[]⟩, .int .u64 0, .int .u32 0] 35 t2 x2) := Y2.out.go hr hs
  clear hr hs C2 Y2
  have p2 : x2.cell? ⟨b, 2, none⟩ = some (.bool false) := block_cell X2.out.r.x rfl
  have f2 : x2.frozen? ⟨b, 2, none⟩ = false := block_frozen X2.out.r.x 2
  obtain ⟨z2, hz2⟩ : ∃ z, (x2.setCell ⟨b, 2, none⟩ (.bool v2)) = z := ⟨_, rfl⟩
  have Y3 : Hid (Ry 98 w rb c b #[.int .i64 0, .int .i64 0, .bool false, .string ⟨#[]⟩, .slice none 0 0, .int .u32 0, .int .u32 0, .int .u64 0, .int .u32 0, .int .u64 0, .int .u32 0, .string ⟨#[]⟩, .int .u64 0, .int .u32 0] #[.int .i64 (v0 : Int), .int .i64 (v1 : Int), .bool v2, .string ⟨#[]⟩, .slice none 0 0, .int .u32 0, .int .u32 0, .int .u64 0, .int .u32 0, .int .u64 0, .int .u32 0, .string ⟨#[]⟩, .int .u64 0, .int .u32 0] 35 t2 z2) := by rw [← hz2]; exact (X2.out.set 2 (.bool v2))
  clear X2
  go_upto_region 5 with fail
  clear hz2 p2 f2
  go_wp2_with fail
  refine (C3.out _ Y3.out.r.rd).mono ?_
  rintro e x3 ⟨rfl, hr, hs⟩
  have X3 : Hid (Ry 98 w rb c b #[.int .i64 0, .int .i64 0, .bool false, .string ⟨#[]⟩, .slice none 0 0, .int .u32 0, .int .u32 0, .int .u64 0, .int .u32 0, .int .u64 0, .int .u32 0, .string ⟨#[]⟩, .int .u64 0, .int .u32 0] #[.int .i64 (v0 : Int), .int .i64 (v1 : Int), .bool v2, .string ⟨#[]⟩, .slice none 0 0, .int .u32 0, .int .u32 0, .int .u64 0, .int .u32 0, .int .u64 0, .int .u32 0, .string ⟨#[]⟩, .int .u64 0, .int .u32 0] 35 t3 x3) := Y3.out.go hr hs
  clear hr hs C3 Y3
  have p3 : x3.cell? ⟨b, 3, none⟩ = some (.string ⟨#[]⟩) := block_cell X3.out.r.x rfl
  have f3 : x3.frozen? ⟨b, 3, none⟩ = false := block_frozen X3.out.r.x 3
  obtain ⟨z3, hz3⟩ : ∃ z, (x3.setCell ⟨b, 3, none⟩ (.string (bs v3))) = z := ⟨_, rfl⟩
  have Y4 : Hid (Ry 98 w rb c b #[.int .i64 0, .int .i64 0, .bool false, .string ⟨#[]⟩, .slice none 0 0, .int .u32 0, .int .u32 0, .int .u64 0, .int .u32 0, .int .u64 0, .int .u32 0, .string ⟨#[]⟩, .int .u64 0, .int .u32 0] #[.int .i64 (v0 : Int), .int .i64 (v1 : Int), .bool v2, .string (bs v3), .slice none 0 0, .int .u32 0, .int .u32 0, .int .u64 0, .int .u32 0, .int .u64 0, .int .u32 0, .string ⟨#[]⟩, .int .u64 0, .int .u32 0] 35 t3 z3) := by rw [← hz3]; exact (X3.out.set 3 (.string (bs v3)))
  clear X3
  go_upto_region 6 with fail
  clear hz3 p3 f3
  go_wp2_with fail
  refine (C4.out _ Y4.out.r.rd).mono ?_
  rintro e x4 ⟨vv, rfl, ho, hr, hs⟩
  obtain ⟨ao4, cp4, rfl⟩ := own_val ho
  have X4 : Hid (Ry 98 w rb c b #[.int .i64 0, .int .i64 0, .bool false, .string ⟨#[]⟩, .slice none 0 0, .int .u32 0, .int .u32 0, .int .u64 0, .int .u32 0, .int .u64 0, .int .u32 0, .string ⟨#[]⟩, .int .u64 0, .int .u32 0] #[.int .i64 (v0 : Int), .int .i64 (v1 : Int), .bool v2, .string (bs v3), .slice none 0 0, .int .u32 0, .int .u32 0, .int .u64 0, .int .u32 0, .int .u64 0, .int .u32 0, .string ⟨#[]⟩, .int .u64 0, .int .u32 0] 35 t4 x4) := Y4.out.go hr hs
  have O4 : Hid (x4.ownsRow z3.heap.size 67 2 (.slice ao4 v4.length cp4) v4.length (rowC prc v4) ∧ w.heap.size ≤ z3.heap.size ∧ rb < z3.heap.size ∧ b < z3.heap.size ∧ c < z3.heap.size) := ⟨ho, Y4.out.r.so.size, lt_of_block Y4.out.r.rd, (Array.getElem?_eq_some_iff.1 Y4.out.r.x).1, (Array.getElem?_eq_some_iff.1 Y4.out.y).1⟩
  clear hr hs C4 Y4 ho
  obtain ⟨B4, hB4⟩ : ∃ B, z3.heap.size = B := ⟨_, rfl⟩
  rw [hB4] at O4
  clear hB4
  have p4 : x4.cell? ⟨b, 4, none⟩ = some (.slice none 0 0) := block_cell X4.out.r.x rfl
  have f4 : x4.frozen? ⟨b, 4, none⟩ = false := block_frozen X4.out.r.x 4
  obtain ⟨z4, hz4⟩ : ∃ z, (x4.setCell ⟨b, 4, none⟩ (.slice ao4 v4.length cp4)) = z := ⟨_, rfl⟩
  have Y5 : Hid (Ry 98 w rb c b #[.int .i64 0, .int .i64 0, .bool false, .string ⟨#[]⟩, .slice none 0 0, .int .u32 0, .int .u32 0, .int .u64 0, .int .u32 0, .int .u64 0, .int .u32 0, .string ⟨#[]⟩, .int .u64 0, .int .u32 0] #[.int .i64 (v0 : Int), .int .i64 (v1 : Int), .bool v2, .string (bs v3), .slice ao4 v4.length cp4, .int .u32 0, .int .u32 0, .int .u64 0, .int .u32 0, .int .u64 0, .int .u32 0, .string ⟨#[]⟩, .int .u64 0, .int .u32 0] 35 t4 z4) := by rw [← hz4]; exact (X4.out.set 4 (.slice ao4 v4.length cp4))
  have O4x : Hid (z4.ownsRow B4 67 2 (.slice ao4 v4.length cp4) v4.length (rowC prc v4) ∧ w.heap.size ≤ B4 ∧ rb < B4 ∧ b < B4 ∧ c < B4) := by rw [← hz4]; exact ⟨(set_own O4.out.1 O4.out.2.2.2.1 4 (.slice ao4 v4.length cp4)), O4.out.2⟩
  clear O4
  have O4 := O4x
  clear O4x
  clear X4
  go_upto_region 7 with fail
  clear hz4 p4 f4
  go_wp2_with fail
  refine (C5.out _ Y5.out.r.rd).mono ?_
  rintro e x5 ⟨rfl, hr, hs⟩
  have X5 : Hid (Ry 98 w rb c b #[.int .i64 0, .int .i64 0, .bool false, .string ⟨#[]⟩, .slice none 0 0, .int .u32 0, .int .u32 0, .int .u64 0, .int .u32 0, .int .u64 0, .int .u32 0, .string ⟨#[]⟩, .int .u64 0, .int .u32 0] #[.int .i64 (v0 : Int), .int .i64 (v1 : Int), .bool v2, .string (bs v3), .slice ao4 v4.length cp4, .int .u32 0, .int .u32 0, .int .u64 0, .int .u32 0, .int .u64 0, .int .u32 0, .string ⟨#[]⟩, .int .u64 0, .int .u32 0] 35 t5 x5) := Y5.out.go hr hs
  have O4x : Hid (x5.ownsRow B4 67 2 (.slice ao4 v4.length cp4) v4.length (rowC prc v4) ∧ w.heap.size ≤ B4 ∧ rb < B4 ∧ b < B4 ∧ c < B4) := ⟨own_sole O4.out.1 hs O4.out.2.2.1, O4.out.2⟩
  clear O4
  have O4 := O4x
  clear O4x
  clear hr hs C5 Y5
  have p5 : x5.cell? ⟨b, 5, none⟩ = some (.int .u32 0) := block_cell X5.out.r.x rfl
  have p6 : x5.cell? ⟨b, 6, none⟩ = some (.int .u32 0) := block_cell X5.out.r.x rfl
  have f5 : x5.frozen? ⟨b, 5, none⟩ = false := block_frozen X5.out.r.x 5
  have f6 : x5.frozen? ⟨b, 6, none⟩ = false := block_frozen X5.out.r.x 6
  obtain ⟨z5, hz5⟩ : ∃ z, ((x5.setCell ⟨b, 5, none⟩ (.int .u32 (v5 : Int))).setCell ⟨b, 6, none⟩ (.int .u32 (u5 : Int))) = z := ⟨_, rfl⟩
  have Y6 : Hid (Ry 98 w rb c b #[.int .i64 0, .int .i64 0, .bool false, .string ⟨#[]⟩, .slice none 0 0, .int .u32 0, .int .u32 0, .int .u64 0, .int .u32 0, .int .u64 0, .int .u32 0, .string ⟨#[]⟩, .int .u64 0, .int .u32 0] #[.int .i64 (v0 : Int), .int .i64 (v1 : Int), .bool v2, .string (bs v3), .slice ao4 v4.length cp4, .int .u32 (v5 : Int), .int .u32 (u5 : Int), .int .u64 0, .int .u32 0, .int .u64 0, .int .u32 0, .string ⟨#[]⟩, .int .u64 0, .int .u32 0] 35 t5 z5) := by rw [← hz5]; exact ((X5.out.set 5 (.int .u32 (v5 : Int))).set 6 (.int .u32 (u5 : Int)))
  have O4x : Hid (z5.ownsRow B4 67 2 (.slice ao4 v4.length cp4) v4.length (rowC prc v4) ∧ w.heap.size ≤ B4 ∧ rb < B4 ∧ b < B4 ∧ c < B4) := by rw [← hz5]; exact ⟨(set_own (set_own O4.out.1 O4.out.2.2.2.1 5 (.int .u32 (v5 : Int))) O4.out.2.2.2.1 6 (.int .u32 (u5 : Int))), O4.out.2⟩
  clear O4
  have O4 := O4x
  clear O4x
  clear X5
  go_upto_region 8 with fail
  clear hz5 p5 f5 p6 f6
  go_wp2_with fail
  refine (C6.out _ Y6.out.r.rd).mono ?_
  rintro e x6 ⟨rfl, hr, hs⟩
  have X6 : Hid (Ry 98 w rb c b #[.int .i64 0, .int .i64 0, .bool false, .string ⟨#[]⟩, .slice none 0 0, .int .u32 0, .int .u32 0, .int .u64 0, .int .u32 0, .int .u64 0, .int .u32 0, .string ⟨#[]⟩, .int .u64 0, .int .u32 0] #[.int .i64 (v0 : Int), .int .i64 (v1 : Int), .bool v2, .string (bs v3), .slice ao4 v4.length cp4, .int .u32 (v5 : Int), .int .u32 (u5 : Int), .int .u64 0, .int .u32 0, .int .u64 0, .int .u32 0, .string ⟨#[]⟩, .int .u64 0, .int .u32 0] 35 t6 x6) := Y6.out.go hr hs
  have O4x : Hid (x6.ownsRow B4 67 2 (.slice ao4 v4.length cp4) v4.length (rowC prc v4) ∧ w.heap.size ≤ B4 ∧ rb < B4 ∧ b < B4 ∧ c < B4) := ⟨own_sole O4.out.1 hs O4.out.2.2.1, O4.out.2⟩
  clear O4
  have O4 := O4x
  clear O4x
  clear hr hs C6 Y6
  have p7 : x6.cell? ⟨b, 7, none⟩ = some (.int .u64 0) := block_cell X6.out.r.x rfl
  have p8 : x6.cell? ⟨b, 8, none⟩ = some (.int .u32 0) := block_cell X6.out.r.x rfl
  have f7 : x6.frozen? ⟨b, 7, none⟩ = false := block_frozen X6.out.r.x 7
  have f8 : x6.frozen? ⟨b, 8, none⟩ = false := block_frozen X6.out.r.x 8
  obtain ⟨z6, hz6⟩ : ∃ z, ((x6.setCell ⟨b, 7, none⟩ (.int .u64 (v6 : Int))).setCell ⟨b, 8, none⟩ (.int .u32 (u6 : Int))) = z := ⟨_, rfl⟩
  have Y7 : Hid (Ry 98 w rb c b #[.int .i64 0, .int .i64 0, .bool false, .string ⟨#[]⟩, .slice none 0 0, .int .u32 0, .int .u32 0, .int .u64 0, .int .u32 0, .int .u64 0, .int .u32 0, .string ⟨#[]⟩, .int .u64 0, .int .u32 0] #[.int .i64 (v0 : Int), .int .i64 (v1 : Int), .bool v2, .string (bs v3), .slice ao4 v4.length cp4, .int .u32 (v5 : Int), .int .u32 (u5 : Int), .int .u64 (v6 : Int), .int .u32 (u6 : Int), .int .u64 0, .int .u32 0, .string ⟨#[]⟩, .int .u64 0, .int .u32 0] 35 t6 z6) := by rw [← hz6]; exact ((X6.out.set 7 (.int .u64 (v6 : Int))).set 8 (.int .u32 (u6 : Int)))
  have O4x : Hid (z6.ownsRow B4 67 2 (.slice ao4 v4.length cp4) v4.length (rowC prc v4) ∧ w.heap.size ≤ B4 ∧ rb < B4 ∧ b < B4 ∧ c < B4) := by rw [← hz6]; exact ⟨(set_own (set_own O4.out.1 O4.out.2.2.2.1 7 (.int .u64 (v6 : Int))) O4.out.2.2.2.1 8 (.int .u32 (u6 : Int))), O4.out.2⟩
  clear O4
  have O4 := O4x
  clear O4x
  clear X6
  go_upto_region 9 with fail
  clear hz6 p7 f7 p8 f8
  go_wp2_with fail
  refine (C7.out _ Y7.out.r.rd).mono ?_
  rintro e x7 ⟨rfl, hr, hs⟩
  have X7 : Hid (Ry 98 w rb c b #[.int .i64 0, .int .i64 0, .bool false, .string ⟨#[]⟩, .slice none 0 0, .int .u32 0, .int .u32 0, .int .u64 0, .int .u32 0, .int .u64 0, .int .u32 0, .string ⟨#[]⟩, .int .u64 0, .int .u32 0] #[.int .i64 (v0 : Int), .int .i64 (v1 : Int), .bool v2, .string (bs v3), .slice ao4 v4.length cp4, .int .u32 (v5 : Int), .int .u32 (u5 : Int), .int .u64 (v6 : Int), .int .u32 (u6 : Int), .int .u64 0, .int .u32 0, .string ⟨#[]⟩, .int .u64 0, .int .u32 0] 35 t7 x7) := Y7.out.go hr hs
  have O4x : Hid (x7.ownsRow B4 67 2 (.slice ao4 v4.length cp4) v4.length (rowC prc v4) ∧ w.heap.size ≤ B4 ∧ rb < B4 ∧ b < B4 ∧ c < B4) := ⟨own_sole O4.out.1 hs O4.out.2.2.1, O4.out.2⟩
  clear O4
  have O4 := O4x
  clear O4x
  clear hr hs C7 Y7
  have p9 : x7.cell? ⟨b, 9, none⟩ = some (.int .u64 0) := block_cell X7.out.r.x rfl
  have p10 : x7.cell? ⟨b, 10, none⟩ = some (.int .u32 0) := block_cell X7.out.r.x rfl
  have f9 : x7.frozen? ⟨b, 9, none⟩ = false := block_frozen X7.out.r.x 9
  have f10 : x7.frozen? ⟨b, 10, none⟩ = false := block_frozen X7.out.r.x 10
  obtain ⟨z7, hz7⟩ : ∃ z, ((x7.setCell ⟨b, 9, none⟩ (.int .u64 (v7 : Int))).setCell ⟨b, 10, none⟩ (.int .u32 (u7 : Int))) = z := ⟨_, rfl⟩
  have Y8 : Hid (Ry 98 w rb c b #[.int .i64 0, .int .i64 0, .bool false, .string ⟨#[]⟩, .slice none 0 0, .int .u32 0, .int .u32 0, .int .u64 0, .int .u32 0, .int .u64 0, .int .u32 0, .string ⟨#[]⟩, .int .u64 0, .int .u32 0] #[.int .i64 (v0 : Int), .int .i64 (v1 : Int), .bool v2, .string (bs v3), .slice ao4 v4.length cp4, .int .u32 (v5 : Int), .int .u32 (u5 : Int), .int .u64 (v6 : Int), .int .u32 (u6 : Int), .int .u64 (v7 : Int), .int .u32 (u7 : Int), .string ⟨#[]⟩, .int .u64 0, .int .u32 0] 35 t7 z7) := by rw [← hz7]; exact ((X7.out.set 9 (.int .u64 (v7 : Int))).set 10 (.int .u32 (u7 : Int)))
  have O4x : Hid (z7.ownsRow B4 67 2 (.slice ao4 v4.length cp4) v4.length (rowC prc v4) ∧ w.heap.size ≤ B4 ∧ rb < B4 ∧ b < B4 ∧ c < B4) := by rw [← hz7]; exact ⟨(set_own (set_own O4.out.1 O4.out.2.2.2.1 9 (.int .u64 (v7 : Int))) O4.out.2.2.2.1 10 (.int .u32 (u7 : Int))), O4.out.2⟩
  clear O4
  have O4 := O4x
  clear O4x
  clear X7
  go_upto_region 10 with fail
  clear hz7 p9 f9 p10 f10
  go_wp2_with fail
  refine (C8.out _ Y8.out.r.rd).mono ?_
  rintro e x8 ⟨rfl, hr, hs⟩
  have X8 : Hid (Ry 98 w rb c b #[.int .i64 0, .int .i64 0, .bool false, .string ⟨#[]⟩, .slice none 0 0, .int .u32 0, .int .u32 0, .int .u64 0, .int .u32 0, .int .u64 0, .int .u32 0, .string ⟨#[]⟩, .int .u64 0, .int .u32 0] #[.int .i64 (v0 : Int), .int .i64 (v1 : Int), .bool v2, .string (bs v3), .slice ao4 v4.length cp4, .int .u32 (v5 : Int), .int .u32 (u5 : Int), .int .u64 (v6 : Int), .int .u32 (u6 : Int), .int .u64 (v7 : Int), .int .u32 (u7 : Int), .string ⟨#[]⟩, .int .u64 0, .int .u32 0] 35 t8 x8) := Y8.out.go hr hs
  have O4x : Hid (x8.ownsRow B4 67 2 (.slice ao4 v4.length cp4) v4.length (rowC prc v4) ∧ w.heap.size ≤ B4 ∧ rb < B4 ∧ b < B4 ∧ c < B4) := ⟨own_sole O4.out.1 hs O4.out.2.2.1, O4.out.2⟩
  clear O4
  have O4 := O4x
  clear O4x
  clear hr hs C8 Y8
  have p11 : x8.cell? ⟨b, 11, none⟩ = some (.string ⟨#[]⟩) := block_cell X8.out.r.x rfl
  have f11 : x8.frozen? ⟨b, 11, none⟩ = false := block_frozen X8.out.r.x 11
  obtain ⟨z8, hz8⟩ : ∃ z, (x8.setCell ⟨b, 11, none⟩ (.string (bs v8))) = z := ⟨_, rfl⟩
  have Y9 : Hid (Ry 98 w rb c b #[.int .i64 0, .int .i64 0, .bool false, .string ⟨#[]⟩, .slice none 0 0, .int .u32 0, .int .u32 0, .int .u64 0, .int .u32 0, .int .u64 0, .int .u32 0, .string ⟨#[]⟩, .int .u64 0, .int .u32 0] #[.int .i64 (v0 : Int), .int .i64 (v1 : Int), .bool v2, .string (bs v3), .slice ao4 v4.length cp4, .int .u32 (v5 : Int), .int .u32 (u5 : Int), .int .u64 (v6 : Int), .int .u32 (u6 : Int), .int .u64 (v7 : Int), .int .u32 (u7 : Int), .string (bs v8), .int .u64 0, .int .u32 0] 35 t8 z8) := by rw [← hz8]; exact (X8.out.set 11 (.string (bs v8)))
  have O4x : Hid (z8.ownsRow B4 67 2 (.slice ao4 v4.length cp4) v4.length (rowC prc v4) ∧ w.heap.size ≤ B4 ∧ rb < B4 ∧ b < B4 ∧ c < B4) := by rw [← hz8]; exact ⟨(set_own O4.out.1 O4.out.2.2.2.1 11 (.string (bs v8))), O4.out.2⟩
  clear O4
  have O4 := O4x
  clear O4x
  clear X8
  go_upto_region 11 with fail
  clear hz8 p11 f11
  go_wp2_with fail
  refine (C9.out _ Y9.out.r.rd).mono ?_
  rintro e x9 ⟨rfl, hr, hs⟩
  have X9 : Hid (Ry 98 w rb c b #[.int .i64 0, .int .i64 0, .bool false, .string ⟨#[]⟩, .slice none 0 0, .int .u32 0, .int .u32 0, .int .u64 0, .int .u32 0, .int .u64 0, .int .u32 0, .string ⟨#[]⟩, .int .u64 0, .int .u32 0] #[.int .i64 (v0 : Int), .int .i64 (v1 : Int), .bool v2, .string (bs v3), .slice ao4 v4.length cp4, .int .u32 (v5 : Int), .int .u32 (u5 : Int), .int .u64 (v6 : Int), .int .u32 (u6 : Int), .int .u64 (v7 : Int), .int .u32 (u7 : Int), .string (bs v8), .int .u64 0, .int .u32 0] 35 t9 x9) := Y9.out.go hr hs
  have O4x : Hid (x9.ownsRow B4 67 2 (.slice ao4 v4.length cp4) v4.length (rowC prc v4) ∧ w.heap.size ≤ B4 ∧ rb < B4 ∧ b < B4 ∧ c < B4) := ⟨own_sole O4.out.1 hs O4.out.2.2.1, O4.out.2⟩
  clear O4
  have O4 := O4x
  clear O4x
  clear hr hs C9 Y9
  have p12 : x9.cell? ⟨b, 12, none⟩ = some (.int .u64 0) := block_cell X9.out.r.x rfl
  have p13 : x9.cell? ⟨b, 13, none⟩ = some (.int .u32 0) := block_cell X9.out.r.x rfl
  have f12 : x9.frozen? ⟨b, 12, none⟩ = false := block_frozen X9.out.r.x 12
  have f13 : x9.frozen? ⟨b, 13, none⟩ = false := block_frozen X9.out.r.x 13
  obtain ⟨z9, hz9⟩ : ∃ z, ((x9.setCell ⟨b, 12, none⟩ (.int .u64 (v9 : Int))).setCell ⟨b, 13, none⟩ (.int .u32 (u9 : Int))) = z := ⟨_, rfl⟩
  have Y10 : Hid (Ry 98 w rb c b #[.int .i64 0, .int .i64 0, .bool false, .string ⟨#[]⟩, .slice none 0 0, .int .u32 0, .int .u32 0, .int .u64 0, .int .u32 0, .int .u64 0, .int .u32 0, .string ⟨#[]⟩, .int .u64 0, .int .u32 0] #[.int .i64 (v0 : Int), .int .i64 (v1 : Int), .bool v2, .string (bs v3), .slice ao4 v4.length cp4, .int .u32 (v5 : Int), .int .u32 (u5 : Int), .int .u64 (v6 : Int), .int .u32 (u6 : Int), .int .u64 (v7 : Int), .int .u32 (u7 : Int), .string (bs v8), .int .u64 (v9 : Int), .int .u32 (u9 : Int)] 35 t9 z9) := by rw [← hz9]; exact ((X9.out.set 12 (.int .u64 (v9 : Int))).set 13 (.int .u32 (u9 : Int)))
  have O4x : Hid (z9.ownsRow B4 67 2 (.slice ao4 v4.length cp4) v4.length (rowC prc v4) ∧ w.heap.size ≤ B4 ∧ rb < B4 ∧ b < B4 ∧ c < B4) := by rw [← hz9]; exact ⟨(set_own (set_own O4.out.1 O4.out.2.2.2.1 12 (.int .u64 (v9 : Int))) O4.out.2.2.2.1 13 (.int .u32 (u9 : Int))), O4.out.2⟩
  clear O4
  have O4 := O4x
  clear O4x
  clear X9
  go_upto_region 12 with fail
  clear hz9 p12 f12 p13 f13
  go_wp2_with (first
    | (refine wpList_load_row rfl 35 _ rfl b rfl 35 _ (0, 0) _ Y10.out.r.x Try.underlying35 rfl (by kernel_rfl) ?_)
    | (refine wpList_store_row rfl 35 _ _ rfl c #[.int .i64 (v0 : Int), .int .i64 (v1 : Int), .bool v2, .string (bs v3), .slice ao4 v4.length cp4, .int .u32 (v5 : Int), .int .u32 (u5 : Int), .int .u64 (v6 : Int), .int .u32 (u6 : Int), .int .u64 (v7 : Int), .int .u32 (u7 : Int), .string (bs v8), .int .u64 (v9 : Int), .int .u32 (u9 : Int)] rfl rfl 35 _ Y10.out.y (by kernel_rfl) rfl (by simp [Value.oneCell']) ?_))
  have YR : Hid (Rx 98 w rb c #[.int .i64 (v0 : Int), .int .i64 (v1 : Int), .bool v2, .string (bs v3), .slice ao4 v4.length cp4, .int .u32 (v5 : Int), .int .u32 (u5 : Int), .int .u64 (v6 : Int), .int .u32 (u6 : Int), .int .u64 (v7 : Int), .int .u32 (u7 : Int), .string (bs v8), .int .u64 (v9 : Int), .int .u32 (u9 : Int)] 35 t9 (z9.setRow c #[.int .i64 (v0 : Int), .int .i64 (v1 : Int), .bool v2, .string (bs v3), .slice ao4 v4.length cp4, .int .u32 (v5 : Int), .int .u32 (u5 : Int), .int .u64 (v6 : Int), .int .u32 (u6 : Int), .int .u64 (v7 : Int), .int .u32 (u7 : Int), .string (bs v8), .int .u64 (v9 : Int), .int .u32 (u9 : Int)])) := Rx.row ⟨Y10.out.r.rd, Y10.out.r.so, Y10.out.y, Y10.out.nr, Y10.out.nw⟩ _
  (try simp only [Exit.inBlock, Exit.then])
  refine bodyPost_ret (results_cell_row rfl _ _ c 35 _ (0, 0) _ rfl YR.out.x Try.underlying35 rfl (by kernel_rfl)) rfl ?_
  rw [HF.out]
  refine ⟨ao4, cp4, rfl, own_le (row_own O4.out.1 O4.out.2.2.2.2 _) O4.out.2.1, YR.out.rd, YR.out.so⟩
end Go.Proofs.Ytmldgfepnmencaa
