/-
  The document's Read: transactions; memory within a read.
-/
import Derived.Test.YtmldgfepnmencaaGb
import Derived.Test.YtmldgfepnmencaaRefRd
namespace Go.Proofs.Ytmldgfepnmencaa
open Go.RowKit Go.Sort Go.Shelf

variable {T : Nat} {w W W' : World} {rb c b bw : Nat} {zs cs es : Array Value} {ty ety : TypeId} {st st' : St} {B n m : Nat} {v v' : Value} {xs xs' : List Value}
theorem Ry.on (h : Ry T w rb c b zs cs ty st W) (hb : Below W.heap.size W W') : Ry T w rb c b zs cs ty st W' :=
  ⟨⟨h.r.rd.on hb, h.r.so.trans (Sole.of_below hb), by rw [hb.block b (Array.getElem?_eq_some_iff.1 h.r.x).1]; exact h.r.x, h.r.ne, h.r.new⟩, by rw [hb.block c (Array.getElem?_eq_some_iff.1 h.y).1]; exact h.y, h.nr, h.nb, h.nw⟩
/-- .. and a row of the call's own. -/
structure Ro (T : Nat) (w : World) (rb c b : Nat) (zs cs : Array Value) (ty : TypeId) (st : St) (B : Nat) (ety : TypeId) (n : Nat) (v : Value) (m : Nat) (xs : List Value) (W : World) : Prop where
  y : Ry T w rb c b zs cs ty st W
  own : W.ownsRow B ety n v m xs
  hr : rb < B
  hb : b < B
  hc : c < B
  big : B ≤ W.heap.size
  low : w.heap.size ≤ B
theorem Ro.go (h : Ro T w rb c b zs cs ty st B ety n v m xs W) (hr : RdAt T rb st' W') (hs : Sole rb W W') : Ro T w rb c b zs cs ty st' B ety n v m xs W' :=
  ⟨h.y.go hr hs, own_sole h.own hs h.hr, h.hr, h.hb, h.hc, Nat.le_trans h.big hs.size, h.low⟩
theorem Ro.on (h : Ro T w rb c b zs cs ty st B ety n v m xs W) (hb : Below W.heap.size W W') : Ro T w rb c b zs cs ty st B ety n v m xs W' :=
  ⟨h.y.on hb, own_on h.own hb, h.hr, h.hb, h.hc, Nat.le_trans h.big hb.size, h.low⟩
theorem Ro.set (h : Ro T w rb c b zs cs ty st B ety n v m xs W) (j : Nat) (u : Value) : Ro T w rb c b zs (cs.setIfInBounds j u) ty st B ety n v m xs (W.setCell ⟨b, j, none⟩ u) :=
  ⟨h.y.set j u, set_own h.own h.hb j u, h.hr, h.hb, h.hc, by have := h.big; simpa [World.setCell] using this, h.low⟩
theorem Ro.grow (h : Ro T w rb c b zs cs ty st B ety n v m xs W) (hg : W.grownBy W' v.ownBlock) {m' : Nat} (hown : W'.ownsRow B ety n v' m' xs') : Ro T w rb c b zs cs ty st B ety n v' m' xs' W' := by
  have hk := grown_kept hg
  have ob : ∀ k, v.ownBlock = some k → B ≤ k := fun k hk => (World.ownsRow.lt h.own k hk).1
  have h1 := h.hr
  have h2 := h.hb
  have h3 := h.hc
  have h4 := h.low
  refine ⟨⟨⟨rd_grown h.y.r.rd hg (fun k hk => by have := ob k hk; omega), sole_grown h.y.r.so hg (fun k hk => by have := ob k hk; omega), ?_, h.y.r.ne, h.y.r.new⟩, ?_, h.y.nr, h.y.nb, h.y.nw⟩, hown, h.hr, h.hb, h.hc, Nat.le_trans h.big hk.size, h.low⟩
  · rw [hk.block b (Array.getElem?_eq_some_iff.1 h.y.r.x).1 (fun e => by have := ob _ e; omega)]; exact h.y.r.x
  · rw [hk.block c (Array.getElem?_eq_some_iff.1 h.y.y).1 (fun e => by have := ob _ e; omega)]; exact h.y.y
/-- .. and a box for one thing. -/
structure Rw (T : Nat) (w : World) (rb c b bw : Nat) (zs cs es : Array Value) (ty : TypeId) (st : St) (B : Nat) (ety : TypeId) (n : Nat) (v : Value) (m : Nat) (xs : List Value) (W : World) : Prop where
  o : Ro T w rb c b zs cs ty st B ety n v m xs W
  z : W.heap[bw]? = some (.cells es ety (0, 0))
  big : B ≤ bw
  no : ∀ k, v.ownBlock = some k → k ≠ bw
theorem Ro.box (h : Ro T w rb c b zs cs ty st B ety n v m xs W) (es : Array Value) : Rw T w rb c b W.heap.size zs cs es ty st B ety n v m xs (W.alloc (.cells es ety)) :=
  ⟨h.on (al _), heap_alloc_new W _, h.big, fun k hk e => by
    subst e
    rcases h.own.2 with ⟨rfl, _⟩ | ⟨g, cap, cur, rfl, _, hg, _⟩
    · simp [Value.ownBlock] at hk
    · simp only [Value.ownBlock] at hk
      injection hk with hk
      subst hk
      have := (Array.getElem?_eq_some_iff.1 hg).1
      omega⟩
theorem Rw.go (h : Rw T w rb c b bw zs cs es ty st B ety n v m xs W) (hr : RdAt T rb st' W') (hs : Sole rb W W') : Rw T w rb c b bw zs cs es ty st' B ety n v m xs W' :=
  ⟨h.o.go hr hs, by rw [hs.block bw (Array.getElem?_eq_some_iff.1 h.z).1 (by have := h.big; have := h.o.hr; omega)]; exact h.z, h.big, h.no⟩
theorem Rw.setw (h : Rw T w rb c b bw zs cs es ty st B ety n v m xs W) (j : Nat) (u : Value) : Rw T w rb c b bw zs cs (es.setIfInBounds j u) ty st B ety n v m xs (W.setCell ⟨bw, j, none⟩ u) := by
  have h1 := h.big
  have h2 := h.o.hr
  have h3 := h.o.hb
  have h4 := h.o.hc
  have h5 := h.o.low
  refine ⟨⟨⟨⟨h.o.y.r.rd.setOther (by omega) _ _, h.o.y.r.so.setNew (by omega) _ _, ?_, h.o.y.r.ne, h.o.y.r.new⟩, ?_, h.o.y.nr, h.o.y.nb, h.o.y.nw⟩, own_kept h.o.own (set_kept' W bw j u) (fun k hk e => h.no k hk e), h.o.hr, h.o.hb, h.o.hc, by have := h.o.big; simpa [World.setCell] using this, h.o.low⟩, block_set u h.z, h.big, h.no⟩
  · rw [Below.heap_setCell _ _ _ _ (by show b ≠ bw; omega)]; exact h.o.y.r.x
  · rw [Below.heap_setCell _ _ _ _ (by show c ≠ bw; omega)]; exact h.o.y.y
/-- A row that is done with. -/
structure Fz (B0 : Nat) (ety0 : TypeId) (n0 : Nat) (v0 : Value) (m0 : Nat) (xs0 : List Value) (B : Nat) (W : World) : Prop where
  own : W.ownsRow B0 ety0 n0 v0 m0 xs0
  lt : ∀ k, v0.ownBlock = some k → k < B
variable {B0 n0 m0 : Nat} {ety0 : TypeId} {v0 : Value} {xs0 : List Value}
theorem fz_new (h : W.ownsRow B0 ety0 n0 v0 m0 xs0) : Fz B0 ety0 n0 v0 m0 xs0 W.heap.size W := ⟨h, fun k hk => by
    rcases h.2 with ⟨rfl, _⟩ | ⟨g, cap, cur, rfl, _, hg, _⟩
    · simp [Value.ownBlock] at hk
    · simp only [Value.ownBlock] at hk
      injection hk with hk
      subst hk
      exact (Array.getElem?_eq_some_iff.1 hg).1⟩
theorem Fz.sole (h : Fz B0 ety0 n0 v0 m0 xs0 B W) (hs : Sole rb W W') (hr : rb < B0) : Fz B0 ety0 n0 v0 m0 xs0 B W' := ⟨own_sole h.own hs hr, h.lt⟩
theorem Fz.on (h : Fz B0 ety0 n0 v0 m0 xs0 B W) (hb : Below W.heap.size W W') : Fz B0 ety0 n0 v0 m0 xs0 B W' := ⟨own_on h.own hb, h.lt⟩
theorem Fz.set (h : Fz B0 ety0 n0 v0 m0 xs0 B W) (hb : b < B0) (j : Nat) (u : Value) : Fz B0 ety0 n0 v0 m0 xs0 B (W.setCell ⟨b, j, none⟩ u) := ⟨set_own h.own hb j u, h.lt⟩
theorem Fz.grown {row : Option Nat} (h : Fz B0 ety0 n0 v0 m0 xs0 B W) (hg : W.grownBy W' row) (hr : ∀ k, row = some k → B ≤ k) : Fz B0 ety0 n0 v0 m0 xs0 B W' :=
  ⟨own_kept h.own (grown_kept hg) (fun k hk e => by have h1 := h.lt k hk; have h2 := hr k e; omega), h.lt⟩
theorem thing_ow {α : Type} {vc : α → List Value} {sz : Nat} (hsz : ∀ a, (vc a).length = sz) (h1 : ∀ a, ∀ u ∈ vc a, u.oneCell' = true) (x : α) (h : W.ownsRow B ety sz v m xs) (hB : B ≤ W.heap.size) (hm : m ≤ 1000) : Ow B ety sz v m xs (W.heap.size + 1) (.slice (some ⟨W.heap.size, 0, none⟩) 1 1) 1 (rowC vc [x]) (W.alloc (.cells (vc x).toArray ety)) :=
  ⟨h.alloc _, row_one vc sz hsz x ety W (fun j u hj => block_cell (heap_alloc_new W _) (by simpa using hj)), rowC_cells vc h1 [x], by simp; omega, by omega⟩
set_option maxHeartbeats 3200000 in
set_option maxRecDepth 100000 in
theorem rtn72 (rb : Nat) (st : St) (w : World) (h : RdAt 80 rb st w) (hl : st.l.length < 4611686018427387904) :
    Calls Try.prog 72 #[.pointer (some ⟨rb, 0, none⟩)] w fun e w' => e = .returned (.agg #[.int .u32 ((rTn st).1.c : Int), .int .u32 ((rTn st).1.n : Int)]) ∧ RdAt 80 rb (rTn st).2 w' ∧ Sole rb w w' := by
  have H0 : Hid _ := rx_new h #[.int .u32 0, .int .u32 0] 24
  obtain ⟨W1, hW1⟩ : ∃ W1, w.alloc (.cells #[.int .u32 0, .int .u32 0] 24) = W1 := ⟨_, rfl⟩
  obtain ⟨b, hb⟩ : ∃ b, w.heap.size = b := ⟨_, rfl⟩
  have X0 : Hid (Rx 80 w rb b #[.int .u32 0, .int .u32 0] 24 st W1) := by rw [← hb, ← hW1]; exact H0.out
  clear H0 h
  have C0 : Hid (∀ W, RdAt 80 rb st W → _) := fun W hW => num26 rb st 4294967295 W hW (by omega)
  have L0 := num_le63 4294967295 _ hl
  have D0 := (rdNum_le 4294967295 st).1
  obtain ⟨⟨v0, t0⟩, h0⟩ : ∃ p, rdNum 4294967295 st = p := ⟨_, rfl⟩
  rw [h0] at C0 L0 D0
  simp only at C0 L0 D0
  have d0 : v0 < 4294967296 := by omega
  have C1 : Hid (∀ W, RdAt 80 rb t0 W → _) := fun W hW => num26 rb t0 4294967295 W hW (by omega)
  have L1 := num_le63 4294967295 _ L0
  have D1 := (rdNum_le 4294967295 t0).1
  obtain ⟨⟨v1, t1⟩, h1⟩ : ∃ p, rdNum 4294967295 t0 = p := ⟨_, rfl⟩
  rw [h1] at C1 L1 D1
  simp only at C1 L1 D1
  have d1 : v1 < 4294967296 := by omega
  have HF : Hid (rTn st = (⟨v0, v1⟩, t1)) := by
    show _ = _
    unfold rTn
    simp only [h0, h1]
  clear h0 L0 h1 L1
  go_enter Try.func72, Try.ntmps72
  go_wp2_with fail
  refine (C0.out _ X0.out.rd).mono ?_
  rintro e x0 ⟨rfl, hr, hs⟩
  have X1 : Hid (Rx 80 w rb b #[.int .u32 0, .int .u32 0] 24 t0 x0) := X0.out.go hr hs
  clear hr hs C0 X0 hW1 hb
  go_wp2_with fail
  refine (C1.out _ X1.out.rd).mono ?_
  rintro e x1 ⟨rfl, hr, hs⟩
  have X2 : Hid (Rx 80 w rb b #[.int .u32 0, .int .u32 0] 24 t1 x1) := X1.out.go hr hs
  clear hr hs C1 X1
  go_wp2_with (refine wpList_store_row rfl 24 _ _ rfl b #[.int .u32 (v0 : Int), .int .u32 (v1 : Int)] rfl rfl 24 _ X2.out.x (by kernel_rfl) rfl (by simp [Value.oneCell']) ?_)
  have Y : Hid _ := X2.out.row #[.int .u32 (v0 : Int), .int .u32 (v1 : Int)]
  (try simp only [Exit.inBlock, Exit.then])
  refine bodyPost_ret (results_cell_row rfl _ _ b 24 _ (0, 0) _ rfl Y.out.x Try.underlying24 rfl (by kernel_rfl)) rfl ?_
  refine ⟨?_, ?_, Y.out.so⟩
  · rw [HF.out]
  · rw [HF.out]; exact Y.out.rd
end Go.Proofs.Ytmldgfepnmencaa
