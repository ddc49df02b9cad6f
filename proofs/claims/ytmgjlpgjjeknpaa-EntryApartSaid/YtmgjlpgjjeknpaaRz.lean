/-
  The document's Read: its boxes.
-/
import Derived.Test.YtmgjlpgjjeknpaaWg
namespace Go.Proofs.Ytmgjlpgjjeknpaa
open Go.RowKit Go.Sort

theorem all13 {b : Nat} {W : World} {v0 v1 v2 v3 v4 v5 v6 v7 v8 v9 v10 v11 v12 : Value} {ty : TypeId} (h : W.heap[b]? = some (.cells #[v0, v1, v2, v3, v4, v5, v6, v7, v8, v9, v10, v11, v12] ty (0, 0))) : W.cell? ⟨b, 0, none⟩ = some v0 ∧ W.cell? ⟨b, 1, none⟩ = some v1 ∧ W.cell? ⟨b, 2, none⟩ = some v2 ∧ W.cell? ⟨b, 3, none⟩ = some v3 ∧ W.cell? ⟨b, 4, none⟩ = some v4 ∧ W.cell? ⟨b, 5, none⟩ = some v5 ∧ W.cell? ⟨b, 6, none⟩ = some v6 ∧ W.cell? ⟨b, 7, none⟩ = some v7 ∧ W.cell? ⟨b, 8, none⟩ = some v8 ∧ W.cell? ⟨b, 9, none⟩ = some v9 ∧ W.cell? ⟨b, 10, none⟩ = some v10 ∧ W.cell? ⟨b, 11, none⟩ = some v11 ∧ W.cell? ⟨b, 12, none⟩ = some v12 :=
  ⟨block_cell h rfl, block_cell h rfl, block_cell h rfl, block_cell h rfl, block_cell h rfl, block_cell h rfl, block_cell h rfl, block_cell h rfl, block_cell h rfl, block_cell h rfl, block_cell h rfl, block_cell h rfl, block_cell h rfl⟩
theorem froz13 {b : Nat} {W : World} {cs : Array Value} {ty : TypeId} (h : W.heap[b]? = some (.cells cs ty (0, 0))) : W.frozen? ⟨b, 0, none⟩ = false ∧ W.frozen? ⟨b, 1, none⟩ = false ∧ W.frozen? ⟨b, 2, none⟩ = false ∧ W.frozen? ⟨b, 3, none⟩ = false ∧ W.frozen? ⟨b, 4, none⟩ = false ∧ W.frozen? ⟨b, 5, none⟩ = false ∧ W.frozen? ⟨b, 6, none⟩ = false ∧ W.frozen? ⟨b, 7, none⟩ = false ∧ W.frozen? ⟨b, 8, none⟩ = false ∧ W.frozen? ⟨b, 9, none⟩ = false ∧ W.frozen? ⟨b, 10, none⟩ = false ∧ W.frozen? ⟨b, 11, none⟩ = false ∧ W.frozen? ⟨b, 12, none⟩ = false :=
  ⟨block_frozen h 0, block_frozen h 1, block_frozen h 2, block_frozen h 3, block_frozen h 4, block_frozen h 5, block_frozen h 6, block_frozen h 7, block_frozen h 8, block_frozen h 9, block_frozen h 10, block_frozen h 11, block_frozen h 12⟩
theorem bx13_kept {b : Nat} {W : World} (v0 v1 v2 v3 v4 v5 v6 v7 v8 v9 v10 v11 v12 : Value) : Kept (fun c => c = b) W (((((((((((((W.setCell ⟨b, 0, none⟩ (v0)).setCell ⟨b, 1, none⟩ (v1)).setCell ⟨b, 2, none⟩ (v2)).setCell ⟨b, 3, none⟩ (v3)).setCell ⟨b, 4, none⟩ (v4)).setCell ⟨b, 5, none⟩ (v5)).setCell ⟨b, 6, none⟩ (v6)).setCell ⟨b, 7, none⟩ (v7)).setCell ⟨b, 8, none⟩ (v8)).setCell ⟨b, 9, none⟩ (v9)).setCell ⟨b, 10, none⟩ (v10)).setCell ⟨b, 11, none⟩ (v11)).setCell ⟨b, 12, none⟩ (v12)) := by
  have t : ∀ {x y z : World}, Kept (fun c => c = b) x y → Kept (fun c => c = b) y z → Kept (fun c => c = b) x z := fun h k => h.trans k (fun _ h => .inl h)
  exact (t (t (t (t (t (t (t (t (t (t (t (t (set_kept' W b 0 v0) (set_kept' _ b 1 v1)) (set_kept' _ b 2 v2)) (set_kept' _ b 3 v3)) (set_kept' _ b 4 v4)) (set_kept' _ b 5 v5)) (set_kept' _ b 6 v6)) (set_kept' _ b 7 v7)) (set_kept' _ b 8 v8)) (set_kept' _ b 9 v9)) (set_kept' _ b 10 v10)) (set_kept' _ b 11 v11)) (set_kept' _ b 12 v12))
theorem Sole.kept {rb : Nat} {w w' : World} (h : Sole rb w w') : Kept (fun c => c = rb) w w' := ⟨h.os, h.tape, h.output, h.size, fun k hk hn => h.block k hk hn⟩
/-- Read's boxes: the answer, the reader (of type T), what is made of it; the writes so far (from block B on). -/
structure Rz (T B : Nat) (w : World) (bx br be : Nat) (cs : Array Value) (v : Value) (ws : List Wr) (st : St) (W : World) : Prop where
  bel : Below w.heap.size w W
  x : W.heap[bx]? = some (.cells #[.int .i64 0, .int .u32 0, .int .u32 0, .int .u64 0, .int .u32 0, .int .u64 0, .int .u32 0, .int .u64 0, .int .u32 0, .string ⟨#[]⟩, .int .u8 0, .bool false, .slice none 0 0] 30 (0, 0))
  r : RdAt T br st W
  y : W.heap[be]? = some (.cells cs 30 (0, 0))
  own : W.ownsRow B 60 3 v ws.length (rowC wrc ws)
  lx : w.heap.size ≤ bx
  lr : w.heap.size ≤ br
  le : w.heap.size ≤ be
  xb : bx < B
  rb : br < B
  eb : be < B
  nxr : bx ≠ br
  nxe : bx ≠ be
  nre : br ≠ be
  big : B ≤ W.heap.size
  len : st.l.length < 4611686018427387904
variable {T B : Nat} {w W W' : World} {bx br be : Nat} {cs : Array Value} {v : Value} {ws : List Wr} {st : St}
theorem Rz.ob (h : Rz T B w bx br be cs v ws st W) : ∀ k, v.ownBlock = some k → B ≤ k ∧ k < W.heap.size := fun k hk => World.ownsRow.lt h.own k hk
theorem Rz.on (h : Rz T B w bx br be cs v ws st W) (hb : Below W.heap.size W W') : Rz T B w bx br be cs v ws st W' :=
  ⟨h.bel.trans (hb.mono h.bel.size), by rw [hb.block _ (Array.getElem?_eq_some_iff.1 h.x).1]; exact h.x, h.r.on hb, by rw [hb.block _ (Array.getElem?_eq_some_iff.1 h.y).1]; exact h.y, own_on h.own hb, h.lx, h.lr, h.le, h.xb, h.rb, h.eb, h.nxr, h.nxe, h.nre, Nat.le_trans h.big hb.size, h.len⟩
theorem Rz.rd (h : Rz T B w bx br be cs v ws st W) {st' : St} (hr : RdAt T br st' W') (hs : Sole br W W') (hl : st'.l.length ≤ st.l.length) : Rz T B w bx br be cs v ws st' W' := by
  have hk := hs.kept
  have h1 := h.rb
  have h4 := h.len
  have h5 := h.lr
  refine ⟨?_, ?_, hr, ?_, own_kept h.own hk (fun k hk hf => by have := h.ob k hk; omega), h.lx, h.lr, h.le, h.xb, h.rb, h.eb, h.nxr, h.nxe, h.nre, Nat.le_trans h.big hk.size, by omega⟩
  · exact h.bel.trans (hk.below h.bel.size (fun k hf => by subst hf; exact h5))
  · rw [hk.block bx (Array.getElem?_eq_some_iff.1 h.x).1 h.nxr]; exact h.x
  · rw [hk.block be (Array.getElem?_eq_some_iff.1 h.y).1 (Ne.symm h.nre)]; exact h.y
theorem Rz.put (h : Rz T B w bx br be cs v ws st W) (j : Nat) (u : Value) : Rz T B w bx br be (cs.setIfInBounds j u) v ws st (W.setCell ⟨be, j, none⟩ u) := by
  have hk := set_kept' W be j u
  have h1 := h.eb
  have h5 := h.le
  refine ⟨h.bel.trans (hk.below h.bel.size (fun k hf => by subst hf; exact h5)), ?_, ?_, block_set _ h.y, own_kept h.own hk (fun k hk hf => by have := h.ob k hk; omega), h.lx, h.lr, h.le, h.xb, h.rb, h.eb, h.nxr, h.nxe, h.nre, Nat.le_trans h.big hk.size, h.len⟩
  · rw [hk.block bx (Array.getElem?_eq_some_iff.1 h.x).1 h.nxe]; exact h.x
  · show _ = _
    rw [hk.block br (Array.getElem?_eq_some_iff.1 h.r).1 h.nre]; exact h.r
/-- A box for a write besides. -/
structure Rb (T B : Nat) (w : World) (bx br be bw : Nat) (cs : Array Value) (v : Value) (ws : List Wr) (st : St) (x : Wr) (W : World) : Prop where
  z : Rz T B w bx br be cs v ws st W
  b : W.heap[bw]? = some (.cells #[.string (bs x.key), .string (bs x.val), .bool x.dead] 60 (0, 0))
  lb : B ≤ bw
  nb : ∀ k, v.ownBlock = some k → k < bw
variable {bw : Nat} {x : Wr}
theorem Rz.box (h : Rz T B w bx br be cs v ws st W) (x : Wr) : Rb T B w bx br be W.heap.size cs v ws st x (W.alloc (.cells #[.string (bs x.key), .string (bs x.val), .bool x.dead] 60)) :=
  ⟨h.on (al _), heap_alloc_new W _, h.big, fun k hk => (h.ob k hk).2⟩
theorem Rb.rd (h : Rb T B w bx br be bw cs v ws st x W) {st' : St} (hr : RdAt T br st' W') (hs : Sole br W W') (hl : st'.l.length ≤ st.l.length) : Rb T B w bx br be bw cs v ws st' x W' := by
  have h1 := h.lb
  have h2 := h.z.rb
  exact ⟨h.z.rd hr hs hl, by rw [hs.block bw (Array.getElem?_eq_some_iff.1 h.b).1 (by omega)]; exact h.b, h.lb, h.nb⟩
theorem Rb.set (h : Rb T B w bx br be bw cs v ws st x W) (j : Nat) (u : Value) (y : Wr) (hy : (#[Value.string (bs x.key), .string (bs x.val), .bool x.dead] : Array Value).setIfInBounds j u = #[.string (bs y.key), .string (bs y.val), .bool y.dead]) : Rb T B w bx br be bw cs v ws st y (W.setCell ⟨bw, j, none⟩ u) := by
  have hk := set_kept' W bw j u
  have h0 := h.lb
  have h1 := h.z.xb
  have h2 := h.z.rb
  have h3 := h.z.eb
  have h4 := h.z.lx
  refine ⟨⟨h.z.bel.trans (hk.below h.z.bel.size (fun k hf => by subst hf; omega)), ?_, ?_, ?_, own_kept h.z.own hk (fun k hk hf => by have := h.nb k hk; omega), h.z.lx, h.z.lr, h.z.le, h.z.xb, h.z.rb, h.z.eb, h.z.nxr, h.z.nxe, h.z.nre, Nat.le_trans h.z.big hk.size, h.z.len⟩, ?_, h.lb, h.nb⟩
  · rw [hk.block bx (Array.getElem?_eq_some_iff.1 h.z.x).1 (by omega)]; exact h.z.x
  · show _ = _
    rw [hk.block br (Array.getElem?_eq_some_iff.1 h.z.r).1 (by omega)]; exact h.z.r
  · rw [hk.block be (Array.getElem?_eq_some_iff.1 h.z.y).1 (by omega)]; exact h.z.y
  · rw [← hy]; exact block_set _ h.b
/-- One more write behind the row. -/
theorem Rb.grow (h : Rb T B w bx br be bw cs v ws st x W) {v' : Value} {W1 W2 : World} (hW : W.alloc (.cells #[.string (bs x.key), .string (bs x.val), .bool x.dead] 60) = W1) (hown : W2.ownsRow B 60 3 v' (ws.length + 1) (rowC wrc ws ++ rowC wrc [x])) (hg : W1.grownBy W2 v.ownBlock) : Rz T B w bx br be cs v' (ws ++ [x]) st W2 := by
  have hz : Rz T B w bx br be cs v ws st W1 := by rw [← hW]; exact h.z.on (al _)
  have hk := grown_kept hg
  have h1 := hz.xb
  have h2 := hz.rb
  have h3 := hz.eb
  have h4 := hz.lx
  have ob := hz.ob
  refine ⟨hz.bel.trans (hk.below hz.bel.size (fun k hf => by have := ob k hf; omega)), ?_, ?_, ?_, by rw [rowC_append, List.length_append]; exact hown, hz.lx, hz.lr, hz.le, hz.xb, hz.rb, hz.eb, hz.nxr, hz.nxe, hz.nre, Nat.le_trans hz.big hk.size, hz.len⟩
  · rw [hk.block bx (Array.getElem?_eq_some_iff.1 hz.x).1 (fun hf => by have := ob _ hf; omega)]; exact hz.x
  · show _ = _
    rw [hk.block br (Array.getElem?_eq_some_iff.1 hz.r).1 (fun hf => by have := ob _ hf; omega)]; exact hz.r
  · rw [hk.block be (Array.getElem?_eq_some_iff.1 hz.y).1 (fun hf => by have := ob _ hf; omega)]; exact hz.y
/-- The three boxes, laid in this order. -/
theorem rz_mk (hb : Below w.heap.size w W) (hx : W.heap[bx]? = some (.cells #[.int .i64 0, .int .u32 0, .int .u32 0, .int .u64 0, .int .u32 0, .int .u64 0, .int .u32 0, .int .u64 0, .int .u32 0, .string ⟨#[]⟩, .int .u8 0, .bool false, .slice none 0 0] 30 (0, 0))) (hr : RdAt T br st W) (lx : w.heap.size ≤ bx) (xr : bx < br) (hl : st.l.length < 4611686018427387904) (cs : Array Value) : Rz T (W.heap.size + 1) w bx br W.heap.size cs (.slice none 0 0) [] st (W.alloc (.cells cs 30)) := by
  have h1 := (Array.getElem?_eq_some_iff.1 hx).1
  have h2 := (Array.getElem?_eq_some_iff.1 hr).1
  have h3 := hb.size
  exact ⟨hb.alloc hb.size _, by rw [(al (W := W) _).block _ h1]; exact hx, hr.alloc _, heap_alloc_new W _, own_nil _ _ _ _, lx, by omega, h3, by omega, by omega, by omega, by omega, by omega, by omega, by rw [size_al]; exact Nat.le_refl _, hl⟩
theorem info53 : (Try.prog.info? 60).map (fun i => (i.zero, i.size, i.bytes)) = some (some (.agg #[.string ⟨#[]⟩, .string ⟨#[]⟩, .bool false]), 3, 40) := by kernel_rfl
theorem wr_ow {base n : Nat} {va : Value} {l : List Wr} {w : World} (x : Wr) (ho : w.ownsRow base 60 3 va n (rowC wrc l)) (hb : base ≤ w.heap.size) (hl : n < 1000000) :
    Ow base 60 3 va n (rowC wrc l) (w.heap.size + 1) (.slice (some ⟨w.heap.size, 0, none⟩) 1 1) 1 (rowC wrc [x]) (w.alloc (.cells #[.string (bs x.key), .string (bs x.val), .bool x.dead] 60)) :=
  ⟨World.ownsRow.alloc ho _, row_one wrc 3 wrc_len x 60 w (fun j u hj => block_cell (heap_alloc_new w _) (by simpa using hj)), rowC_cells wrc wrc_one _, Nat.le_trans hb (by simp), by omega⟩
theorem rz_new {s : List UInt8} (hl : s.length < 4611686018427387904) {st : St} {W2 W3 : World} (hW : (w.alloc (.cells #[.int .i64 0, .int .u32 0, .int .u32 0, .int .u64 0, .int .u32 0, .int .u64 0, .int .u32 0, .int .u64 0, .int .u32 0, .string ⟨#[]⟩, .int .u8 0, .bool false, .slice none 0 0] 30)).alloc (.cells #[.string (bs s), .int .i64 0] 71) = W2) (hr : RdAt 71 (w.heap.size + 1) st W3) (hs : Sole (w.heap.size + 1) W2 W3) (hst : st.l.length ≤ s.length) (cs : Array Value) : Rz 71 (W3.heap.size + 1) w w.heap.size (w.heap.size + 1) W3.heap.size cs (.slice none 0 0) [] st (W3.alloc (.cells cs 30)) := by
  have k1 : (w.alloc (.cells #[.int .i64 0, .int .u32 0, .int .u32 0, .int .u64 0, .int .u32 0, .int .u64 0, .int .u32 0, .int .u64 0, .int .u32 0, .string ⟨#[]⟩, .int .u8 0, .bool false, .slice none 0 0] 30)).heap[w.heap.size]? = some (.cells #[.int .i64 0, .int .u32 0, .int .u32 0, .int .u64 0, .int .u32 0, .int .u64 0, .int .u32 0, .int .u64 0, .int .u32 0, .string ⟨#[]⟩, .int .u8 0, .bool false, .slice none 0 0] 30 (0, 0)) := heap_alloc_new w _
  generalize hW1 : w.alloc (.cells #[.int .i64 0, .int .u32 0, .int .u32 0, .int .u64 0, .int .u32 0, .int .u64 0, .int .u32 0, .int .u64 0, .int .u32 0, .string ⟨#[]⟩, .int .u8 0, .bool false, .slice none 0 0] 30) = W1 at *
  have b1 : Below w.heap.size w W1 := by rw [← hW1]; exact al _
  have k2 : W2.heap[w.heap.size]? = some (.cells #[.int .i64 0, .int .u32 0, .int .u32 0, .int .u64 0, .int .u32 0, .int .u64 0, .int .u32 0, .int .u64 0, .int .u32 0, .string ⟨#[]⟩, .int .u8 0, .bool false, .slice none 0 0] 30 (0, 0)) := by rw [← hW, (al (W := W1) _).block _ (Array.getElem?_eq_some_iff.1 k1).1]; exact k1
  have b2 : Below w.heap.size w W2 := by rw [← hW]; exact b1.alloc b1.size _
  have k3 : W3.heap[w.heap.size]? = some (.cells #[.int .i64 0, .int .u32 0, .int .u32 0, .int .u64 0, .int .u32 0, .int .u64 0, .int .u32 0, .int .u64 0, .int .u32 0, .string ⟨#[]⟩, .int .u8 0, .bool false, .slice none 0 0] 30 (0, 0)) := by rw [hs.block _ (Array.getElem?_eq_some_iff.1 k2).1 (by omega)]; exact k2
  have b3 : Below w.heap.size w W3 := b2.trans (hs.kept.below b2.size (fun k hf => by subst hf; omega))
  exact rz_mk b3 k3 hr (Nat.le_refl _) (by omega) (by omega) cs
/-- What Read answers. -/
def RdPost (s : List UInt8) (w : World) (r : Ending) (w' : World) : Prop :=
  Below w.heap.size w w' ∧ (readE s = none → r = .returned (.tuple #[.agg #[.int .i64 0, .int .u32 0, .int .u32 0, .int .u64 0, .int .u32 0, .int .u64 0, .int .u32 0, .int .u64 0, .int .u32 0, .string ⟨#[]⟩, .int .u8 0, .bool false, .slice none 0 0], .int .i64 2])) ∧ ∀ e, readE s = some e → ∃ ao cp, r = .returned (.tuple #[.agg #[.int .i64 e.k, .int .u32 (e.c : Int), .int .u32 (e.n : Int), .int .u64 (e.sp : Int), .int .u32 (e.sl : Int), .int .u64 (e.ap : Int), .int .u32 (e.al : Int), .int .u64 (e.mp : Int), .int .u32 (e.ml : Int), .string (bs e.prim), .int .u8 (e.pt : Int), .bool e.dn, .slice ao e.ws.length cp], .int .i64 0]) ∧ WsAt w'.heap.size (.slice ao e.ws.length cp) e.ws w'
theorem rdStamp_le (st : St) : (rdStamp st).2.l.length ≤ st.l.length := by
  have h1 := rdNum_le 281474976710656 st
  have h2 := rdNum_le 4095 (rdNum 281474976710656 st).2
  unfold rdStamp
  split <;> dsimp only <;> omega
theorem rdText_le (a b : Int) (st : St) : (rdText a b st).2.l.length ≤ st.l.length := by
  have h1 := rdNum_le 18446744073709551615 st
  unfold rdText
  split
  · exact h1.2.1
  · split
    · simp
    · split
      · simp
      · simp only [List.length_drop]; omega
theorem rdFlag_le (st : St) : (rdFlag st).2.l.length ≤ st.l.length := by
  unfold rdFlag
  split
  · exact Nat.le_refl _
  · split
    · simp
    · rename_i h
      rw [h]
      split <;> simp
theorem u32w {n : Nat} (h : n ≤ 4294967295) : IntKind.u32.wrap (n : Int) = n := by
  simp [IntKind.wrap, IntKind.signed, IntKind.bits]
  omega
theorem u8w {n : Nat} (h : n ≤ 255) : IntKind.u8.wrap (n : Int) = n := by
  simp [IntKind.wrap, IntKind.signed, IntKind.bits]
  omega
end Go.Proofs.Ytmgjlpgjjeknpaa
