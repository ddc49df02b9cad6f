/-
  Contracts of the map of claims: New, Len, Get, Keys, Set, Cut.
-/
import Derived.Test.YtknfkpnicjellaaOWith
import Derived.Test.YtknfkpnicjellaaOWo
import Derived.Test.YtknfkpnicjellaaOFg
namespace Go.Proofs.Ytknfkpnicjellaa
open Go.RowKit

/-- The map behind p: the tree t, and how many keys it has. -/
structure Mp (B p : Nat) (t : Tr) (w : World) : Prop where
  box : w.heap[p]? = some (.cells #[t.ptr, .int .i64 t.toL.length] 89 (0, 0))
  ok : TrAt nl t w
  srt : Srt t.toL
  hk : Hk t
  pn : p ∉ t.blocks
  nd : t.blocks.Nodup
  low : B ≤ p ∧ ∀ i ∈ t.blocks, B ≤ i
def MapAt (B p : Nat) (F : Nat → Prop) (L : Kv Cv) (w : World) : Prop := ∃ t, Mp B p t w ∧ t.toL = L ∧ F = fun i => i = p ∨ i ∈ t.blocks
theorem Mp.kept {B p : Nat} {t : Tr} {w w' : World} {G : Nat → Prop} (h : Mp B p t w) (hk : Kept G w w') (h1 : ¬ G p) (h2 : ∀ i ∈ t.blocks, ¬ G i) : Mp B p t w' :=
  ⟨by rw [hk.block p (Array.getElem?_eq_some_iff.1 h.box).1 h1]; exact h.box, TrAt.kept hk h.ok h2, h.srt, h.hk, h.pn, h.nd, h.low⟩
theorem Mp.cells {B p : Nat} {t : Tr} {w : World} (h : Mp B p t w) : w.cell? ⟨p, 0, none⟩ = some t.ptr ∧ w.cell? ⟨p, 1, none⟩ = some (.int .i64 t.toL.length) := ⟨block_cell h.box rfl, block_cell h.box rfl⟩

set_option maxHeartbeats 400000 in
set_option maxRecDepth 100000 in
theorem new8 (w : World) : Calls Try.prog 26 #[] w fun e w' => ∃ p F, e = .returned (.pointer (some ⟨p, 0, none⟩)) ∧ MapAt w.heap.size p F [] w' ∧ Below w.heap.size w w' := by
  have H : Hid (Mp w.heap.size w.heap.size .nil (w.alloc (.cells #[.pointer none, .int .i64 0] 89))) :=
    ⟨heap_alloc_new w _, trivial, List.Pairwise.nil, trivial, by simp [Tr.blocks], by simp [Tr.blocks], Nat.le_refl _, fun i hi => by simp [Tr.blocks] at hi⟩
  go_enter Try.func26, Try.ntmps26
  go_wp2_with fail
  go_ret
  exact ⟨_, _, rfl, ⟨.nil, H.out, rfl, rfl⟩, al _⟩

set_option maxHeartbeats 400000 in
set_option maxRecDepth 100000 in
theorem len15 {B p : Nat} {t : Tr} {w : World} (h : Mp B p t w) : Calls Try.prog 49 #[.pointer (some ⟨p, 0, none⟩)] w fun e w' => e = .returned (.int .i64 t.toL.length) ∧ Below w.heap.size w w' := by
  obtain ⟨c0, c1⟩ := h.cells
  clear h
  go_enter Try.func49, Try.ntmps49
  go_wp2_with fail
  go_ret
  exact ⟨rfl, Below.refl _ _⟩
set_option maxHeartbeats 400000 in
set_option maxRecDepth 100000 in
theorem len15_nil (w : World) : Calls Try.prog 49 #[.pointer none] w fun e w' => e = .returned (.int .i64 0) ∧ Below w.heap.size w w' := by
  go_enter Try.func49, Try.ntmps49
  go_wp2_with fail
  go_ret
  exact ⟨rfl, Below.refl _ _⟩

/-- A claim's zero value. -/
def zc : Cv := ((0, 0), ⟨[], [], false⟩)
/-- Five cells of a box written. -/
theorem bx5 {W : World} {b : Nat} {a0 a1 a2 a3 a4 : Value} (v : Cv) (h0 : W.heap[b]? = some (.cells #[a0, a1, a2, a3, a4] 62 (0, 0))) : (((((W.setCell ⟨b, 0, none⟩ (.int .u32 v.1.1)).setCell ⟨b, 1, none⟩ (.int .u32 v.1.2)).setCell ⟨b, 2, none⟩ (.string (bs v.2.key))).setCell ⟨b, 3, none⟩ (.string (bs v.2.val))).setCell ⟨b, 4, none⟩ (.bool v.2.dead)).heap[b]? = some (.cells #[.int .u32 v.1.1, .int .u32 v.1.2, .string (bs v.2.key), .string (bs v.2.val), .bool v.2.dead] 62 (0, 0)) := by
  have h1 : (W.setCell ⟨b, 0, none⟩ (.int .u32 v.1.1)).heap[b]? = some (.cells #[.int .u32 v.1.1, a1, a2, a3, a4] 62 (0, 0)) := block_set _ h0
  generalize W.setCell ⟨b, 0, none⟩ (.int .u32 v.1.1) = W1 at *
  have h2 : (W1.setCell ⟨b, 1, none⟩ (.int .u32 v.1.2)).heap[b]? = some (.cells #[.int .u32 v.1.1, .int .u32 v.1.2, a2, a3, a4] 62 (0, 0)) := block_set _ h1
  generalize W1.setCell ⟨b, 1, none⟩ (.int .u32 v.1.2) = W2 at *
  have h3 : (W2.setCell ⟨b, 2, none⟩ (.string (bs v.2.key))).heap[b]? = some (.cells #[.int .u32 v.1.1, .int .u32 v.1.2, .string (bs v.2.key), a3, a4] 62 (0, 0)) := block_set _ h2
  generalize W2.setCell ⟨b, 2, none⟩ (.string (bs v.2.key)) = W3 at *
  have h4 : (W3.setCell ⟨b, 3, none⟩ (.string (bs v.2.val))).heap[b]? = some (.cells #[.int .u32 v.1.1, .int .u32 v.1.2, .string (bs v.2.key), .string (bs v.2.val), a4] 62 (0, 0)) := block_set _ h3
  generalize W3.setCell ⟨b, 3, none⟩ (.string (bs v.2.val)) = W4 at *
  have h5 : (W4.setCell ⟨b, 4, none⟩ (.bool v.2.dead)).heap[b]? = some (.cells #[.int .u32 v.1.1, .int .u32 v.1.2, .string (bs v.2.key), .string (bs v.2.val), .bool v.2.dead] 62 (0, 0)) := block_set _ h4
  exact h5
theorem bx5_below {B b : Nat} {w W : World} (v : Cv) (h : Below B w W) (hb : B ≤ b) : Below B w (((((W.setCell ⟨b, 0, none⟩ (.int .u32 v.1.1)).setCell ⟨b, 1, none⟩ (.int .u32 v.1.2)).setCell ⟨b, 2, none⟩ (.string (bs v.2.key))).setCell ⟨b, 3, none⟩ (.string (bs v.2.val))).setCell ⟨b, 4, none⟩ (.bool v.2.dead)) := (((((h.setCell (p := ⟨b, 0, none⟩) hb _).setCell (p := ⟨b, 1, none⟩) hb _).setCell (p := ⟨b, 2, none⟩) hb _).setCell (p := ⟨b, 3, none⟩) hb _).setCell (p := ⟨b, 4, none⟩) hb _)
/-- What Get answers. -/
def getV : Option Cv → Value
  | some v => .tuple #[.agg #[.int .u32 v.1.1, .int .u32 v.1.2, .string (bs v.2.key), .string (bs v.2.val), .bool v.2.dead], .bool true]
  | none => .tuple #[.agg #[.int .u32 zc.1.1, .int .u32 zc.1.2, .string (bs zc.2.key), .string (bs zc.2.val), .bool zc.2.dead], .bool false]

set_option maxHeartbeats 800000 in
set_option maxRecDepth 100000 in
theorem get13 {B p : Nat} {t : Tr} {w : World} (k : List UInt8) (h : Mp B p t w) : Calls Try.prog 47 #[.pointer (some ⟨p, 0, none⟩), .string (bs k)] w fun e w' => e = .returned (getV (getF k t.toL)) ∧ Below w.heap.size w w' := by
  obtain ⟨W0, hW0⟩ : ∃ W0, w.alloc (.cells #[.int .u32 0, .int .u32 0, .string ⟨#[]⟩, .string ⟨#[]⟩, .bool false] 62) = W0 := ⟨_, rfl⟩
  have hb0 : Below w.heap.size w W0 := by rw [← hW0]; exact al _
  have hx0 : W0.heap[w.heap.size]? = some (.cells #[.int .u32 0, .int .u32 0, .string ⟨#[]⟩, .string ⟨#[]⟩, .bool false] 62 (0, 0)) := by rw [← hW0]; exact heap_alloc_new w _
  have h1 : Mp B p t W0 := h.kept (Kept.of_below (F := fun _ => False) hb0) (fun h => h) (fun _ _ h => h)
  clear h
  have CF : Hid (1 = 1 → Calls Try.prog 53 #[.pointer (some ⟨p, 0, none⟩), .string (bs k)] W0 fun e w' => e = .returned (ptrO (findT k t)) ∧ w' = W0) := fun _ => find20 p k t W0 h1.cells.1 h1.ok
  have hg := find_get (k := k) h1.srt
  obtain ⟨bx, hbx⟩ : ∃ bx, w.heap.size = bx := ⟨_, rfl⟩
  have z0 : W0.cell? ⟨w.heap.size, 0, none⟩ = some (.int .u32 0) := block_cell hx0 rfl
  have z1 : W0.cell? ⟨w.heap.size, 1, none⟩ = some (.int .u32 0) := block_cell hx0 rfl
  have z2 : W0.cell? ⟨w.heap.size, 2, none⟩ = some (.string ⟨#[]⟩) := block_cell hx0 rfl
  have z3 : W0.cell? ⟨w.heap.size, 3, none⟩ = some (.string ⟨#[]⟩) := block_cell hx0 rfl
  have z4 : W0.cell? ⟨w.heap.size, 4, none⟩ = some (.bool false) := block_cell hx0 rfl
  have f0 := block_frozen hx0 0
  have f1 := block_frozen hx0 1
  have f2 := block_frozen hx0 2
  have f3 := block_frozen hx0 3
  have f4 := block_frozen hx0 4
  rw [hbx] at hx0 z0 z1 z2 z3 z4 f0 f1 f2 f3 f4
  have hle : w.heap.size ≤ bx := Nat.le_of_eq hbx
  cases hf : findT k t with
  | none =>
    rw [hf] at CF hg
    have hn : getF k t.toL = none := by
      cases e : getF k t.toL with
      | none => rfl
      | some v => rw [e] at hg; cases hg
    rw [hn]
    simp only [ptrO] at CF
    obtain ⟨W1, hW1⟩ : ∃ W1, W0.alloc (.cells #[.int .u32 0, .int .u32 0, .string ⟨#[]⟩, .string ⟨#[]⟩, .bool false] 62) = W1 := ⟨_, rfl⟩
    have hb1 : Below W0.heap.size W0 W1 := by rw [← hW1]; exact al _
    have hx1 : W1.heap[bx]? = some (.cells #[.int .u32 0, .int .u32 0, .string ⟨#[]⟩, .string ⟨#[]⟩, .bool false] 62 (0, 0)) := (hb1.block bx (Array.getElem?_eq_some_iff.1 hx0).1).trans hx0
    have hy1 : W1.heap[W0.heap.size]? = some (.cells #[.int .u32 0, .int .u32 0, .string ⟨#[]⟩, .string ⟨#[]⟩, .bool false] 62 (0, 0)) := by rw [← hW1]; exact heap_alloc_new W0 _
    have HI : Hid _ := bx5 zc hx1
    have HBw : Hid _ := bx5_below zc (hb0.trans (hb1.mono hb0.size)) hle
    simp only [zc, show bs [] = ⟨#[]⟩ from rfl] at HI HBw
    have x0 : W1.cell? ⟨bx, 0, none⟩ = some (.int .u32 0) := block_cell hx1 rfl
    have y0 : W1.cell? ⟨W0.heap.size, 0, none⟩ = some (.int .u32 0) := block_cell hy1 rfl
    have xf0 := block_frozen hx1 0
    have x1 : W1.cell? ⟨bx, 1, none⟩ = some (.int .u32 0) := block_cell hx1 rfl
    have y1 : W1.cell? ⟨W0.heap.size, 1, none⟩ = some (.int .u32 0) := block_cell hy1 rfl
    have xf1 := block_frozen hx1 1
    have x2 : W1.cell? ⟨bx, 2, none⟩ = some (.string ⟨#[]⟩) := block_cell hx1 rfl
    have y2 : W1.cell? ⟨W0.heap.size, 2, none⟩ = some (.string ⟨#[]⟩) := block_cell hy1 rfl
    have xf2 := block_frozen hx1 2
    have x3 : W1.cell? ⟨bx, 3, none⟩ = some (.string ⟨#[]⟩) := block_cell hx1 rfl
    have y3 : W1.cell? ⟨W0.heap.size, 3, none⟩ = some (.string ⟨#[]⟩) := block_cell hy1 rfl
    have xf3 := block_frozen hx1 3
    have x4 : W1.cell? ⟨bx, 4, none⟩ = some (.bool false) := block_cell hx1 rfl
    have y4 : W1.cell? ⟨W0.heap.size, 4, none⟩ = some (.bool false) := block_cell hy1 rfl
    have xf4 := block_frozen hx1 4
    obtain ⟨by1, hby⟩ : ∃ by1, W0.heap.size = by1 := ⟨_, rfl⟩
    rw [hby] at y0 y1 y2 y3 y4
    clear h1 hg hn hf hb0 hx0 hx1 hy1 hb1 hle z0 z1 z2 z3 z4 f0 f1 f2 f3 f4
    go_enter Try.func47, Try.ntmps47
    go_wp2_with fail
    refine (CF.out (by trivial)).mono ?_
    rintro e w' ⟨rfl, rfl⟩
    go_wp2_with fail
    have g := HI.out
    have g0 := block_cell (j := 0) g rfl
    have g1 := block_cell (j := 1) g rfl
    have g2 := block_cell (j := 2) g rfl
    have g3 := block_cell (j := 3) g rfl
    have g4 := block_cell (j := 4) g rfl
    simp only [List.getElem_toArray, List.getElem_cons_zero, List.getElem_cons_succ] at g0 g1 g2 g3 g4
    refine bodyPost_ret (v := getV none) (by simp [results, Try.results47, go_sem, g0, g1, g2, g3, g4, getV, zc, show bs [] = ⟨#[]⟩ from rfl]) rfl ?_
    exact ⟨rfl, HBw.out⟩
  | some b =>
    rw [hf] at CF
    obtain ⟨q, v, x, l, r, hb, hv⟩ := find_at h1.srt h1.ok hf
    obtain ⟨-, ⟨c1, c2, c3, c4, c5⟩, -, -, -⟩ := nd_cells hb
    rw [hv]
    simp only [ptrO] at CF
    have HI : Hid _ := bx5 v hx0
    have HBw : Hid _ := bx5_below v hb0 hle
    clear h1 hg hv hf hb hx0 hb0 hle
    go_enter Try.func47, Try.ntmps47
    go_wp2_with fail
    refine (CF.out (by trivial)).mono ?_
    rintro e w' ⟨rfl, rfl⟩
    go_wp2_with fail
    have g := HI.out
    have g0 := block_cell (j := 0) g rfl
    have g1 := block_cell (j := 1) g rfl
    have g2 := block_cell (j := 2) g rfl
    have g3 := block_cell (j := 3) g rfl
    have g4 := block_cell (j := 4) g rfl
    simp only [List.getElem_toArray, List.getElem_cons_zero, List.getElem_cons_succ] at g0 g1 g2 g3 g4
    refine bodyPost_ret (v := getV (some v)) (by simp [results, Try.results47, go_sem, g0, g1, g2, g3, g4, getV]) rfl ?_
    exact ⟨rfl, HBw.out⟩

set_option maxHeartbeats 400000 in
set_option maxRecDepth 100000 in
theorem keys17 {B p : Nat} {t : Tr} {w : World} (lo hi : List UInt8) (limit : Int) (h : Mp B p t w) (hl : t.toL.length < 100000) : Calls Try.prog 41 #[.pointer (some ⟨p, 0, none⟩), .string (bs lo), .string (bs hi), .int .i64 limit] w fun e w' => ∃ v', e = .returned v' ∧ w'.ownsRow w.heap.size 9 1 v' (keysF lo hi limit t.toL).length (kc (keysF lo hi limit t.toL)) ∧ Below w.heap.size w w' := by
  have CG : Hid (1 = 1 → Calls Try.prog 58 #[t.ptr, .slice none 0 0, .string (bs lo), .string (bs hi), .int .i64 limit] w fun e w' => ∃ v', e = .returned v' ∧ w'.ownsRow w.heap.size 9 1 v' (keysF lo hi limit t.toL).length (kc (keysF lo hi limit t.toL)) ∧ Below w.heap.size w w') := fun _ => by
    have := gather24 w.heap.size lo hi limit t [] (.slice none 0 0) w h.ok h.ok.lt h.srt (Nat.le_refl _) (own_nil _ _ _ _) (by simp; omega)
    rw [gat_start] at this
    exact this
  obtain ⟨c0, -⟩ := h.cells
  clear h hl
  generalize t.ptr = tp at *
  generalize keysF lo hi limit t.toL = y at *
  go_enter Try.func41, Try.ntmps41
  go_wp2_with fail
  refine (CG.out (by trivial)).mono ?_
  rintro e w1 ⟨v1, rfl, ho, hb⟩
  obtain ⟨sa, sc, rfl, -, -, -, -⟩ := rw_own ho
  have H3 : Hid _ := And.intro ho hb
  clear ho hb CG
  go_wp2_with fail
  go_ret
  exact ⟨_, rfl, H3.out⟩
set_option maxHeartbeats 400000 in
set_option maxRecDepth 100000 in
theorem keys17_nil (lo hi : List UInt8) (limit : Int) (w : World) : Calls Try.prog 41 #[.pointer none, .string (bs lo), .string (bs hi), .int .i64 limit] w fun e w' => ∃ ao cap, e = .returned (.slice ao 0 cap) ∧ Below w.heap.size w w' := by
  go_enter Try.func41, Try.ntmps41
  go_wp2_with fail
  go_ret
  exact ⟨_, _, rfl, Below.refl _ _⟩
end Go.Proofs.Ytknfkpnicjellaa

namespace Go.Proofs.Ytknfkpnicjellaa
open Go.RowKit

/-- What Set and Cut leave. -/
def Post (B p : Nat) (F : Nat → Prop) (L : Kv Cv) (w W : World) : Prop := ∃ F', MapAt B p F' L W ∧ Kept F w W ∧ ∀ i, F' i → F i ∨ w.heap.size ≤ i
def foot8 (p : Nat) (t : Tr) : Nat → Prop := fun i => i = p ∨ i ∈ t.blocks

theorem Mp.upd {B p : Nat} {t t' : Tr} {L : Kv Cv} {w w1 : World} (h : Mp B p t w) (g : Tg t L w t' w1) (hs : Srt L) (n : Int) (hn : n = L.length) :
    Post B p (foot8 p t) L w ((w1.setCell ⟨p, 0, none⟩ t'.ptr).setCell ⟨p, 1, none⟩ (.int .i64 n)) := by
  have hp : p < w.heap.size := (Array.getElem?_eq_some_iff.1 h.box).1
  have h1 : w1.heap[p]? = some (.cells #[t.ptr, .int .i64 t.toL.length] 89 (0, 0)) := by rw [g.kept.block p hp h.pn]; exact h.box
  have k1 := set_kept' w1 p 0 t'.ptr
  have k2 := set_kept' (w1.setCell ⟨p, 0, none⟩ t'.ptr) p 1 (.int .i64 n)
  have kk := k1.trans k2 (fun i e => .inl e)
  have pn : p ∉ t'.blocks := fun hi => by
    rcases g.sub p hi with e | e
    · exact h.pn e
    · omega
  refine ⟨_, ⟨t', ⟨?_, TrAt.kept kk g.ok (fun i hi e => pn (e ▸ hi)), by rw [g.el]; exact hs, g.hk, pn, g.nd, h.low.1, fun i hi => ?_⟩, g.el, rfl⟩, ?_, fun i hi => ?_⟩
  · rw [g.el, ← hn]
    exact block_set _ (block_set _ h1)
  · rcases g.sub i hi with e | e
    · exact h.low.2 i e
    · have := h.low.1; omega
  · exact (g.kept.mono (fun i hi => .inr hi)).trans kk (fun i e => .inl (.inl e))
  · rcases hi with e | e
    · exact .inl (.inl e)
    · rcases g.sub i e with e | e
      · exact .inl (.inr e)
      · exact .inr e

theorem Mp.put {B p b : Nat} {t : Tr} {w : World} {k : List UInt8} (v : Cv) (h : Mp B p t w) (hf : findT k t = some b) : Post B p (foot8 p t) (setF k v t.toL) w (((((w.setCell ⟨b, 1, none⟩ (.int .u32 v.1.1)).setCell ⟨b, 2, none⟩ (.int .u32 v.1.2)).setCell ⟨b, 3, none⟩ (.string (bs v.2.key))).setCell ⟨b, 4, none⟩ (.string (bs v.2.val))).setCell ⟨b, 5, none⟩ (.bool v.2.dead)) := by
  have hb := find_in hf
  have hs : (findT k t).isSome = true := by rw [hf]; rfl
  have hl : (putT k v t).toL = setF k v t.toL := put_toL h.srt hs
  have hlen : (putT k v t).toL.length = t.toL.length := by rw [hl, len_set h.srt, if_pos (by rw [← find_get h.srt]; exact hs)]
  have kk := five_kept w b v
  refine ⟨_, ⟨putT k v t, ⟨?_, put_at h.ok h.nd hf, by rw [hl]; exact setF_srt h.srt, put_hk k v h.hk, by rw [put_blocks]; exact h.pn, by rw [put_blocks]; exact h.nd, by rw [put_blocks]; exact h.low⟩, hl, rfl⟩, ?_, fun i hi => .inl ?_⟩
  · rw [put_ptr, hlen, kk.block p (Array.getElem?_eq_some_iff.1 h.box).1 (fun e => h.pn (e ▸ hb))]
    exact h.box
  · exact kk.mono (fun i e => .inr (e ▸ hb))
  · rw [put_blocks] at hi
    exact hi

/-- A box more ahead of it. -/
theorem Post.behind {B p : Nat} {F : Nat → Prop} {L : Kv Cv} {w W0 W : World} (hb : Below w.heap.size w W0) (h : Post B p F L W0 W) : Post B p F L w W := by
  obtain ⟨F', h1, h2, h3⟩ := h
  refine ⟨F', h1, (Kept.of_below hb).trans h2 (fun i hi => .inl hi), fun i hi => ?_⟩
  rcases h3 i hi with e | e
  · exact .inl e
  · exact .inr (Nat.le_trans hb.size e)

set_option maxHeartbeats 1600000 in
set_option maxRecDepth 100000 in
theorem set9 {B p : Nat} {t : Tr} {w : World} (k : List UInt8) (v : Cv) (h0 : Mp B p t w) (hl : t.toL.length < 100000) : Calls Try.prog 33 #[.pointer (some ⟨p, 0, none⟩), .string (bs k), .agg #[.int .u32 v.1.1, .int .u32 v.1.2, .string (bs v.2.key), .string (bs v.2.val), .bool v.2.dead]] w fun e w' => e = .returned (.tuple #[]) ∧ Post B p (foot8 p t) (setF k v t.toL) w w' := by
  obtain ⟨W0, hW0⟩ : ∃ W0, w.alloc (.cells #[.int .u32 v.1.1, .int .u32 v.1.2, .string (bs v.2.key), .string (bs v.2.val), .bool v.2.dead] 62) = W0 := ⟨_, rfl⟩
  have hb0 : Below w.heap.size w W0 := by rw [← hW0]; exact al _
  have hx0 : W0.heap[w.heap.size]? = some (.cells #[.int .u32 v.1.1, .int .u32 v.1.2, .string (bs v.2.key), .string (bs v.2.val), .bool v.2.dead] 62 (0, 0)) := by rw [← hW0]; exact heap_alloc_new w _
  have h : Mp B p t W0 := h0.kept (Kept.of_below (F := fun _ => False) hb0) (fun h => h) (fun _ _ h => h)
  clear h0
  have z0 : W0.cell? ⟨w.heap.size, 0, none⟩ = some (.int .u32 v.1.1) := block_cell hx0 rfl
  have z1 : W0.cell? ⟨w.heap.size, 1, none⟩ = some (.int .u32 v.1.2) := block_cell hx0 rfl
  have z2 : W0.cell? ⟨w.heap.size, 2, none⟩ = some (.string (bs v.2.key)) := block_cell hx0 rfl
  have z3 : W0.cell? ⟨w.heap.size, 3, none⟩ = some (.string (bs v.2.val)) := block_cell hx0 rfl
  have z4 : W0.cell? ⟨w.heap.size, 4, none⟩ = some (.bool v.2.dead) := block_cell hx0 rfl
  have HB : Hid (Below w.heap.size w W0) := hb0
  clear hx0 hb0
  have CF : Hid (1 = 1 → Calls Try.prog 53 #[.pointer (some ⟨p, 0, none⟩), .string (bs k)] W0 fun e w' => e = .returned (ptrO (findT k t)) ∧ w' = W0) := fun _ => find20 p k t W0 h.cells.1 h.ok
  have hg := find_get (k := k) h.srt
  cases hf : findT k t with
  | some b =>
    rw [hf] at CF
    have HP : Hid (Post B p (foot8 p t) (setF k v t.toL) W0 (((((W0.setCell ⟨b, 1, none⟩ (.int .u32 v.1.1)).setCell ⟨b, 2, none⟩ (.int .u32 v.1.2)).setCell ⟨b, 3, none⟩ (.string (bs v.2.key))).setCell ⟨b, 4, none⟩ (.string (bs v.2.val))).setCell ⟨b, 5, none⟩ (.bool v.2.dead))) := h.put v hf
    obtain ⟨q, u, x, l, r, hb, -⟩ := find_at h.srt h.ok hf
    obtain ⟨-, ⟨c1, c2, c3, c4, c5⟩, -, -, -⟩ := nd_cells hb
    have f1 := block_frozen hb 1
    have f2 := block_frozen hb 2
    have f3 := block_frozen hb 3
    have f4 := block_frozen hb 4
    have f5 := block_frozen hb 5
    simp only [ptrO] at CF
    clear h hg hf hb hl
    generalize setF k v t.toL = L at *
    generalize foot8 p t = F at *
    obtain ⟨bx, hbx⟩ : ∃ bx, w.heap.size = bx := ⟨_, rfl⟩
    rw [hbx] at z0 z1 z2 z3 z4
    go_enter Try.func33, Try.ntmps33
    go_wp2_with fail
    refine (CF.out (by trivial)).mono ?_
    rintro e w' ⟨rfl, rfl⟩
    clear hW0 hbx
    go_wp2_with fail
    refine bodyPost_ret (results_none Try.results33 _ _ _) rfl ?_
    exact ⟨rfl, Post.behind HB.out HP.out⟩
  | none =>
    rw [hf] at CF hg
    have hn : getF k t.toL = none := by
      cases e : getF k t.toL with
      | none => rfl
      | some v => rw [e] at hg; cases hg
    have CW : Hid (∀ W, Sw W0 W → Calls Try.prog 54 #[t.ptr, .string (bs k), .agg #[.int .u32 v.1.1, .int .u32 v.1.2, .string (bs v.2.key), .string (bs v.2.val), .bool v.2.dead]] W fun e w1 => ∃ o, e = .returned (.pointer o) ∧ w1.cell? ⟨p, 0, none⟩ = some t.ptr ∧ w1.cell? ⟨p, 1, none⟩ = some (.int .i64 t.toL.length) ∧ w1.frozen? ⟨p, 0, none⟩ = false ∧ w1.frozen? ⟨p, 1, none⟩ = false ∧ Hid (Post B p (foot8 p t) (setF k v t.toL) W0 ((w1.setCell ⟨p, 0, none⟩ (.pointer o)).setCell ⟨p, 1, none⟩ (.int .i64 (t.toL.length + 1))))) := fun W hsw => by
      have hk : Mp B p t W := h.kept (Kept.of_below (F := fun _ => False) (hsw.below _)) (fun h => h) (fun _ _ h => h)
      refine (with21 k v t W hk.ok hk.nd hk.hk hk.srt hn hl).mono ?_
      rintro e w1 ⟨t', rfl, g⟩
      obtain ⟨o, ho⟩ := t'.is_ptr
      have h1 : w1.heap[p]? = some (.cells #[t.ptr, .int .i64 t.toL.length] 89 (0, 0)) := by rw [g.kept.block p (Array.getElem?_eq_some_iff.1 hk.box).1 hk.pn]; exact hk.box
      refine ⟨o, by rw [ho], block_cell h1 rfl, block_cell h1 rfl, block_frozen h1 _, block_frozen h1 _, ?_⟩
      have := hk.upd g (setF_srt hk.srt) (t.toL.length + 1) (by rw [len_set hk.srt, hn]; rfl)
      rw [ho] at this
      exact Post.behind (hsw.below _) this
    obtain ⟨c0, c1⟩ := h.cells
    have fr0 := block_frozen h.box 0
    have fr1 := block_frozen h.box 1
    simp only [ptrO] at CF
    have hl' : ((t.toL.length : Nat) : Int) < 100000 := by omega
    clear h hg hn hf hl
    generalize setF k v t.toL = L at *
    generalize foot8 p t = F at *
    obtain ⟨tp, hto⟩ := t.is_ptr
    rw [hto] at CW c0
    clear hto
    generalize t.toL.length = n at *
    obtain ⟨bx, hbx⟩ : ∃ bx, w.heap.size = bx := ⟨_, rfl⟩
    rw [hbx] at z0 z1 z2 z3 z4
    go_enter Try.func33, Try.ntmps33
    go_wp2_with fail
    refine (CF.out (by trivial)).mono ?_
    rintro e w' ⟨rfl, rfl⟩
    clear CF hW0 hbx
    go_wp2_with fail
    go_region_with (go_at_call 54; refine (CW.out _ ?_).mono ?_; exact Sw.drew (Sw.refl _); rintro e w1 ⟨o, rfl, d0, d1, f0, f1, HP⟩)
    all_goals
      go_wp2_with fail
      refine bodyPost_end (results_none Try.results33 _ _ _) rfl ?_
      exact ⟨rfl, Post.behind HB.out HP.out⟩
set_option maxHeartbeats 800000 in
set_option maxRecDepth 100000 in
theorem cut11 {B p : Nat} {t : Tr} {w : World} (k : List UInt8) (h : Mp B p t w) (hl : t.toL.length < 100000) : Calls Try.prog 38 #[.pointer (some ⟨p, 0, none⟩), .string (bs k)] w fun e w' => e = .returned (.bool (getF k t.toL).isSome) ∧ Post B p (foot8 p t) (cutF k t.toL) w w' := by
  have CF : Hid (1 = 1 → Calls Try.prog 53 #[.pointer (some ⟨p, 0, none⟩), .string (bs k)] w fun e w' => e = .returned (ptrO (findT k t)) ∧ w' = w) := fun _ => find20 p k t w h.cells.1 h.ok
  have hg := find_get (k := k) h.srt
  rw [← hg]
  cases hf : findT k t with
  | none =>
    rw [hf] at CF hg
    have hn : getF k t.toL = none := by
      cases e : getF k t.toL with
      | none => rfl
      | some v => rw [e] at hg; cases hg
    have HP : Hid (Post B p (foot8 p t) (cutF k t.toL) w w) := ⟨_, ⟨t, h, (cut_none hn).symm, rfl⟩, Kept.refl _ _, fun i hi => .inl hi⟩
    simp only [ptrO] at CF
    clear h hg hn hf hl
    generalize cutF k t.toL = L at *
    generalize foot8 p t = F at *
    go_enter Try.func38, Try.ntmps38
    go_wp2_with fail
    refine (CF.out (by trivial)).mono ?_
    rintro e w' ⟨rfl, rfl⟩
    go_wp2_with fail
    go_ret
    exact ⟨rfl, HP.out⟩
  | some b =>
    rw [hf] at CF hg
    have hs : (getF k t.toL).isSome = true := hg.symm
    have hpos : 0 < t.toL.length := by
      cases e : t.toL with
      | nil => rw [e] at hs; cases hs
      | cons a l => simp
    have CW : Hid (1 = 1 → Calls Try.prog 57 #[t.ptr, .string (bs k)] w fun e w1 => ∃ o, e = .returned (.pointer o) ∧ w1.cell? ⟨p, 0, none⟩ = some t.ptr ∧ w1.cell? ⟨p, 1, none⟩ = some (.int .i64 t.toL.length) ∧ w1.frozen? ⟨p, 0, none⟩ = false ∧ w1.frozen? ⟨p, 1, none⟩ = false ∧ Hid (Post B p (foot8 p t) (cutF k t.toL) w ((w1.setCell ⟨p, 0, none⟩ (.pointer o)).setCell ⟨p, 1, none⟩ (.int .i64 (t.toL.length - 1))))) := fun _ => by
      refine (without23 t k w h.ok h.nd h.hk h.srt hs hl).mono ?_
      rintro e w1 ⟨t', rfl, g⟩
      obtain ⟨o, ho⟩ := t'.is_ptr
      have h1 : w1.heap[p]? = some (.cells #[t.ptr, .int .i64 t.toL.length] 89 (0, 0)) := by rw [g.kept.block p (Array.getElem?_eq_some_iff.1 h.box).1 h.pn]; exact h.box
      refine ⟨o, by rw [ho], block_cell h1 rfl, block_cell h1 rfl, block_frozen h1 _, block_frozen h1 _, ?_⟩
      have := h.upd g (cutF_srt h.srt) (t.toL.length - 1) (by rw [len_cut h.srt, if_pos hs]; omega)
      rw [ho] at this
      exact this
    obtain ⟨c0, c1⟩ := h.cells
    simp only [ptrO] at CF
    have hl' : ((t.toL.length : Nat) : Int) < 100000 := by omega
    clear h hg hf hl hs hpos
    generalize cutF k t.toL = L at *
    generalize foot8 p t = F at *
    obtain ⟨tp, hto⟩ := t.is_ptr
    rw [hto] at CW c0
    clear hto
    generalize t.toL.length = n at *
    go_enter Try.func38, Try.ntmps38
    go_wp2_with fail
    refine (CF.out (by trivial)).mono ?_
    rintro e w' ⟨rfl, rfl⟩
    go_wp2_with fail
    refine (CW.out (by trivial)).mono ?_
    rintro e w1 ⟨o, rfl, d0, d1, f0, f1, HP⟩
    clear CW CF c0 c1
    go_wp2_with fail
    go_ret
    exact ⟨rfl, HP.out⟩
set_option maxHeartbeats 400000 in
set_option maxRecDepth 100000 in
theorem cut11_nil (k : List UInt8) (w : World) : Calls Try.prog 38 #[.pointer none, .string (bs k)] w fun e w' => e = .returned (.bool false) ∧ Below w.heap.size w w' := by
  have CF : Hid (1 = 1 → Calls Try.prog 53 #[.pointer none, .string (bs k)] w fun e w' => e = .returned (.pointer none) ∧ w' = w) := fun _ => find20_nil k w
  go_enter Try.func38, Try.ntmps38
  go_wp2_with fail
  refine (CF.out (by trivial)).mono ?_
  rintro e w' ⟨rfl, rfl⟩
  go_wp2_with fail
  go_ret
  exact ⟨rfl, Below.refl _ _⟩

end Go.Proofs.Ytknfkpnicjellaa
