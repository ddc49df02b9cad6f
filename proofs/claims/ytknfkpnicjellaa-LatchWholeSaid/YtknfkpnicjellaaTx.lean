/-
  The program's table in memory.
-/
import Derived.Test.YtknfkpnicjellaaRlm
import Derived.Test.YtknfkpnicjellaaOMm
namespace Go.Proofs.Ytknfkpnicjellaa
open Go.RowKit

def svV (t : Tm) : Value := .slice t.sv.1 t.sv.2.1 t.sv.2.2
/-- What a row of keys keeps to. -/
structure Kr (B p pm hb : Nat) (t : Tr) (x : Tm) (w : World) : Prop where
  row : RwAt w.heap.size 1 (svV x) x.kl.length (kc x.kl) w
  pos : 0 < x.kl.length
  far : ∀ i, (svV x).ownBlock = some i → i ≠ p ∧ i ≠ pm ∧ i ≠ hb ∧ i ∉ t.blocks ∧ B ≤ i ∧ i < w.heap.size
/-- The table's memory: its block, the map of claims, the map of terms, the rows of keys. -/
structure Tx (B p pm hb : Nat) (t : Tr) (m : Mm) (w : World) : Prop where
  box : w.heap[p]? = some (.cells #[.pointer (some ⟨pm, 0, none⟩), .map (some hb)] 65 (0, 0))
  map : Mp B pm t w
  gm : GmAt hb m w
  rows : ∀ x ∈ m, Kr B p pm hb t x.2 w
  sep : p ≠ pm ∧ p ≠ hb ∧ pm ≠ hb ∧ p ∉ t.blocks ∧ hb ∉ t.blocks ∧ B ≤ p ∧ B ≤ hb
def footT (p pm hb : Nat) (t : Tr) (m : Mm) : Nat → Prop := fun i => i = p ∨ i = hb ∨ foot8 pm t i ∨ ∃ x ∈ m, (svV x.2).ownBlock = some i
theorem rw_keep {sz n : Nat} {v : Value} {cs : List Value} {w w' : World} {G : Nat → Prop} (h : RwAt w.heap.size sz v n cs w) (hk : Kept G w w') (hn : 0 < n → ∀ k, v.ownBlock = some k → ¬ G k) : RwAt w'.heap.size sz v n cs w' := by
  obtain ⟨ao, cap, rfl, h1, h2, h3, h4⟩ := h
  refine ⟨ao, cap, rfl, h1, h2, h3, fun h0 => ?_⟩
  obtain ⟨b, off, rfl, h5, h6⟩ := h4 h0
  refine ⟨b, off, rfl, fun h9 => Nat.lt_of_lt_of_le (h5 h9) hk.size, fun j u hj => ?_⟩
  have hn0 : 0 < n := by
    rcases Nat.eq_zero_or_pos n with e | e
    · have := (List.getElem?_eq_some_iff.1 hj).1
      rw [h1, e] at this
      omega
    · exact e
  exact Kept.cell hk (h6 j u hj) (hn hn0 b rfl)
theorem Tx.lt {B p pm hb : Nat} {t : Tr} {m : Mm} {w : World} (h : Tx B p pm hb t m w) {i : Nat} (hi : footT p pm hb t m i) : B ≤ i ∧ i < w.heap.size := by
  obtain ⟨_, _, _, _, _, s6, s7⟩ := h.sep
  rcases hi with rfl | rfl | (rfl | e) | ⟨x, hx, e⟩
  · exact ⟨s6, (Array.getElem?_eq_some_iff.1 h.box).1⟩
  · exact ⟨s7, h.gm.lt⟩
  · exact ⟨h.map.low.1, (Array.getElem?_eq_some_iff.1 h.map.box).1⟩
  · exact ⟨h.map.low.2 i e, h.map.ok.lt i e⟩
  · obtain ⟨_, _, _, _, f1, f2⟩ := (h.rows x hx).far i e
    exact ⟨f1, f2⟩
theorem Tx.kept {B p pm hb : Nat} {t : Tr} {m : Mm} {w w' : World} {G : Nat → Prop} (h : Tx B p pm hb t m w) (hk : Kept G w w') (hG : ∀ i, footT p pm hb t m i → ¬ G i) : Tx B p pm hb t m w' := by
  refine ⟨?_, h.map.kept hk (hG pm (.inr (.inr (.inl (.inl rfl))))) (fun i hi => hG i (.inr (.inr (.inl (.inr hi))))), h.gm.kept hk (hG hb (.inr (.inl rfl))), fun x hx => ?_, h.sep⟩
  · rw [hk.block p (Array.getElem?_eq_some_iff.1 h.box).1 (hG p (.inl rfl))]
    exact h.box
  · have hr := h.rows x hx
    refine ⟨rw_keep hr.row hk (fun _ k e => hG k (.inr (.inr (.inr ⟨x, hx, e⟩)))), hr.pos, fun i e => ?_⟩
    obtain ⟨f1, f2, f3, f4, f5, f6⟩ := hr.far i e
    exact ⟨f1, f2, f3, f4, f5, Nat.lt_of_lt_of_le f6 hk.size⟩
theorem Tx.on {B p pm hb : Nat} {t : Tr} {m : Mm} {w w' : World} (h : Tx B p pm hb t m w) (hb' : Below w.heap.size w w') : Tx B p pm hb t m w' := h.kept (Kept.of_below (F := fun _ => False) hb') (fun _ _ h => h)
theorem Tx.cells {B p pm hb : Nat} {t : Tr} {m : Mm} {w : World} (h : Tx B p pm hb t m w) : w.cell? ⟨p, 0, none⟩ = some (.pointer (some ⟨pm, 0, none⟩)) ∧ w.cell? ⟨p, 1, none⟩ = some (.map (some hb)) := ⟨block_cell h.box rfl, block_cell h.box rfl⟩
/-- The map of claims is another one. -/
theorem Tx.claims {B p pm hb : Nat} {t : Tr} {m : Mm} {L : Kv Cv} {w W : World} (h : Tx B p pm hb t m w) (hp : Post B pm (foot8 pm t) L w W) : ∃ t', t'.toL = L ∧ Tx B p pm hb t' m W ∧ Kept (foot8 pm t) w W ∧ ∀ i, foot8 pm t' i → foot8 pm t i ∨ w.heap.size ≤ i := by
  obtain ⟨F', ⟨t', hm, rfl, rfl⟩, hk, hn⟩ := hp
  obtain ⟨s1, s2, s3, s4, s5, s6, s7⟩ := h.sep
  have new : ∀ i, i < w.heap.size → i ≠ pm → i ∉ t.blocks → i ∉ t'.blocks := fun i hi h1 h2 h3 => by
    rcases hn i (.inr h3) with (e | e) | e
    · exact h1 e
    · exact h2 e
    · omega
  have hpl := (Array.getElem?_eq_some_iff.1 h.box).1
  refine ⟨t', rfl, ⟨?_, hm, h.gm.kept hk ?_, fun x hx => ?_, s1, s2, s3, new p hpl s1 s4, new hb h.gm.lt (Ne.symm s3) s5, s6, s7⟩, hk, hn⟩
  · rw [hk.block p hpl (fun e => by rcases e with e | e; exact s1 e; exact s4 e)]
    exact h.box
  · exact fun e => by rcases e with e | e; exact s3 e.symm; exact s5 e
  · have hr := h.rows x hx
    refine ⟨rw_keep hr.row hk (fun _ k e => ?_), hr.pos, fun i e => ?_⟩
    · obtain ⟨f1, f2, f3, f4, f5, f6⟩ := hr.far k e
      exact fun e2 => by rcases e2 with e2 | e2; exact f2 e2; exact f4 e2
    · obtain ⟨f1, f2, f3, f4, f5, f6⟩ := hr.far i e
      exact ⟨f1, f2, f3, new i f6 f2 f4, f5, Nat.lt_of_lt_of_le f6 hk.size⟩
/-- The map of terms is another one. -/
theorem Tx.terms {B p pm hb : Nat} {t : Tr} {m m' : Mm} {w W : World} (h : Tx B p pm hb t m w) (hg : GmAt hb m' W) (hk : Kept (fun i => i = hb) w W) (hr : ∀ x ∈ m', (∃ y ∈ m, svV y.2 = svV x.2 ∧ y.2.kl = x.2.kl) ∨ Kr B p pm hb t x.2 w) : Tx B p pm hb t m' W := by
  obtain ⟨s1, s2, s3, s4, s5, s6, s7⟩ := h.sep
  refine ⟨?_, h.map.kept hk s3 (fun i hi e => s5 (e ▸ hi)), hg, fun x hx => ?_, h.sep⟩
  · rw [hk.block p (Array.getElem?_eq_some_iff.1 h.box).1 s2]
    exact h.box
  · have hx' : Kr B p pm hb t x.2 w := by
      rcases hr x hx with ⟨y, hy, e1, e2⟩ | e
      · have := h.rows y hy
        exact ⟨by rw [← e1, ← e2]; exact this.row, by rw [← e2]; exact this.pos, by rw [← e1]; exact this.far⟩
      · exact e
    refine ⟨rw_keep hx'.row hk (fun _ k e => (hx'.far k e).2.2.1), hx'.pos, fun i e => ?_⟩
    obtain ⟨f1, f2, f3, f4, f5, f6⟩ := hx'.far i e
    exact ⟨f1, f2, f3, f4, f5, Nat.lt_of_lt_of_le f6 hk.size⟩
/-- The program's table. -/
def TabAt (B p : Nat) (M : Nat → Prop) (T : Tb) (w : World) : Prop := ∃ pm hb t m, Tx B p pm hb t m w ∧ Rel t.toL m T ∧ M = footT p pm hb t m

/-- A box of terms beside W0. -/
structure Zb (W0 W1 : World) : Prop where
  bel : Below W0.heap.size W0 W1
  c0 : W1.cell? ⟨W0.heap.size, 0, none⟩ = some (.int .u64 0)
  f0 : W1.frozen? ⟨W0.heap.size, 0, none⟩ = false
  c1 : W1.cell? ⟨W0.heap.size, 1, none⟩ = some (.int .u32 0)
  f1 : W1.frozen? ⟨W0.heap.size, 1, none⟩ = false
  c2 : W1.cell? ⟨W0.heap.size, 2, none⟩ = some (.int .u64 0)
  f2 : W1.frozen? ⟨W0.heap.size, 2, none⟩ = false
  c3 : W1.cell? ⟨W0.heap.size, 3, none⟩ = some (.int .u32 0)
  f3 : W1.frozen? ⟨W0.heap.size, 3, none⟩ = false
  c4 : W1.cell? ⟨W0.heap.size, 4, none⟩ = some (.string ⟨#[]⟩)
  f4 : W1.frozen? ⟨W0.heap.size, 4, none⟩ = false
  c5 : W1.cell? ⟨W0.heap.size, 5, none⟩ = some (.slice none 0 0)
  f5 : W1.frozen? ⟨W0.heap.size, 5, none⟩ = false
theorem zb_new (W0 : World) : Zb W0 (W0.alloc (.cells #[.int .u64 0, .int .u32 0, .int .u64 0, .int .u32 0, .string ⟨#[]⟩, .slice none 0 0] 75)) :=
  have h := heap_alloc_new W0 (.cells #[.int .u64 0, .int .u32 0, .int .u64 0, .int .u32 0, .string ⟨#[]⟩, .slice none 0 0] 75)
  ⟨al _, block_cell h rfl, block_frozen h _, block_cell h rfl, block_frozen h _, block_cell h rfl, block_frozen h _, block_cell h rfl, block_frozen h _, block_cell h rfl, block_frozen h _, block_cell h rfl, block_frozen h _⟩
theorem set_six {B b : Nat} {w W : World} (v0 v1 v2 v3 v4 v5 : Value) (h : Below B w W) (hb : B ≤ b) : Below B w ((((((W.setCell ⟨b, 0, none⟩ v0).setCell ⟨b, 1, none⟩ v1).setCell ⟨b, 2, none⟩ v2).setCell ⟨b, 3, none⟩ v3).setCell ⟨b, 4, none⟩ v4).setCell ⟨b, 5, none⟩ v5) := (((((h.setCell (p := ⟨b, 0, none⟩) hb _).setCell (p := ⟨b, 1, none⟩) hb _).setCell (p := ⟨b, 2, none⟩) hb _).setCell (p := ⟨b, 3, none⟩) hb _).setCell (p := ⟨b, 4, none⟩) hb _).setCell (p := ⟨b, 5, none⟩) hb _

set_option maxHeartbeats 800000 in
set_option maxRecDepth 100000 in
theorem has29 {B p pm hb : Nat} {t : Tr} {m : Mm} {w : World} (c n : Int) (h : Tx B p pm hb t m w) : Calls Try.prog 29 #[.pointer (some ⟨p, 0, none⟩), .agg #[.int .u32 c, .int .u32 n]] w fun e w' => e = .returned (.bool (getM (c, n) m).isSome) ∧ Below w.heap.size w w' := by
  obtain ⟨W0, hW0⟩ : ∃ W0, w.alloc (.cells #[.int .u32 c, .int .u32 n] 32) = W0 := ⟨_, rfl⟩
  have hb0 : Below w.heap.size w W0 := by rw [← hW0]; exact al _
  have hx0 : W0.heap[w.heap.size]? = some (.cells #[.int .u32 c, .int .u32 n] 32 (0, 0)) := by rw [← hW0]; exact heap_alloc_new w _
  have z0 : W0.cell? ⟨w.heap.size, 0, none⟩ = some (.int .u32 c) := block_cell hx0 rfl
  have z1 : W0.cell? ⟨w.heap.size, 1, none⟩ = some (.int .u32 n) := block_cell hx0 rfl
  have h0 := h.on hb0
  obtain ⟨-, c1⟩ := h0.cells
  have q0 : (Instr.lookup 63 (.map (some hb)) (.agg #[.int .u32 c, .int .u32 n]) true).run Try.prog W0 = .ok (.tuple #[tmV ((getM (c, n) m).getD zt), .bool (getM (c, n) m).isSome]) W0 := run_look2 h0.gm (c, n)
  have q1 : (Instr.lookup 63 (.map (some hb)) (.agg #[.int .u32 c, .int .u32 n]) true).run Try.prog W0.drew = .ok (.tuple #[tmV ((getM (c, n) m).getD zt), .bool (getM (c, n) m).isSome]) W0.drew := run_look2 (w := W0.drew) h0.gm (c, n)
  obtain ⟨W1, hW1⟩ : ∃ W1, W0.alloc (.cells #[.int .u64 0, .int .u32 0, .int .u64 0, .int .u32 0, .string ⟨#[]⟩, .slice none 0 0] 75) = W1 := ⟨_, rfl⟩
  have hz1 : Zb W0 W1 := by rw [← hW1]; exact zb_new W0
  have h1 := h0.on hz1.bel
  obtain ⟨-, c2⟩ := h1.cells
  have q2 : (Instr.lookup 63 (.map (some hb)) (.agg #[.int .u32 c, .int .u32 n]) true).run Try.prog W1.drew = .ok (.tuple #[tmV ((getM (c, n) m).getD zt), .bool (getM (c, n) m).isSome]) W1.drew := run_look2 (w := W1.drew) h1.gm (c, n)
  have hl0 : w.heap.size < W0.heap.size := (Array.getElem?_eq_some_iff.1 hx0).1
  have y0 : W1.cell? ⟨w.heap.size, 0, none⟩ = some (.int .u32 c) := by rw [hz1.bel.cell hl0]; exact z0
  have y1 : W1.cell? ⟨w.heap.size, 1, none⟩ = some (.int .u32 n) := by rw [hz1.bel.cell hl0]; exact z1
  have HB : Hid (Below w.heap.size w W0) := hb0
  have HB1 : Hid (Below w.heap.size w W1) := hb0.trans (hz1.bel.mono hb0.size)
  have HL : w.heap.size ≤ W0.heap.size := hb0.size
  obtain ⟨-, x0, f0, x1, f1, x2, f2, x3, f3, x4, f4, x5, f5⟩ := hz1
  clear h h0 h1 hb0 hx0 hl0
  generalize (getM (c, n) m).isSome = z at *
  generalize (getM (c, n) m).getD zt = v at *
  simp only [tmV] at q0 q1 q2
  obtain ⟨bx, hbx⟩ : ∃ bx, w.heap.size = bx := ⟨_, rfl⟩
  rw [hbx] at z0 z1 y0 y1
  obtain ⟨by1, hby⟩ : ∃ by1, W0.heap.size = by1 := ⟨_, rfl⟩
  rw [hby] at x0 x1 x2 x3 x4 x5 f0 f1 f2 f3 f4 f5 HL
  have HL' : Hid (w.heap.size ≤ by1) := HL
  have G2 : Hid (∀ v0 v1 v2 v3 v4 v5, Below w.heap.size w ((((((W1.setCell ⟨by1, 0, none⟩ v0).setCell ⟨by1, 1, none⟩ v1).setCell ⟨by1, 2, none⟩ v2).setCell ⟨by1, 3, none⟩ v3).setCell ⟨by1, 4, none⟩ v4).setCell ⟨by1, 5, none⟩ v5).drew) := fun _ _ _ _ _ _ => (set_six _ _ _ _ _ _ HB1.out HL'.out).drew
  clear HL HL' HB HB1
  go_enter Try.func29, Try.ntmps29
  go_wp2_with fail
  go_region
  go_wp2_with fail
  go_ret
  exact ⟨rfl, G2.out _ _ _ _ _ _⟩
end Go.Proofs.Ytknfkpnicjellaa
