/-
  Contract of Cut.
-/
import Derived.Test.YtknfkpnicjellaaBya
namespace Go.Proofs.Ytknfkpnicjellaa
open Go.RowKit

/-- Cut on its way: the claims left are L; the box of the name; the row of the answer. -/
structure Cs (B p pm hb : Nat) (t0 : Tr) (m : Mm) (w : World) (bx : Nat) (c n : Int) (v : Value) (X : Tb) (L : Kv Cv) (t : Tr) (W : World) : Prop where
  tx : Tx B p pm hb t m W
  el : t.toL = L
  sub : ∀ i, foot8 pm t i → foot8 pm t0 i ∨ w.heap.size ≤ i
  kp : Kept (footT p pm hb t0 m) w W
  row : W.ownsRow w.heap.size 49 10 v X.length (rowC inc X)
  rn : ∀ k, v.ownBlock = some k → ¬ foot8 pm t k ∧ w.heap.size ≤ k ∧ k < W.heap.size ∧ k ≠ p ∧ k ≠ hb
  b0 : W.heap[bx]? = some (.cells #[.int .u32 c, .int .u32 n] 32 (0, 0))
  bn : ¬ foot8 pm t bx ∧ w.heap.size ≤ bx ∧ bx ≠ p ∧ bx ≠ hb
theorem Cs.on {B p pm hb : Nat} {t0 t : Tr} {m : Mm} {w W W' : World} {bx : Nat} {c n : Int} {v : Value} {X : Tb} {L : Kv Cv} (h : Cs B p pm hb t0 m w bx c n v X L t W) (hb' : Below W.heap.size W W') : Cs B p pm hb t0 m w bx c n v X L t W' :=
  ⟨h.tx.on hb', h.el, h.sub, h.kp.trans (Kept.of_below (F := fun _ => False) hb') (fun _ e => e.elim), own_on h.row hb', fun k hk => by obtain ⟨a, b, c, d⟩ := h.rn k hk; exact ⟨a, b, Nat.lt_of_lt_of_le c hb'.size, d⟩, by rw [hb'.block _ (Array.getElem?_eq_some_iff.1 h.b0).1]; exact h.b0, h.bn⟩
/-- One claim cut. -/
theorem cs_cut {B p pm hb : Nat} {t0 t : Tr} {m : Mm} {w W : World} {bx : Nat} {c n : Int} {v : Value} {X : Tb} {L : Kv Cv} (h : Cs B p pm hb t0 m w bx c n v X L t W) (hl : L.length < 100000) (k : List UInt8) : Calls Try.prog 38 #[.pointer (some ⟨pm, 0, none⟩), .string (bs k)] W fun e w' => ∃ z, e = .returned (.bool z) ∧ ∃ t', Cs B p pm hb t0 m w bx c n v X (cutF k L) t' w' := by
  refine (cut11 k h.tx.map (by rw [h.el]; exact hl)).mono ?_
  rintro e w' ⟨rfl, hp⟩
  obtain ⟨t', he, ht, hk, hn⟩ := h.tx.claims hp
  rw [h.el] at he
  have hs := h.kp.size
  have new : ∀ k, k < W.heap.size → ¬ foot8 pm t k → ¬ foot8 pm t' k := fun k h1 h2 h3 => by
    rcases hn k h3 with e | e
    · exact h2 e
    · omega
  have hbl := (Array.getElem?_eq_some_iff.1 h.b0).1
  refine ⟨_, rfl, t', ht, he, fun i hi => ?_, h.kp.trans hk (fun i hi => ?_), own_kept h.row hk (fun k e => (h.rn k e).1), fun k e => ?_, ?_, new bx hbl h.bn.1, h.bn.2⟩
  · rcases hn i hi with e | e
    · exact h.sub i e
    · exact .inr (Nat.le_trans hs e)
  · rcases h.sub i hi with e | e
    · exact .inl (.inr (.inr (.inl e)))
    · exact .inr e
  · obtain ⟨a1, a2, a3, a4⟩ := h.rn k e
    exact ⟨new k a3 a1, a2, Nat.lt_of_lt_of_le a3 hk.size, a4⟩
  · rw [hk.block bx hbl h.bn.1]
    exact h.b0
theorem footT_sub {p pm hb : Nat} {t0 t : Tr} {m m' : Mm} {S : Nat} (h : ∀ i, foot8 pm t i → foot8 pm t0 i ∨ S ≤ i) (hm : ∀ x ∈ m', ∀ i, (svV x.2).ownBlock = some i → (∃ y ∈ m, (svV y.2).ownBlock = some i) ∨ S ≤ i) : ∀ i, footT p pm hb t m' i → footT p pm hb t0 m i ∨ S ≤ i := fun i hi => by
  rcases hi with e | e | e | ⟨x, hx, e⟩
  · exact .inl (.inl e)
  · exact .inl (.inr (.inl e))
  · rcases h i e with e | e
    · exact .inl (.inr (.inr (.inl e)))
    · exact .inr e
  · rcases hm x hx i e with e | e
    · exact .inl (.inr (.inr (.inr e)))
    · exact .inr e
/-- The terms cut: what is left is the rest's table. -/
theorem cs_end {B p pm hb : Nat} {t0 t : Tr} {m m' : Mm} {w W W' : World} {bx : Nat} {c n : Int} {v : Value} {X T' : Tb} {L : Kv Cv} (h : Cs B p pm hb t0 m w bx c n v X L t W) (hg : GmAt hb m' W') (hk : Kept (fun i => i = hb) W W') (hm : ∀ x ∈ m', x ∈ m) (hr : Rel L m' T') :
    IsAt W'.heap.size v X W' ∧ (∀ k, v.ownBlock = some k → footT p pm hb t0 m k ∨ w.heap.size ≤ k) ∧ ∃ M', TabAt B p M' T' W' ∧ Kept (footT p pm hb t0 m) w W' ∧ ∀ i, M' i → footT p pm hb t0 m i ∨ w.heap.size ≤ i := by
  refine ⟨rw_own (own_kept h.row hk (fun k e => (h.rn k e).2.2.2.2)), fun k e => .inr (h.rn k e).2.1, footT p pm hb t m', ⟨pm, hb, t, m', h.tx.terms hg hk (fun x hx => .inl ⟨x, hm x hx, rfl, rfl⟩), by rw [h.el]; exact hr, rfl⟩, h.kp.trans hk (fun i e => .inl (.inr (.inl e))), footT_sub h.sub (fun x hx i e => .inl ⟨x, hm x hx, e⟩)⟩

set_option maxHeartbeats 1600000 in
set_option maxRecDepth 100000 in
theorem cut13 {B p pm hb : Nat} {t : Tr} {m : Mm} {T : Tb} {w : World} (c n : Int) (h : Tx B p pm hb t m w) (hr : Rel t.toL m T) (hl : T.length < 10000) : Calls Try.prog 13 #[.pointer (some ⟨p, 0, none⟩), .agg #[.int .u32 c, .int .u32 n]] w fun e w' => ∃ v', e = .returned v' ∧ IsAt w'.heap.size v' (byF c n T) w' ∧ (∀ k, v'.ownBlock = some k → footT p pm hb t m k ∨ w.heap.size ≤ k) ∧ ∃ M', TabAt B p M' (restF c n T) w' ∧ Kept (footT p pm hb t m) w w' ∧ ∀ i, M' i → footT p pm hb t m i ∨ w.heap.size ≤ i := by
  obtain ⟨W0, hW0⟩ : ∃ W0, w.alloc (.cells #[.int .u32 c, .int .u32 n] 32) = W0 := ⟨_, rfl⟩
  have hb0 : Below w.heap.size w W0 := by rw [← hW0]; exact al _
  have hx0 : W0.heap[w.heap.size]? = some (.cells #[.int .u32 c, .int .u32 n] 32 (0, 0)) := by rw [← hW0]; exact heap_alloc_new w _
  have z0 : W0.cell? ⟨w.heap.size, 0, none⟩ = some (.int .u32 c) := block_cell hx0 rfl
  have z1 : W0.cell? ⟨w.heap.size, 1, none⟩ = some (.int .u32 n) := block_cell hx0 rfl
  obtain ⟨bx, hbx⟩ : ∃ bx, w.heap.size = bx := ⟨_, rfl⟩
  have hll : t.toL.length < 10000 := by rw [hr.len]; exact hl
  have CB : Hid (1 = 1 → Calls Try.prog 21 #[.pointer (some ⟨p, 0, none⟩), .agg #[.int .u32 c, .int .u32 n]] W0 fun e w' => ∃ ao cap, e = .returned (.slice ao (byF c n T).length cap) ∧ Hid (Cs B p pm hb t m w bx c n (.slice ao (byF c n T).length cap) (byF c n T) t.toL t w')) := fun _ => by
    have h0 := h.on hb0
    refine (by21 c n h0 hr hl).mono ?_
    rintro e w' ⟨v', rfl, ho, hb'⟩
    obtain ⟨sa, sc, rfl, -, -, -, -⟩ := rw_own ho
    have hbw : Below w.heap.size w w' := hb0.trans (hb'.mono hb0.size)
    have hf : ∀ i, footT p pm hb t m i → i < w.heap.size := fun i hi => (h.lt hi).2
    refine ⟨sa, sc, rfl, h.on hbw, rfl, fun i hi => .inl hi, Kept.of_below hbw, own_le ho hb0.size, fun k e => ?_, ?_, ?_⟩
    · have hk := World.ownsRow.lt ho k e
      have hk1 : w.heap.size ≤ k := Nat.le_trans hb0.size hk.1
      exact ⟨fun e2 => by have := hf k (.inr (.inr (.inl e2))); omega, hk1, hk.2, fun e2 => by have := hf k (.inl e2); omega, fun e2 => by have := hf k (.inr (.inl e2)); omega⟩
    · rw [← hbx, hb'.block _ (Array.getElem?_eq_some_iff.1 hx0).1]
      exact hx0
    · rw [← hbx]
      exact ⟨fun e2 => by have := hf _ (.inr (.inr (.inl e2))); omega, Nat.le_refl _, fun e2 => by have := hf _ (.inl e2); omega, fun e2 => by have := hf _ (.inr (.inl e2)); omega⟩
  have HR : Hid (Rel t.toL m T) := hr
  have HEnd : Hid (∀ v t' W, Cs B p pm hb t m w bx c n v (byF c n T) (cutsF ((byF c n T).map (·.1)) t.toL) t' W → (0 < (byF c n T).length → ∃ w', (∀ ty : TypeId, (Builtin.delete_ #[63, 32] ty #[.map (some hb), .agg #[.int .u32 c, .int .u32 n]]).run Try.prog W.drew = .ok (.tuple #[]) w') ∧ (IsAt w'.heap.size v (byF c n T) w' ∧ (∀ k, v.ownBlock = some k → footT p pm hb t m k ∨ w.heap.size ≤ k) ∧ ∃ M', TabAt B p M' (restF c n T) w' ∧ Kept (footT p pm hb t m) w w' ∧ ∀ i, M' i → footT p pm hb t m i ∨ w.heap.size ≤ i)) ∧ (¬ 0 < (byF c n T).length → (IsAt W.heap.size v (byF c n T) W ∧ (∀ k, v.ownBlock = some k → footT p pm hb t m k ∨ w.heap.size ≤ k) ∧ ∃ M', TabAt B p M' (restF c n T) W ∧ Kept (footT p pm hb t m) w W ∧ ∀ i, M' i → footT p pm hb t m i ∨ w.heap.size ≤ i))) := fun v t' W hc => by
    refine ⟨fun h0 => ?_, fun h0 => ?_⟩
    · have hc' := hc.on (Below.refl W.heap.size W).drew
      obtain ⟨w', hrun, hg, hk⟩ := run_del hc'.tx.gm (c, n)
      exact ⟨w', hrun, cs_end hc' hg hk (fun x hx => (del_sub m).subset hx) (hr.cut c n)⟩
    · have hnil : byF c n T = [] := List.length_eq_zero_iff.1 (by omega)
      have hrel : Rel (cutsF ((byF c n T).map (·.1)) t.toL) m (restF c n T) := by
        rw [rest_none hnil, hnil]
        exact hr
      exact cs_end hc hc.tx.gm (Kept.refl _ _) (fun x hx => hx) hrel
  have hXl : (byF c n T).length < 10000 := by have := len_by c n T; omega
  have HLL : Hid (t.toL.length < 10000) := hll
  rw [hbx] at z0 z1
  have HBX : Hid (w.heap.size = bx) := hbx
  clear h hr hb0 hx0 hl hll
  generalize hX : byF c n T = X at *
  generalize restF c n T = T' at *
  generalize hF : footT p pm hb t m = F at *
  clear hX hF
  generalize ht0 : t.toL = L at *
  clear ht0
  go_enter Try.func13, Try.ntmps13
  go_wp2_with fail
  refine (CB.out (by trivial)).mono ?_
  rintro e w1 ⟨ao, cap, rfl, HC⟩
  clear CB z0 z1 hW0 hbx
  go_wp2_with fail
  go_loopw [13] (fun i wr => ∃ q : Nat, q ≤ X.length ∧ i = .int .i64 q ∧ ∃ t', Cs B p pm hb t m w bx c n (.slice ao X.length cap) X (cutsF ((X.take q).map (·.1)) L) t' wr) (fun i _ => X.length - (intOf i).toNat)
  case atStart => exact ⟨0, Nat.zero_le _, rfl, t, HC.out⟩
  case round =>
    obtain ⟨q, hq, rfl, t', hcs⟩ := hrel
    have HS : Hid (Cs B p pm hb t m w bx c n (.slice ao X.length cap) X (cutsF ((X.take q).map (·.1)) L) t' wr) := hcs
    clear hcs HC
    by_cases hml : q < X.length
    · obtain ⟨b, off, rfl, e0, e1, e2, e3, e4, e5, e6, e7, e8, e9⟩ := IsAt.el (rw_own HS.out.row) hml
      have hml' : (q : Int) < X.length := by omega
      have HQ : Hid (q + 1 ≤ X.length) := hml
      have hsn : (X.take (q + 1)).map (·.1) = (X.take q).map (·.1) ++ [(X.getD q di).1] := by rw [ttk_snoc hml]; simp
      have HSn : Hid (cutsF ((X.take (q + 1)).map (·.1)) L = cutF (X.getD q di).1 (cutsF ((X.take q).map (·.1)) L)) := by show _ = _; rw [hsn, cuts_snoc]
      have d0 := HS.out.tx.cells.1
      clear hsn hq
      generalize X.getD q di = x at *
      obtain ⟨a, s⟩ := x
      dsimp only at e0 e1 e2 e3 e4 e5 e6 e7 e8 e9 HSn
      obtain ⟨Wa, hWa⟩ : ∃ Wa, wr.alloc (.cells #[.int .u32 s.c, .int .u32 s.n, .int .u64 s.sp, .int .u32 s.sl, .int .u64 s.mp, .int .u32 s.ml, .string (bs s.prim), .string (bs a), .string (bs s.val), .bool s.dead] 49) = Wa := ⟨_, rfl⟩
      have hxa : Wa.heap[wr.heap.size]? = some (.cells #[.int .u32 s.c, .int .u32 s.n, .int .u64 s.sp, .int .u32 s.sl, .int .u64 s.mp, .int .u32 s.ml, .string (bs s.prim), .string (bs a), .string (bs s.val), .bool s.dead] 49 (0, 0)) := by rw [← hWa]; exact heap_alloc_new wr _
      have hba : Below wr.heap.size wr Wa := by rw [← hWa]; exact al _
      have ka : Wa.cell? ⟨wr.heap.size, 7, none⟩ = some (.string (bs a)) := block_cell hxa rfl
      have da : Wa.cell? ⟨p, 0, none⟩ = some (.pointer (some ⟨pm, 0, none⟩)) := (HS.out.tx.on hba).cells.1
      have CC : Hid (∀ W, Sw Wa W → Calls Try.prog 38 #[.pointer (some ⟨pm, 0, none⟩), .string (bs a)] W fun e w' => ∃ z, e = .returned (.bool z) ∧ Hid (∃ t', Cs B p pm hb t m w bx c n (.slice (some ⟨b, off, none⟩) X.length cap) X (cutsF ((X.take (q + 1)).map (·.1)) L) t' w')) := fun W hs => by
        have hw := (HS.out.on hba).on (hs.below _)
        refine (cs_cut hw (by have := cuts_le ((X.take q).map (·.1)) L; have := HLL.out; omega) a).mono ?_
        rintro e w' ⟨z, rfl, t2, h2⟩
        exact ⟨z, rfl, t2, by rw [HSn.out]; exact h2⟩
      obtain ⟨by2, hby2⟩ : ∃ by2, wr.heap.size = by2 := ⟨_, rfl⟩
      rw [hby2] at ka
      clear hxa hba HS HSn
      go_wp2_with fail
      go_region_with (go_at_call 38; refine (CC.out _ ?_).mono ?_; exact Sw.drew (Sw.refl _); rintro e w2 ⟨z, rfl, HE⟩)
      all_goals
        clear CC d0 da ka hWa hby2 e0 e1 e2 e3 e4 e5 e6 e7 e8 e9
        go_wp2_with fail
        go_roundw
        case rel => exact ⟨q + 1, HQ.out, by go_num, HE.out⟩
        case measure => simp [intOf]; omega
    · have hml' : ¬ (q : Int) < X.length := by omega
      have hqx : X.take q = X := List.take_of_length_le (by omega)
      rw [hqx] at HS
      obtain ⟨g1, g2⟩ := HEnd.out _ _ _ HS.out
      by_cases hX0 : 0 < X.length
      · have hX0' : (0 : Int) < X.length := by omega
        obtain ⟨w', hrun, hend⟩ := g1 hX0
        have HEn : Hid _ := hend
        have d1 := HS.out.tx.cells.2
        have y0 : wr.cell? ⟨bx, 0, none⟩ = some (.int .u32 c) := block_cell HS.out.b0 rfl
        have y1 : wr.cell? ⟨bx, 1, none⟩ = some (.int .u32 n) := block_cell HS.out.b0 rfl
        clear g1 g2 hend HS HEnd hqx hq hml
        go_wp2_with fail
        go_region
        go_wp2_with fail
        go_ret
        exact ⟨_, rfl, HEn.out⟩
      · have hX0' : ¬ (0 : Int) < X.length := by omega
        have HEn : Hid _ := g2 hX0
        clear g1 g2 HS HEnd hqx hq hml
        go_wp2_with fail
        go_ret
        exact ⟨_, rfl, HEn.out⟩

set_option maxHeartbeats 400000 in
set_option maxRecDepth 100000 in
theorem cut13_nil (c n : Int) (w : World) : Calls Try.prog 13 #[.pointer none, .agg #[.int .u32 c, .int .u32 n]] w fun e w' => ∃ ao cap, e = .returned (.slice ao 0 cap) ∧ Below w.heap.size w w' := by
  obtain ⟨W0, hW0⟩ : ∃ W0, w.alloc (.cells #[.int .u32 c, .int .u32 n] 32) = W0 := ⟨_, rfl⟩
  have hb0 : Below w.heap.size w W0 := by rw [← hW0]; exact al _
  have hx0 : W0.heap[w.heap.size]? = some (.cells #[.int .u32 c, .int .u32 n] 32 (0, 0)) := by rw [← hW0]; exact heap_alloc_new w _
  have z0 : W0.cell? ⟨w.heap.size, 0, none⟩ = some (.int .u32 c) := block_cell hx0 rfl
  have z1 : W0.cell? ⟨w.heap.size, 1, none⟩ = some (.int .u32 n) := block_cell hx0 rfl
  have CB : Hid (1 = 1 → Calls Try.prog 21 #[.pointer none, .agg #[.int .u32 c, .int .u32 n]] W0 fun e w' => ∃ ao cap, e = .returned (.slice ao 0 cap) ∧ Hid (Below w.heap.size w w')) := fun _ => by
    refine (by21_nil c n W0).mono ?_
    rintro e w' ⟨ao, cap, rfl, hb'⟩
    exact ⟨ao, cap, rfl, hb0.trans (hb'.mono hb0.size)⟩
  clear hb0 hx0
  go_enter Try.func13, Try.ntmps13
  go_wp2_with fail
  refine (CB.out (by trivial)).mono ?_
  rintro e w1 ⟨ao, cap, rfl, HB⟩
  clear CB z0 z1 hW0
  go_wp2_with fail
  go_loopw [13] (fun i wr => i = .int .i64 0 ∧ wr = w1) (fun _ _ => 0)
  case atStart => exact ⟨rfl, rfl⟩
  case round =>
    obtain ⟨rfl, rfl⟩ := hrel
    go_wp2_with fail
    go_ret
    exact ⟨_, _, rfl, HB.out⟩
end Go.Proofs.Ytknfkpnicjellaa
