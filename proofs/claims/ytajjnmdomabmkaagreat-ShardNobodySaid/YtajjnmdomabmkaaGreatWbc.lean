import Derived.Shelf.Abstract
import Derived.Test.YtajjnmdomabmkaaGreatWbb
set_option maxHeartbeats 4000000
set_option maxRecDepth 100000
set_option linter.unusedVariables false
namespace Go.Proofs.YtajjnmdomabmkaaGreat.Lat
open Go.RowKit
structure Cs (B p pm hb : Nat) (t0 : Tr) (m : Mm) (w : World) (bx : Nat) (c n : Int) (v : Value) (X : Tb) (L : Kv Cv) (t : Tr) (W : World) : Prop where
 tx : Tx B p pm hb t m W
 el : t.toL = L
 sub : ∀ i, foot8 pm t i → foot8 pm t0 i ∨ w.heap.size ≤ i
 kp : Kept (footT p pm hb t0 m) w W
 row : W.ownsRow w.heap.size 146 10 v X.length (rowC inc X)
 rn : ∀ k, v.ownBlock = some k → ¬ foot8 pm t k ∧ w.heap.size ≤ k ∧ k < W.heap.size ∧ k ≠ p ∧ k ≠ hb
 b0 : W.heap[bx]? = some (.cells #[.int .u32 c, .int .u32 n] 30 (0, 0))
 bn : ¬ foot8 pm t bx ∧ w.heap.size ≤ bx ∧ bx ≠ p ∧ bx ≠ hb
theorem Cs.on {B p pm hb : Nat} {t0 t : Tr} {m : Mm} {w W W' : World} {bx : Nat} {c n : Int} {v : Value} {X : Tb} {L : Kv Cv} (h : Cs B p pm hb t0 m w bx c n v X L t W) (hb' : Below W.heap.size W W') : Cs B p pm hb t0 m w bx c n v X L t W' :=
 ⟨h.tx.on hb', h.el, h.sub, h.kp.trans (Kept.of_below (F := fun _ => False) hb') (fun _ e => e.elim), own_on h.row hb', fun k hk => by obtain ⟨a, b, c, d⟩ := h.rn k hk; exact ⟨a, b, Nat.lt_of_lt_of_le c hb'.size, d⟩, by rw [hb'.block _ (Array.getElem?_eq_some_iff.1 h.b0).1]; exact h.b0, h.bn⟩
theorem cs_cut {B p pm hb : Nat} {t0 t : Tr} {m : Mm} {w W : World} {bx : Nat} {c n : Int} {v : Value} {X : Tb} {L : Kv Cv} (h : Cs B p pm hb t0 m w bx c n v X L t W) (hl : L.length < 100000) (k : List UInt8) : Calls Tryz.prog 176 #[.pointer (some ⟨pm, 0, none⟩), .string (bs k)] W fun e w' => ∃ z, e = .returned (.bool z) ∧ ∃ t', Cs B p pm hb t0 m w bx c n v X (cutF k L) t' w' := by
 refine (cut11 k h.tx.map (by rw [h.el]; exact hl)).mono ?_
 rintro e w' ⟨rfl, hp⟩
 obtain ⟨t', he, ht, hk, hn⟩ := h.tx.claims hp
 rw [h.el] at he
 have hs := h.kp.size
 have new : ∀ k, k < W.heap.size → ¬ foot8 pm t k → ¬ foot8 pm t' k := fun k h1 h2 h3 => by
  rcases hn k h3 with e | e
  ·exact h2 e
  ·omega
 have hbl := (Array.getElem?_eq_some_iff.1 h.b0).1
 refine ⟨_, rfl, t', ht, he, fun i hi => ?_, h.kp.trans hk (fun i hi => ?_), own_kept h.row hk (fun k e => (h.rn k e).1), fun k e => ?_, ?_, new bx hbl h.bn.1, h.bn.2⟩
 ·rcases hn i hi with e | e
  ·exact h.sub i e
  ·exact .inr (Nat.le_trans hs e)
 ·rcases h.sub i hi with e | e
  ·exact .inl (.inr (.inr (.inl e)))
  ·exact .inr e
 ·obtain ⟨a1, a2, a3, a4⟩ := h.rn k e
  exact ⟨new k a3 a1, a2, Nat.lt_of_lt_of_le a3 hk.size, a4⟩
 ·rw [hk.block bx hbl h.bn.1]
  exact h.b0
theorem footT_sub {p pm hb : Nat} {t0 t : Tr} {m m' : Mm} {S : Nat} (h : ∀ i, foot8 pm t i → foot8 pm t0 i ∨ S ≤ i) (hm : ∀ x ∈ m', ∀ i, (svV x.2).ownBlock = some i → (∃ y ∈ m, (svV y.2).ownBlock = some i) ∨ S ≤ i) : ∀ i, footT p pm hb t m' i → footT p pm hb t0 m i ∨ S ≤ i := fun i hi => by
 rcases hi with e | e | e | ⟨x, hx, e⟩
 ·exact .inl (.inl e)
 ·exact .inl (.inr (.inl e))
 ·rcases h i e with e | e
  ·exact .inl (.inr (.inr (.inl e)))
  ·exact .inr e
 ·rcases hm x hx i e with e | e
  ·exact .inl (.inr (.inr (.inr e)))
  ·exact .inr e
theorem cs_end {B p pm hb : Nat} {t0 t : Tr} {m m' : Mm} {w W W' : World} {bx : Nat} {c n : Int} {v : Value} {X T' : Tb} {L : Kv Cv} (h : Cs B p pm hb t0 m w bx c n v X L t W) (hg : GmAt hb m' W') (hk : Kept (fun i => i = hb) W W') (hm : ∀ x ∈ m', x ∈ m) (hr : Rel L m' T') :
  IsAt W'.heap.size v X W' ∧ (∀ k, v.ownBlock = some k → w.heap.size ≤ k) ∧ ∃ M', TabAt B p M' T' W' ∧ Kept (footT p pm hb t0 m) w W' ∧ ∀ i, M' i → footT p pm hb t0 m i ∨ w.heap.size ≤ i := by
 refine ⟨rw_own (own_kept h.row hk (fun k e => (h.rn k e).2.2.2.2)), fun k e => (h.rn k e).2.1, footT p pm hb t m', ⟨pm, hb, t, m', h.tx.terms hg hk (fun x hx => .inl ⟨x, hm x hx, rfl, rfl⟩), by rw [h.el]; exact hr, rfl⟩, h.kp.trans hk (fun i e => .inl (.inr (.inl e))), footT_sub h.sub (fun x hx i e => .inl ⟨x, hm x hx, e⟩)⟩
theorem cut13 {B p pm hb : Nat} {t : Tr} {m : Mm} {T : Tb} {w : World} (c n : Int) (h : Tx B p pm hb t m w) (hr : Rel t.toL m T) (hl : T.length < 10000) : Calls Tryz.prog 83 #[.pointer (some ⟨p, 0, none⟩), .agg #[.int .u32 c, .int .u32 n]] w fun e w' => ∃ v', e = .returned v' ∧ IsAt w'.heap.size v' (byF c n T) w' ∧ (∀ k, v'.ownBlock = some k → w.heap.size ≤ k) ∧ ∃ M', TabAt B p M' (restF c n T) w' ∧ Kept (footT p pm hb t m) w w' ∧ ∀ i, M' i → footT p pm hb t m i ∨ w.heap.size ≤ i := by
 obtain ⟨W0, hW0⟩ : ∃ W0, w.alloc (.cells #[.int .u32 c, .int .u32 n] 30) = W0 := ⟨_, rfl⟩
 have hb0 : Below w.heap.size w W0 := by rw [← hW0]; exact al _
 have hx0 : W0.heap[w.heap.size]? = some (.cells #[.int .u32 c, .int .u32 n] 30 (0, 0)) := by rw [← hW0]; exact heap_alloc_new w _
 have z0 := block_cell (j := 0) hx0 rfl
 have z1 := block_cell (j := 1) hx0 rfl
 obtain ⟨bx, hbx⟩ : ∃ bx, w.heap.size = bx := ⟨_, rfl⟩
 have hll : t.toL.length < 10000 := by rw [hr.len]; exact hl
 have CB : Hid (1 = 1 → Calls Tryz.prog 101 #[.pointer (some ⟨p, 0, none⟩), .agg #[.int .u32 c, .int .u32 n]] W0 fun e w' => ∃ ao cap, e = .returned (.slice ao (byF c n T).length cap) ∧ Hid (Cs B p pm hb t m w bx c n (.slice ao (byF c n T).length cap) (byF c n T) t.toL t w')) := fun _ => by
  have h0 := h.on hb0
  refine (by21 c n h0 hr hl).mono ?_
  rintro e w' ⟨v', rfl, ho, hb'⟩
  obtain ⟨sa, sc, rfl, -, -, -, -⟩ := rw_own ho
  have hbw : Below w.heap.size w w' := hb0.trans (hb'.mono hb0.size)
  have hf : ∀ i, footT p pm hb t m i → i < w.heap.size := fun i hi => (h.lt hi).2
  refine ⟨sa, sc, rfl, h.on hbw, rfl, fun i hi => .inl hi, Kept.of_below hbw, own_le ho hb0.size, fun k e => ?_, ?_, ?_⟩
  ·have hk := World.ownsRow.lt ho k e
   have hk1 : w.heap.size ≤ k := Nat.le_trans hb0.size hk.1
   exact ⟨fun e2 => by have := hf k (.inr (.inr (.inl e2))); omega, hk1, hk.2, fun e2 => by have := hf k (.inl e2); omega, fun e2 => by have := hf k (.inr (.inl e2)); omega⟩
  ·rw [← hbx, hb'.block _ (Array.getElem?_eq_some_iff.1 hx0).1]
   exact hx0
  ·rw [← hbx]
   exact ⟨fun e2 => by have := hf _ (.inr (.inr (.inl e2))); omega, Nat.le_refl _, fun e2 => by have := hf _ (.inl e2); omega, fun e2 => by have := hf _ (.inr (.inl e2)); omega⟩
 have HR : Hid (Rel t.toL m T) := hr
 have HEnd : Hid (∀ v t' W, Cs B p pm hb t m w bx c n v (byF c n T) (cutsF ((byF c n T).map (·.1)) t.toL) t' W → (0 < (byF c n T).length → ∃ w', (∀ ty : TypeId, (Builtin.delete_ #[169, 30] ty #[.map (some hb), .agg #[.int .u32 c, .int .u32 n]]).run Tryz.prog W.drew = .ok (.tuple #[]) w') ∧ (IsAt w'.heap.size v (byF c n T) w' ∧ (∀ k, v.ownBlock = some k → w.heap.size ≤ k) ∧ ∃ M', TabAt B p M' (restF c n T) w' ∧ Kept (footT p pm hb t m) w w' ∧ ∀ i, M' i → footT p pm hb t m i ∨ w.heap.size ≤ i)) ∧ (¬ 0 < (byF c n T).length → (IsAt W.heap.size v (byF c n T) W ∧ (∀ k, v.ownBlock = some k → w.heap.size ≤ k) ∧ ∃ M', TabAt B p M' (restF c n T) W ∧ Kept (footT p pm hb t m) w W ∧ ∀ i, M' i → footT p pm hb t m i ∨ w.heap.size ≤ i))) := fun v t' W hc => by
  refine ⟨fun h0 => ?_, fun h0 => ?_⟩
  ·have hc' := hc.on (Below.refl W.heap.size W).drew
   obtain ⟨w', hrun, hg, hk⟩ := run_del hc'.tx.gm (c, n)
   exact ⟨w', hrun, cs_end hc' hg hk (fun x hx => (del_sub m).subset hx) (hr.cut c n)⟩
  ·have hnil : byF c n T = [] := List.length_eq_zero_iff.1 (by omega)
   have hrel : Rel (cutsF ((byF c n T).map (·.1)) t.toL) m (restF c n T) := by
    rw [rest_none hnil, hnil]
    exact hr
   exact cs_end hc hc.tx.gm (Kept.refl _ _) (fun x hx => hx) hrel
 have hXl : (byF c n T).length < 10000 := by have := len_by c n T; omega
 have HLL : Hid (t.toL.length < 10000) := hll
 rw [hbx] at z0 z1
 have HBX : Hid (w.heap.size = bx) := hbx
 clear h hr hb0 hx0 hl hll
 generalize hX : byF c n T = X at *
 generalize restF c n T = T' at *
 generalize hF : footT p pm hb t m = F at *
 clear hX hF
 generalize ht0 : t.toL = L at *
 clear ht0
 go_enter Tryz.func83, Tryz.ntmps83
 go_wp2_with fail
 refine (CB.out (by trivial)).mono ?_
 rintro e w1 ⟨ao, cap, rfl, HC⟩
 clear CB z0 z1 hW0 hbx
 go_wp2_with fail
 go_loopw [13] (fun i wr => ∃ q : Nat, q ≤ X.length ∧ i = .int .i64 q ∧ ∃ t', Cs B p pm hb t m w bx c n (.slice ao X.length cap) X (cutsF ((X.take q).map (·.1)) L) t' wr) (fun i _ => X.length - (intOf i).toNat)
 case atStart => exact ⟨0, Nat.zero_le _, rfl, t, HC.out⟩
 case round =>
  obtain ⟨q, hq, rfl, t', hcs⟩ := hrel
  have HS : Hid (Cs B p pm hb t m w bx c n (.slice ao X.length cap) X (cutsF ((X.take q).map (·.1)) L) t' wr) := hcs
  clear hcs HC
  by_cases hml : q < X.length
  ·obtain ⟨b, off, rfl, e0, e1, e2, e3, e4, e5, e6, e7, e8, e9⟩ := IsAt.el (rw_own HS.out.row) hml
   have hml' : (q : Int) < X.length := by omega
   have HQ : Hid (q + 1 ≤ X.length) := hml
   have hsn : (X.take (q + 1)).map (·.1) = (X.take q).map (·.1) ++ [(X.getD q di).1] := by rw [ttk_snoc hml]; simp
   have HSn : Hid (cutsF ((X.take (q + 1)).map (·.1)) L = cutF (X.getD q di).1 (cutsF ((X.take q).map (·.1)) L)) := by show _ = _; rw [hsn, cuts_snoc]
   have d0 := HS.out.tx.cells.1
   clear hsn hq
   generalize X.getD q di = x at *
   obtain ⟨a, s⟩ := x
   dsimp only at e0 e1 e2 e3 e4 e5 e6 e7 e8 e9 HSn
   obtain ⟨Wa, hWa⟩ : ∃ Wa, wr.alloc (.cells #[.int .u32 s.c, .int .u32 s.n, .int .u64 s.sp, .int .u32 s.sl, .int .u64 s.mp, .int .u32 s.ml, .string (bs s.prim), .string (bs a), .string (bs s.val), .bool s.dead] 146) = Wa := ⟨_, rfl⟩
   have hxa : Wa.heap[wr.heap.size]? = some (.cells #[.int .u32 s.c, .int .u32 s.n, .int .u64 s.sp, .int .u32 s.sl, .int .u64 s.mp, .int .u32 s.ml, .string (bs s.prim), .string (bs a), .string (bs s.val), .bool s.dead] 146 (0, 0)) := by rw [← hWa]; exact heap_alloc_new wr _
   have hba : Below wr.heap.size wr Wa := by rw [← hWa]; exact al _
   have ka := block_cell (j := 7) hxa rfl
   have da : Wa.cell? ⟨p, 0, none⟩ = some (.pointer (some ⟨pm, 0, none⟩)) := (HS.out.tx.on hba).cells.1
   have CC : Hid (∀ W, Sw Wa W → Calls Tryz.prog 176 #[.pointer (some ⟨pm, 0, none⟩), .string (bs a)] W fun e w' => ∃ z, e = .returned (.bool z) ∧ Hid (∃ t', Cs B p pm hb t m w bx c n (.slice (some ⟨b, off, none⟩) X.length cap) X (cutsF ((X.take (q + 1)).map (·.1)) L) t' w')) := fun W hs => by
    have hw := (HS.out.on hba).on (hs.below _)
    refine (cs_cut hw (by have := cuts_le ((X.take q).map (·.1)) L; have := HLL.out; omega) a).mono ?_
    rintro e w' ⟨z, rfl, t2, h2⟩
    exact ⟨z, rfl, t2, by rw [HSn.out]; exact h2⟩
   obtain ⟨by2, hby2⟩ : ∃ by2, wr.heap.size = by2 := ⟨_, rfl⟩
   rw [hby2] at ka
   clear hxa hba HS HSn
   go_wp2_with fail
   go_region_with (go_at_call 176; refine (CC.out _ ?_).mono ?_; exact Sw.drew (Sw.refl _); rintro e w2 ⟨z, rfl, HE⟩)
   all_goals
    clear CC d0 da ka hWa hby2 e0 e1 e2 e3 e4 e5 e6 e7 e8 e9
    go_wp2_with fail
    go_roundw
    case rel => exact ⟨q + 1, HQ.out, by go_num, HE.out⟩
    case measure => simp [intOf]; omega
  ·have hml' : ¬ (q : Int) < X.length := by omega
   have hqx : X.take q = X := List.take_of_length_le (by omega)
   rw [hqx] at HS
   obtain ⟨g1, g2⟩ := HEnd.out _ _ _ HS.out
   by_cases hX0 : 0 < X.length
   ·have hX0' : (0 : Int) < X.length := by omega
    obtain ⟨w', hrun, hend⟩ := g1 hX0
    have HEn : Hid _ := hend
    have d1 := HS.out.tx.cells.2
    have y0 := block_cell (j := 0) HS.out.b0 rfl
    have y1 := block_cell (j := 1) HS.out.b0 rfl
    clear g1 g2 hend HS HEnd hqx hq hml
    go_wp2_with fail
    go_region
    go_wp2_with fail
    go_ret
    exact ⟨_, rfl, HEn.out⟩
   ·have hX0' : ¬ (0 : Int) < X.length := by omega
    have HEn : Hid _ := g2 hX0
    clear g1 g2 HS HEnd hqx hq hml
    go_wp2_with fail
    go_ret
    exact ⟨_, rfl, HEn.out⟩
end Go.Proofs.YtajjnmdomabmkaaGreat.Lat
namespace Go.Proofs.YtajjnmdomabmkaaGreat.Lat
open Go.RowKit
theorem key28 (k : List UInt8) (w : World) : Calls Tryz.prog 167 #[.string (bs k)] w fun e w' => e = .returned (.bool (kOk k)) ∧ w' = w := by
 have hs := bs_size k
 by_cases h1 : 1 ≤ k.length
 ·by_cases h2 : k.length ≤ 32
  ·have hk : kOk k = true := by simp [kOk, h1, h2]
   rw [hk]
   have h1' : (1 : Int) ≤ k.length := by omega
   have h2' : (k.length : Int) ≤ 32 := by omega
   clear hk
   go_enter Tryz.func167, Tryz.ntmps167
   go_wp2_with fail
   go_ret
   exact ⟨rfl, rfl⟩
  ·have hk : kOk k = false := by simp [kOk, h2]
   rw [hk]
   have h1' : (1 : Int) ≤ k.length := by omega
   have h2' : ¬ (k.length : Int) ≤ 32 := by omega
   clear hk
   go_enter Tryz.func167, Tryz.ntmps167
   go_wp2_with fail
   go_ret
   exact ⟨rfl, rfl⟩
 ·have hk : kOk k = false := by simp [kOk, h1]
  rw [hk]
  have h1' : ¬ (1 : Int) ≤ k.length := by omega
  clear hk
  go_enter Tryz.func167, Tryz.ntmps167
  go_wp2_with fail
  go_ret
  exact ⟨rfl, rfl⟩
theorem right50 (x : Wr) (w : World) : Calls Tryz.prog 247 #[.agg #[.string (bs x.key), .string (bs x.val), .bool x.dead]] w fun e w' => e = .returned (.bool (wOk x)) ∧ Below w.heap.size w w' := by
 obtain ⟨xk, xv, xd⟩ := x
 dsimp only
 have hs := bs_size xv
 have q0 : ((bs xv).toList == []) = xv.isEmpty := by rw [bs_list]; cases xv <;> rfl
 have CK : Hid (∀ W, Calls Tryz.prog 167 #[.string (bs xk)] W fun e w' => e = .returned (.bool (kOk xk)) ∧ w' = W) := fun W => key28 xk W
 have HOk : Hid (∀ kb, kOk xk = kb → ∀ eb, xv.isEmpty = eb → wOk ⟨xk, xv, xd⟩ = (kb && decide (xv.length ≤ 256) && !(xd && !eb))) := fun kb h1 eb h2 => by subst h1 h2; rfl
 obtain ⟨kb, hkb⟩ : ∃ kb, kOk xk = kb := ⟨_, rfl⟩
 obtain ⟨eb, heb⟩ : ∃ eb, xv.isEmpty = eb := ⟨_, rfl⟩
 rw [HOk.out kb hkb eb heb]
 rw [hkb] at CK
 rw [heb] at q0
 have HB : Hid (∀ o, Below w.heap.size w (w.alloc o)) := fun o => al o
 clear hkb heb HOk
 cases kb
 ·go_enter Tryz.func247, Tryz.ntmps247
  go_wp2_with fail
  refine (CK.out _).mono ?_
  rintro e w1 ⟨rfl, rfl⟩
  go_wp2_with fail
  go_ret
  exact ⟨rfl, HB.out _⟩
 ·by_cases hv : (xv.length : Int) ≤ 256
  ·have hv2 : decide (xv.length ≤ 256) = true := by simp; omega
   rw [hv2]
   clear hv2
   cases xd
   ·go_enter Tryz.func247, Tryz.ntmps247
    go_wp2_with fail
    refine (CK.out _).mono ?_
    rintro e w1 ⟨rfl, rfl⟩
    go_wp2_with fail
    go_ret
    exact ⟨rfl, HB.out _⟩
   ·cases eb
    ·go_enter Tryz.func247, Tryz.ntmps247
     go_wp2_with fail
     refine (CK.out _).mono ?_
     rintro e w1 ⟨rfl, rfl⟩
     go_wp2_with fail
     go_ret
     exact ⟨rfl, HB.out _⟩
    ·go_enter Tryz.func247, Tryz.ntmps247
     go_wp2_with fail
     refine (CK.out _).mono ?_
     rintro e w1 ⟨rfl, rfl⟩
     go_wp2_with fail
     go_ret
     exact ⟨rfl, HB.out _⟩
  ·have hv2 : decide (xv.length ≤ 256) = false := by simp; omega
   rw [hv2]
   clear hv2
   go_enter Tryz.func247, Tryz.ntmps247
   go_wp2_with fail
   refine (CK.out _).mono ?_
   rintro e w1 ⟨rfl, rfl⟩
   go_wp2_with fail
   go_ret
   exact ⟨rfl, HB.out _⟩
theorem above44 (k : List UInt8) (w : World) (hl : k.length < 1000) : Calls Tryz.prog 312 #[.string (bs k)] w fun e w' => e = .returned (.string (bs (k ++ [0]))) ∧ w' = w := by
 have hs := bs_size k
 have hd := bs_data k
 have hl' : ¬ 9223372036854775807 < k.length + 1 := by omega
 have e1 : bs k ++ ⟨#[0]⟩ = bs (k ++ [0]) := by
  apply ByteArray.ext
  simp [bs]
 go_enter Tryz.func312, Tryz.ntmps312
 go_wp2_with fail
 go_ret
 exact ⟨rfl, rfl⟩
theorem same51 (x : Wr) (bp : Nat) (k : List UInt8) (w : World) (h : w.cell? ⟨bp, 0, none⟩ = some (.string (bs k))) : Calls Tryz.prog 248 #[.agg #[.string (bs x.key), .string (bs x.val), .bool x.dead], .pointer (some ⟨bp, 0, none⟩)] w fun e w' => e = .returned (.bool (x.key == k)) ∧ Below w.heap.size w w' := by
 have hq := bs_beq x.key k
 obtain ⟨W0, hW0⟩ : ∃ W0, w.alloc (.cells #[.string (bs x.key), .string (bs x.val), .bool x.dead] 144) = W0 := ⟨_, rfl⟩
 have hb0 : Below w.heap.size w W0 := by rw [← hW0]; exact al _
 have hx0 : W0.heap[w.heap.size]? = some (.cells #[.string (bs x.key), .string (bs x.val), .bool x.dead] 144 (0, 0)) := by rw [← hW0]; exact heap_alloc_new w _
 have z0 := block_cell (j := 0) hx0 rfl
 have h0 : W0.cell? ⟨bp, 0, none⟩ = some (.string (bs k)) := by rw [hb0.cell (World.block_lt_of_cell? _ _ h)]; exact h
 have HB : Hid (Below w.heap.size w W0) := hb0
 clear h hb0 hx0
 generalize (x.key == k) = z at *
 go_enter Tryz.func248, Tryz.ntmps248
 go_wp2_with fail
 go_ret
 exact ⟨rfl, HB.out⟩
theorem any_step {L : List Wr} {P : Wr → Bool} {m : Nat} (h : m < L.length) : (L.drop m).any P = (P (L.getD m dw) || (L.drop (m + 1)).any P) := by
 rw [List.drop_eq_getElem_cons h, List.any_cons, List.getD, List.getElem?_eq_getElem h]
 rfl
theorem index52 (f : Nat) (cf : Array Value) (P : Wr → Bool) (L : List Wr) (v : Value) (w : World) (hL : WsAt w.heap.size v L w) (ef : ∀ args w, (callFunc f args).run Tryz.prog w = .ok (.enter f args) w)
  (HF : Hid (∀ (x : Wr) W, Below w.heap.size w W → Calls Tryz.prog f (#[.agg #[.string (bs x.key), .string (bs x.val), .bool x.dead]] ++ cf) W fun e w' => e = .returned (.bool (P x)) ∧ Below W.heap.size W w')) :
  Calls Tryz.prog 249 #[v, .func (.func f) #[] cf] w fun e w' => ∃ i : Int, e = .returned (.int .i64 i) ∧ decide (0 ≤ i) = L.any P ∧ Below w.heap.size w w' := by
 have HL : Hid (WsAt w.heap.size v L w) := hL
 obtain ⟨ao, cap, rfl, hlc, hcm⟩ := hL.shape
 have hL9 : L.length < 9223372036854775808 := by omega
 have H0 : Hid ((L.drop 0).any P = L.any P) := by show _ = _; rw [List.drop_zero]
 have HE : Hid (∀ W, Below w.heap.size w W → ∀ i, i < L.length → ∃ b off, ao = some ⟨b, off, none⟩ ∧ WrAt W b (off + i * 3) (L.getD i dw)) := fun W hW i hi => (HL.out.on hW).el hi
 obtain ⟨y, hy⟩ : ∃ y, L.any P = y := ⟨_, rfl⟩
 rw [hy] at H0 ⊢
 clear hL hlc hcm HL hy
 go_enter Tryz.func249, Tryz.ntmps249
 go_wp2_with fail
 go_loopw [8] (fun i wr => Below w.heap.size w wr ∧ ∃ m : Nat, m ≤ L.length ∧ i = .int .i64 m ∧ (L.drop m).any P = y) (fun i _ => L.length - (intOf i).toNat)
 case atStart => exact ⟨Below.refl _ _, 0, Nat.zero_le _, rfl, H0.out⟩
 case round =>
  obtain ⟨hbr, m, hm, rfl, hy⟩ := hrel
  have HBr : Hid (Below w.heap.size w wr) := hbr
  by_cases hml : m < L.length
  ·obtain ⟨b, off, rfl, e0, e1, e2⟩ := HE.out wr hbr m hml
   have hml' : (m : Int) < L.length := by omega
   have hm9 : ¬ (m : Int) < 0 := by omega
   have hst := any_step (P := P) hml
   rw [hy] at hst
   have HQ : Hid (m + 1 ≤ L.length) := hml
   generalize L.getD m dw = x at *
   have CF : Hid (1 = 1 → _) := fun _ => HF.out x wr hbr
   obtain ⟨z, hz⟩ : ∃ z, P x = z := ⟨_, rfl⟩
   rw [hz] at CF hst
   clear hz hbr hy HE
   cases z
   ·have HY : Hid ((L.drop (m + 1)).any P = y) := by show _ = _; rw [hst]; rfl
    clear hst
    go_wp2_with fail
    refine (CF.out (by trivial)).mono ?_
    rintro e w1 ⟨rfl, hb1⟩
    have HB1 : Hid (Below w.heap.size w w1) := HBr.out.trans (hb1.mono HBr.out.size)
    clear hb1 CF e0 e1 e2
    go_wp2_with fail
    go_roundw
    case rel => exact ⟨HB1.out, m + 1, HQ.out, by go_num, HY.out⟩
    case measure => simp [intOf]; omega
   ·have hy1 : y = true := hst
    subst hy1
    clear hst
    go_wp2_with fail
    refine (CF.out (by trivial)).mono ?_
    rintro e w1 ⟨rfl, hb1⟩
    have HB1 : Hid (Below w.heap.size w w1) := HBr.out.trans (hb1.mono HBr.out.size)
    clear hb1 CF e0 e1 e2
    go_wp2_with fail
    go_ret
    exact ⟨_, rfl, by simp, HB1.out⟩
  ·have hml' : ¬ (m : Int) < L.length := by omega
   have hy1 : y = false := by rw [← hy, List.drop_eq_nil_of_le (by omega)]; rfl
   subst hy1
   clear hy hbr
   go_wp2_with fail
   go_ret
   exact ⟨_, rfl, by decide, HBr.out⟩
theorem cont30 (f : Nat) (cf : Array Value) (P : Wr → Bool) (L : List Wr) (v : Value) (w : World) (hL : WsAt w.heap.size v L w) (ef : ∀ args w, (callFunc f args).run Tryz.prog w = .ok (.enter f args) w)
  (HF : Hid (∀ (x : Wr) W, Below w.heap.size w W → Calls Tryz.prog f (#[.agg #[.string (bs x.key), .string (bs x.val), .bool x.dead]] ++ cf) W fun e w' => e = .returned (.bool (P x)) ∧ Below W.heap.size W w')) :
  Calls Tryz.prog 169 #[v, .func (.func f) #[] cf] w fun e w' => e = .returned (.bool (L.any P)) ∧ Below w.heap.size w w' := by
 have CI : Hid (1 = 1 → _) := fun _ => index52 f cf P L v w hL ef HF
 obtain ⟨ao, cap, rfl, hlc, hcm⟩ := hL.shape
 clear hL HF ef hlc hcm
 generalize L.any P = y at *
 go_enter Tryz.func169, Tryz.ntmps169
 go_wp2_with fail
 refine (CI.out (by trivial)).mono ?_
 rintro e w1 ⟨i, rfl, hi, hb1⟩
 have HB : Hid _ := hb1
 have HI : Hid (decide (0 ≤ i) = y) := hi
 clear CI hb1 hi
 go_wp2_with fail
 go_ret
 exact ⟨by rw [← HI.out]; rfl, HB.out⟩
end Go.Proofs.YtajjnmdomabmkaaGreat.Lat
namespace Go.Proofs.YtajjnmdomabmkaaGreat.Lat
open Go.RowKit
theorem ltK_above : ∀ k x : List UInt8, ltK x (k ++ [0]) = !ltK k x
 | [], [] => by simp [ltK, Op.bytesLess]
 | [], a :: r => by
  have : ¬ a < 0 := by rw [UInt8.not_lt]; exact UInt8.zero_le
  cases r <;> simp [ltK, Op.bytesLess, this]
 | b :: s, [] => by simp [ltK, Op.bytesLess]
 | b :: s, a :: r => by
  have ih := ltK_above s r
  unfold ltK at ih ⊢
  simp only [List.cons_append, Op.bytesLess, ih]
  by_cases h1 : a < b
  ·have h2 : ¬ b < a := fun h => absurd (UInt8.lt_trans h1 h) (UInt8.lt_irrefl a)
   have h3 : (b == a) = false := by rw [beq_eq_false_iff_ne]; rintro rfl; exact h2 h1
   simp [h1, h2, h3]
  ·by_cases h2 : b < a
   ·have h3 : (a == b) = false := by rw [beq_eq_false_iff_ne]; rintro rfl; exact h1 h2
    simp [h1, h2, h3]
   ·have h3 : a = b := by
     rw [UInt8.not_lt] at h1 h2
     exact UInt8.le_antisymm h2 h1
    subst h3
    simp [h1]
def rngT (lo hi : List UInt8) (T : Tb) : Tb := T.filter fun x => inR lo hi x.1
theorem rngT_above {T : Tb} {lo hi k : List UInt8} (h : ltK k lo = false) : rngT (k ++ [0]) hi T = (rngT lo hi T).filter (fun x => ltK k x.1) := by
 unfold rngT
 rw [List.filter_filter]
 congr 1
 funext x
 unfold inR
 rw [ltK_above, Bool.not_not]
 cases h1 : ltK k x.1
 ·simp
 ·have h2 : ltK x.1 lo = false := by
   cases h3 : ltK x.1 lo
   ·rfl
   ·rw [ltK_trans h1 h3] at h; cases h
  simp [h2]
theorem rngT_lo {T : Tb} {lo hi : List UInt8} {x : List UInt8 × Ii} (h : x ∈ rngT lo hi T) : ltK x.1 lo = false := by
 have := (List.mem_filter.1 h).2
 unfold inR at this
 simp only [Bool.and_eq_true, Bool.not_eq_true'] at this
 exact this.1
theorem rngT_next {T : Tb} {lo hi : List UInt8} {i : Nat} (hS : Srt T) (h : i < (rngT lo hi T).length) : rngT (((rngT lo hi T).getD i di).1 ++ [0]) hi T = (rngT lo hi T).drop (i + 1) := by
 have hm : (rngT lo hi T).getD i di ∈ rngT lo hi T := getD_memT h
 rw [rngT_above (rngT_lo hm)]
 have hs : Srt (rngT lo hi T) := filter_srt hS _
 generalize hR : rngT lo hi T = R at *
 have e : R = R.take i ++ R.getD i di :: R.drop (i + 1) := by rw [← tdr_step h, List.take_append_drop]
 generalize R.getD i di = x at *
 obtain ⟨a, c⟩ := x
 rw [e] at hs
 obtain ⟨-, -, h3, h4⟩ := srt_parts hs
 conv => lhs; rw [e]
 rw [List.filter_append, List.filter_cons]
 simp only [ltK_irrefl, Bool.false_eq_true, if_false]
 rw [List.filter_eq_nil_iff.2 (fun y hy => by have := ltK_asymm (h3 y hy); simp [this]), List.nil_append]
 exact List.filter_eq_self.2 (fun y hy => h4 y hy)
theorem keys_part {T : Tb} {L : Kv Cv} (hk : T.map (·.1) = L.map (·.1)) {lo hi : List UInt8} : keysF lo hi 32 L = ((rngT lo hi T).take 32).map (·.1) := by
 have e : rangeF lo hi L = (rngT lo hi T).map (·.1) := by
  unfold rangeF rngT
  rw [← hk, List.filter_map]
  rfl
 unfold keysF
 rw [e, List.map_take]
 rfl
def stQ (ap aq : Int) (but : List (Int × Int)) (x : List UInt8 × Ii) : Bool := !lessB ap aq x.2.mp x.2.ml && !but.contains (x.2.c, x.2.n)
theorem first_rng (lo hi : List UInt8) (ap aq : Int) (but : List (Int × Int)) (T : Tb) : firstF lo hi ap aq but T = (rngT lo hi T).find? (stQ ap aq but) := by
 unfold firstF rngT
 rw [List.find?_filter]
 congr 1
 funext x
 unfold standsB stQ
 rw [lt_less, Bool.and_assoc]
 generalize inR lo hi x.1 = a
 generalize (!lessB ap aq x.2.mp x.2.ml && !but.contains (x.2.c, x.2.n)) = b
 cases a <;> cases b <;> rfl
theorem find_at_i {R : Tb} {q : List UInt8 × Ii → Bool} {m : Nat} (h : m < R.length) (hn : (R.take m).find? q = none) (hq : q (R.getD m di) = true) : R.find? q = some (R.getD m di) := first_at h hn hq
theorem find_snoc {R : Tb} {q : List UInt8 × Ii → Bool} {m : Nat} (h : m < R.length) (hn : (R.take m).find? q = none) (hq : q (R.getD m di) = false) : (R.take (m + 1)).find? q = none := by
 rw [ttk_snoc h, List.find?_append, hn]
 generalize R.getD m di = x at *
 simp [hq]
theorem part_found {R : Tb} {q : List UInt8 × Ii → Bool} {m j : Nat} (hno : (R.take m).find? q = none) (hj : j < ((R.drop m).take 32).length) (h1 : (((R.drop m).take 32).take j).find? q = none) (h2 : q (((R.drop m).take 32).getD j di) = true) : R.find? q = some (((R.drop m).take 32).getD j di) := by
 have e : R.find? q = (R.take m ++ ((R.drop m).take 32 ++ (R.drop m).drop 32)).find? q := by rw [List.take_append_drop, List.take_append_drop]
 rw [e, List.find?_append, hno, Option.none_or, List.find?_append, find_at_i hj h1 h2]
 rfl
theorem part_none {R : Tb} {q : List UInt8 × Ii → Bool} {m : Nat} (hno : (R.take m).find? q = none) (h1 : ((R.drop m).take 32).find? q = none) : (((R.drop m).take 32).length < 32 → R.find? q = none) ∧ (R.take (m + 32)).find? q = none := by
 have e1 : (R.take (m + 32)).find? q = none := by
  rw [List.take_add, List.find?_append, hno, h1]
  rfl
 refine ⟨fun h2 => ?_, e1⟩
 rw [List.length_take, List.length_drop] at h2
 rwa [List.take_of_length_le (by omega)] at e1
def leftT (hi : List UInt8) (T : Tb) (v : Value) : Nat := match v with
 | .string s => (rngT s.data.toList hi T).length
 | _ => 0
theorem leftT_bs (hi : List UInt8) (T : Tb) (k : List UInt8) : leftT hi T (.string (bs k)) = (rngT k hi T).length := by
 show (rngT (bs k).data.toList hi T).length = _
 rw [bs_data]
theorem index59 (B : Nat) (L : List (Int × Int)) (v : Value) (c n : Int) (w : World) (h : TsAt B v L w) (hB : B ≤ w.heap.size) :
  Calls Tryz.prog 342 #[v, .agg #[.int .u32 c, .int .u32 n]] w fun e w' => ∃ i : Int, e = .returned (.int .i64 i) ∧ decide (0 ≤ i) = L.contains (c, n) ∧ Below w.heap.size w w' := by
 obtain ⟨ao, cap, rfl, hla, hma⟩ := h.shape
 have HA : Hid (∀ W, Below w.heap.size w W → ∀ i, i < L.length → ∃ b off, ao = some ⟨b, off, none⟩ ∧ W.cell? ⟨b, off + i * 2, none⟩ = some (.int .u32 (L.getD i dtx).1) ∧ W.cell? ⟨b, off + i * 2 + 1, none⟩ = some (.int .u32 (L.getD i dtx).2)) := fun W hW i hi => TsAt.el (RwAt.on h (hW.mono hB)) hi
 have HS : Hid (∀ m, m < L.length → (L.drop m).contains (c, n) = (((L.getD m dtx).1 == c && (L.getD m dtx).2 == n) || (L.drop (m + 1)).contains (c, n))) := fun m hm => has_step hm
 have HZ : Hid (∀ m, L.length ≤ m → (L.drop m).contains (c, n) = false) := fun m hm => by rw [List.drop_eq_nil_of_le hm]; rfl
 have H0 : Hid ((L.drop 0).contains (c, n) = L.contains (c, n)) := rfl
 have hL9 : L.length < 9223372036854775808 := by omega
 have HX : Hid ((w.alloc (.cells #[.int .u32 c, .int .u32 n] 30)).heap[w.heap.size]? = some (.cells #[.int .u32 c, .int .u32 n] 30 (0, 0)) ∧ Below w.heap.size w (w.alloc (.cells #[.int .u32 c, .int .u32 n] 30))) := ⟨heap_alloc_new w _, al _⟩
 generalize L.contains (c, n) = y at *
 clear h hla hma hB
 go_enter Tryz.func342, Tryz.ntmps342
 go_wp2_with fail
 obtain ⟨W0, hW0⟩ : ∃ W0, w.alloc (.cells #[.int .u32 c, .int .u32 n] 30) = W0 := ⟨_, rfl⟩
 rw [hW0] at HX ⊢
 obtain ⟨bx, hbx⟩ : ∃ bx, w.heap.size = bx := ⟨_, rfl⟩
 have HBX : Hid (w.heap.size = bx) := hbx
 have HC : Hid (∀ W, Below W0.heap.size W0 W → W.cell? ⟨w.heap.size, 0, none⟩ = some (.int .u32 c) ∧ W.cell? ⟨w.heap.size, 1, none⟩ = some (.int .u32 n) ∧ Below w.heap.size w W) := fun W hb => by
  have hx : W.heap[w.heap.size]? = some (.cells #[.int .u32 c, .int .u32 n] 30 (0, 0)) := by rw [hb.block _ (Array.getElem?_eq_some_iff.1 HX.out.1).1]; exact HX.out.1
  exact ⟨block_cell hx rfl, block_cell hx rfl, HX.out.2.trans (hb.mono HX.out.2.size)⟩
 rw [hbx] at HC ⊢
 clear hbx hW0 HX
 go_loopw [8] (fun i wr => Below W0.heap.size W0 wr ∧ ∃ m : Nat, m ≤ L.length ∧ i = .int .i64 m ∧ (L.drop m).contains (c, n) = y) (fun i _ => L.length - (intOf i).toNat)
 case atStart => exact ⟨Below.refl _ _, 0, Nat.zero_le _, rfl, H0.out⟩
 case round =>
  obtain ⟨hbr, m, hm, rfl, hy⟩ := hrel
  have HBr : Hid _ := hbr
  obtain ⟨x0, x1, hbw⟩ := HC.out wr hbr
  have HBw : Hid (Below w.heap.size w wr) := by rw [HBX.out]; exact hbw
  by_cases hml : m < L.length
  ·obtain ⟨b, off, rfl, e0, e1⟩ := HA.out wr HBw.out m hml
   have hml' : (m : Int) < L.length := by omega
   have hst := HS.out m hml
   rw [hy] at hst
   generalize L.getD m dtx = x at *
   obtain ⟨p, q⟩ := x
   dsimp only at e0 e1 hst
   have hq := run_eql32 c n p q
   rw [show (c == p && n == q) = (p == c && q == n) from by rw [show (c == p) = (p == c) from BEq.comm, show (n == q) = (q == n) from BEq.comm]] at hq
   generalize (p == c && q == n) = z at *
   have HF : Hid (wr.cell? ⟨bx, 0, none⟩ = some (.int .u32 c) ∧ wr.cell? ⟨bx, 1, none⟩ = some (.int .u32 n) ∧ wr.cell? ⟨b, off + m * 2, none⟩ = some (.int .u32 p) ∧ wr.cell? ⟨b, off + m * 2 + 1, none⟩ = some (.int .u32 q)) := ⟨x0, x1, e0, e1⟩
   have HQ : Hid (m + 1 ≤ L.length) := hml
   clear hbr hbw hy
   go_upto_region 4 with fail
   go_region_held3 (fun W => W.cell? ⟨bx, 0, none⟩ = some (.int .u32 c) ∧ W.cell? ⟨bx, 1, none⟩ = some (.int .u32 n) ∧ W.cell? ⟨b, off + m * 2, none⟩ = some (.int .u32 p) ∧ W.cell? ⟨b, off + m * 2 + 1, none⟩ = some (.int .u32 q))
    (exact HF.out) (fail)
   rename_i hHeld
   clear hHeld x0 x1 e0 e1 hq HF
   cases z
   ·have HY : Hid ((L.drop (m + 1)).contains (c, n) = y) := by show _ = _; rw [hst]; simp
    clear hst
    go_wp2_with fail
    go_roundw
    case rel => exact ⟨HBr.out.drew, m + 1, HQ.out, by go_num, HY.out⟩
    case measure => simp [intOf]; omega
   ·have hy1 : y = true := by rw [hst]; simp
    subst hy1
    clear hst
    go_wp2_with fail
    go_ret
    exact ⟨_, rfl, by simp, HBw.out.drew⟩
  ·have hml' : ¬ (m : Int) < L.length := by omega
   have hz := HZ.out m (by omega)
   rw [hy] at hz
   subst hz
   clear hbr hbw hy
   go_wp2_with fail
   go_ret
   exact ⟨_, rfl, by decide, HBw.out⟩
theorem contains43 (B : Nat) (L : List (Int × Int)) (v : Value) (c n : Int) (w : World) (h : TsAt B v L w) (hB : B ≤ w.heap.size) :
  Calls Tryz.prog 311 #[v, .agg #[.int .u32 c, .int .u32 n]] w fun e w' => e = .returned (.bool (L.contains (c, n))) ∧ Below w.heap.size w w' := by
 obtain ⟨W0, hW0⟩ : ∃ W0, w.alloc (.cells #[.int .u32 c, .int .u32 n] 30) = W0 := ⟨_, rfl⟩
 have hb0 : Below w.heap.size w W0 := by rw [← hW0]; exact al _
 have hx0 : W0.heap[w.heap.size]? = some (.cells #[.int .u32 c, .int .u32 n] 30 (0, 0)) := by rw [← hW0]; exact heap_alloc_new w _
 have z0 := block_cell (j := 0) hx0 rfl
 have z1 := block_cell (j := 1) hx0 rfl
 have CI : Hid (1 = 1 → Calls Tryz.prog 342 #[v, .agg #[.int .u32 c, .int .u32 n]] W0 fun e w' => ∃ i : Int, e = .returned (.int .i64 i) ∧ Hid (decide (0 ≤ i) = L.contains (c, n) ∧ Below w.heap.size w w')) := fun _ => by
  refine (index59 B L v c n W0 (RwAt.on h (hb0.mono hB)) (Nat.le_trans hB hb0.size)).mono ?_
  rintro e w' ⟨i, rfl, hi, hb'⟩
  exact ⟨i, rfl, hi, hb0.trans (hb'.mono hb0.size)⟩
 obtain ⟨ao, cap, rfl, hlc, hcm⟩ := h.shape
 clear h hB hlc hcm hb0 hx0
 generalize L.contains (c, n) = y at *
 go_enter Tryz.func311, Tryz.ntmps311
 go_wp2_with fail
 refine (CI.out (by trivial)).mono ?_
 rintro e w1 ⟨i, rfl, HI⟩
 clear CI z0 z1 hW0
 go_wp2_with fail
 go_ret
 exact ⟨by rw [← HI.out.1]; rfl, HI.out.2⟩
end Go.Proofs.YtajjnmdomabmkaaGreat.Lat
