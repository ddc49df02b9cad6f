import Derived.Test.YtajjnmdomabmkaaGreatWbd
set_option maxHeartbeats 4000000
set_option maxRecDepth 100000
set_option linter.unusedVariables false
namespace Go.Proofs.YtajjnmdomabmkaaGreat.Lat
open Go.RowKit
structure L4 (B p pm hb : Nat) (t : Tr) (m : Mm) (w : World) (b6 b7 b8 b9 : Nat) (c n sp sl mp ml : Int) (W : World) : Prop where
 tx : Tx B p pm hb t m W
 bel : Below w.heap.size w W
 k6 : W.heap[b6]? = some (.cells #[.pointer (some ⟨p, 0, none⟩)] 117 (0, 0))
 k7 : W.heap[b7]? = some (.cells #[.int .u32 c, .int .u32 n] 30 (0, 0))
 k8 : W.heap[b8]? = some (.cells #[.int .u64 sp, .int .u32 sl] 32 (0, 0))
 k9 : W.heap[b9]? = some (.cells #[.int .u64 mp, .int .u32 ml] 32 (0, 0))
theorem L4.on {B p pm hb : Nat} {t : Tr} {m : Mm} {w W W' : World} {b6 b7 b8 b9 : Nat} {c n sp sl mp ml : Int} (h : L4 B p pm hb t m w b6 b7 b8 b9 c n sp sl mp ml W) (hb' : Below W.heap.size W W') : L4 B p pm hb t m w b6 b7 b8 b9 c n sp sl mp ml W' :=
 ⟨h.tx.on hb', h.bel.trans (hb'.mono h.bel.size), by rw [hb'.block _ (Array.getElem?_eq_some_iff.1 h.k6).1]; exact h.k6, by rw [hb'.block _ (Array.getElem?_eq_some_iff.1 h.k7).1]; exact h.k7, by rw [hb'.block _ (Array.getElem?_eq_some_iff.1 h.k8).1]; exact h.k8, by rw [hb'.block _ (Array.getElem?_eq_some_iff.1 h.k9).1]; exact h.k9⟩
structure Lz (B p pm hb : Nat) (t0 : Tr) (m : Mm) (w : World) (b6 b7 b8 b9 : Nat) (c n sp sl mp ml : Int) (v : Value) (L : List Wr) (C : Kv Cv) (kv : Value) (K : List (List UInt8)) (t : Tr) (W : World) : Prop where
 tx : Tx B p pm hb t m W
 el : t.toL = C
 sub : ∀ i, foot8 pm t i → foot8 pm t0 i ∨ w.heap.size ≤ i
 kp : Kept (footT p pm hb t0 m) w W
 k6 : W.heap[b6]? = some (.cells #[.pointer (some ⟨p, 0, none⟩)] 117 (0, 0))
 k7 : W.heap[b7]? = some (.cells #[.int .u32 c, .int .u32 n] 30 (0, 0))
 k8 : W.heap[b8]? = some (.cells #[.int .u64 sp, .int .u32 sl] 32 (0, 0))
 k9 : W.heap[b9]? = some (.cells #[.int .u64 mp, .int .u32 ml] 32 (0, 0))
 bn : ∀ i, (i = b6 ∨ i = b7 ∨ i = b8 ∨ i = b9) → ¬ foot8 pm t i ∧ w.heap.size ≤ i
 ws : WsAt W.heap.size v L W
 wn : 0 < L.length → ∀ k, v.ownBlock = some k → ¬ foot8 pm t k ∧ k < w.heap.size
 row : W.ownsRow w.heap.size 9 1 kv K.length (kc K)
 rn : ∀ k, kv.ownBlock = some k → ¬ foot8 pm t k ∧ ¬ (k = b6 ∨ k = b7 ∨ k = b8 ∨ k = b9)
 old : ∀ i, (i = p ∨ i = hb ∨ ∃ x ∈ m, (svV x.2).ownBlock = some i) → i < w.heap.size
theorem Lz.on {B p pm hb : Nat} {t0 t : Tr} {m : Mm} {w W W' : World} {b6 b7 b8 b9 : Nat} {c n sp sl mp ml : Int} {v : Value} {L : List Wr} {C : Kv Cv} {kv : Value} {K : List (List UInt8)} (h : Lz B p pm hb t0 m w b6 b7 b8 b9 c n sp sl mp ml v L C kv K t W) (hb' : Below W.heap.size W W') : Lz B p pm hb t0 m w b6 b7 b8 b9 c n sp sl mp ml v L C kv K t W' :=
 ⟨h.tx.on hb', h.el, h.sub, h.kp.trans (Kept.of_below (F := fun _ => False) hb') (fun _ e => e.elim), by rw [hb'.block _ (Array.getElem?_eq_some_iff.1 h.k6).1]; exact h.k6, by rw [hb'.block _ (Array.getElem?_eq_some_iff.1 h.k7).1]; exact h.k7, by rw [hb'.block _ (Array.getElem?_eq_some_iff.1 h.k8).1]; exact h.k8, by rw [hb'.block _ (Array.getElem?_eq_some_iff.1 h.k9).1]; exact h.k9, h.bn, RwAt.le (h.ws.on hb') hb'.size, h.wn, own_on h.row hb', h.rn, h.old⟩
theorem ly_set {B p pm hb : Nat} {t0 t : Tr} {m : Mm} {w W : World} {b6 b7 b8 b9 : Nat} {c n sp sl mp ml : Int} {v : Value} {L : List Wr} {C : Kv Cv} {kv : Value} {K : List (List UInt8)} (h : Lz B p pm hb t0 m w b6 b7 b8 b9 c n sp sl mp ml v L C kv K t W) (hl : C.length < 100000) (x : Wr) : Calls Tryz.prog 172 #[.pointer (some ⟨pm, 0, none⟩), .string (bs x.key), .agg #[.int .u32 c, .int .u32 n, .string (bs x.key), .string (bs x.val), .bool x.dead]] W fun e w' => e = .returned (.tuple #[]) ∧ Kept (foot8 pm t) W w' ∧ ∃ t', Lz B p pm hb t0 m w b6 b7 b8 b9 c n sp sl mp ml v L (setF x.key ((c, n), x) C) kv K t' w' := by
 refine (set9 x.key ((c, n), x) h.tx.map (by rw [h.el]; exact hl)).mono ?_
 rintro e w' ⟨rfl, hp⟩
 obtain ⟨t', he, ht, hk, hn⟩ := h.tx.claims hp
 rw [h.el] at he
 have hs := h.kp.size
 have new : ∀ k, k < W.heap.size → ¬ foot8 pm t k → ¬ foot8 pm t' k := fun k h1 h2 h3 => by
  rcases hn k h3 with e | e
  ·exact h2 e
  ·omega
 have l6 := (Array.getElem?_eq_some_iff.1 h.k6).1
 have l7 := (Array.getElem?_eq_some_iff.1 h.k7).1
 have l8 := (Array.getElem?_eq_some_iff.1 h.k8).1
 have l9 := (Array.getElem?_eq_some_iff.1 h.k9).1
 refine ⟨rfl, hk, t', ht, he, fun i hi => ?_, h.kp.trans hk (fun i hi => ?_), ?_, ?_, ?_, ?_, fun i e => ?_, ?_, fun h0 k e => ?_, own_kept h.row hk (fun k e => (h.rn k e).1), fun k e => ?_, h.old⟩
 ·rcases hn i hi with e | e
  ·exact h.sub i e
  ·exact .inr (Nat.le_trans hs e)
 ·rcases h.sub i hi with e | e
  ·exact .inl (.inr (.inr (.inl e)))
  ·exact .inr e
 ·rw [hk.block _ l6 (h.bn _ (.inl rfl)).1]; exact h.k6
 ·rw [hk.block _ l7 (h.bn _ (.inr (.inl rfl))).1]; exact h.k7
 ·rw [hk.block _ l8 (h.bn _ (.inr (.inr (.inl rfl)))).1]; exact h.k8
 ·rw [hk.block _ l9 (h.bn _ (.inr (.inr (.inr rfl)))).1]; exact h.k9
 ·obtain ⟨a1, a2⟩ := h.bn i e
  refine ⟨new i ?_ a1, a2⟩
  rcases e with rfl | rfl | rfl | rfl <;> assumption
 ·exact rw_keep h.ws hk (fun h0 k e => (h.wn h0 k e).1)
 ·obtain ⟨a1, a2⟩ := h.wn h0 k e
  exact ⟨new k (Nat.lt_of_lt_of_le a2 hs) a1, a2⟩
 ·obtain ⟨a1, a2⟩ := h.rn k e
  exact ⟨new k (World.ownsRow.lt h.row k e).2 a1, a2⟩
theorem ly_row {B p pm hb : Nat} {t0 t : Tr} {m : Mm} {w W W' : World} {b6 b7 b8 b9 : Nat} {c n sp sl mp ml : Int} {v : Value} {L : List Wr} {C : Kv Cv} {kv : Value} {K : List (List UInt8)} {kv' : Value} {K' : List (List UInt8)} (h : Lz B p pm hb t0 m w b6 b7 b8 b9 c n sp sl mp ml v L C kv K t W) (ho : W'.ownsRow w.heap.size 9 1 kv' K'.length (kc K')) (hg : W.grownBy W' kv.ownBlock) (hat : kv'.ownBlock = kv.ownBlock ∨ kv'.ownBlock = some W.heap.size) : Lz B p pm hb t0 m w b6 b7 b8 b9 c n sp sl mp ml v L C kv' K' t W' := by
 have hk := grown_kept hg
 have hrl : ∀ k, kv.ownBlock = some k → w.heap.size ≤ k ∧ k < W.heap.size := fun k e => World.ownsRow.lt h.row k e
 have hs := h.kp.size
 have hft : ∀ i, footT p pm hb t m i → ¬ kv.ownBlock = some i := fun i hi e => by
  have h3 := (hrl i e).1
  rcases hi with e2 | e2 | e2 | e2
  ·have := h.old i (.inl e2); omega
  ·have := h.old i (.inr (.inl e2)); omega
  ·exact (h.rn i e).1 e2
  ·have := h.old i (.inr (.inr e2)); omega
 have hbx : ∀ i, (i = b6 ∨ i = b7 ∨ i = b8 ∨ i = b9) → ¬ kv.ownBlock = some i := fun i hi e => (h.rn i e).2 hi
 have hfl : ∀ i, foot8 pm t i → i < W.heap.size := fun i hi => (h.tx.lt (.inr (.inr (.inl hi)))).2
 have l6 := (Array.getElem?_eq_some_iff.1 h.k6).1
 have l7 := (Array.getElem?_eq_some_iff.1 h.k7).1
 have l8 := (Array.getElem?_eq_some_iff.1 h.k8).1
 have l9 := (Array.getElem?_eq_some_iff.1 h.k9).1
 refine ⟨h.tx.kept hk hft, h.el, h.sub, h.kp.trans hk (fun i e => .inr (hrl i e).1), ?_, ?_, ?_, ?_, h.bn, rw_keep h.ws hk (fun h0 k e e2 => ?_), h.wn, ho, fun k e => ?_, h.old⟩
 ·rw [hk.block _ l6 (hbx _ (.inl rfl))]; exact h.k6
 ·rw [hk.block _ l7 (hbx _ (.inr (.inl rfl)))]; exact h.k7
 ·rw [hk.block _ l8 (hbx _ (.inr (.inr (.inl rfl))))]; exact h.k8
 ·rw [hk.block _ l9 (hbx _ (.inr (.inr (.inr rfl))))]; exact h.k9
 ·have := (h.wn h0 k e).2
  have := (hrl k e2).1
  omega
 ·rcases hat with e2 | e2
  ·rw [e2] at e
   exact h.rn k e
  ·rw [e2] at e
   injection e with e
   refine ⟨fun e3 => by have := hfl k e3; omega, fun e3 => ?_⟩
   rcases e3 with e3 | e3 | e3 | e3 <;> omega
theorem lz_start {B p pm hb : Nat} {t : Tr} {m : Mm} {w W : World} {b6 b7 b8 b9 : Nat} {c n sp sl mp ml : Int} {v : Value} {L : List Wr} (h0 : Tx B p pm hb t m w) (h : L4 B p pm hb t m w b6 b7 b8 b9 c n sp sl mp ml W) (hb4 : w.heap.size ≤ b6 ∧ w.heap.size ≤ b7 ∧ w.heap.size ≤ b8 ∧ w.heap.size ≤ b9) (hv : WsAt w.heap.size v L w) (hn : 0 < L.length → ∀ k, v.ownBlock = some k → ¬ footT p pm hb t m k) :
  Lz B p pm hb t m w b6 b7 b8 b9 c n sp sl mp ml v L t.toL (.slice none 0 0) [] t W := by
 have hlt : ∀ i, footT p pm hb t m i → i < w.heap.size := fun i hi => (h0.lt hi).2
 refine ⟨h.tx, rfl, fun i e => .inl e, Kept.of_below h.bel, h.k6, h.k7, h.k8, h.k9, fun i e => ?_, RwAt.le (hv.on h.bel) h.bel.size, fun hp k e => ?_, own_nil _ _ _ _, fun k e => (by cases e), fun i e => hlt i ?_⟩
 ·have hi : w.heap.size ≤ i := by rcases e with rfl | rfl | rfl | rfl <;> omega
  exact ⟨fun e2 => by have := hlt i (.inr (.inr (.inl e2))); omega, hi⟩
 ·refine ⟨fun e2 => hn hp k e (.inr (.inr (.inl e2))), ?_⟩
  obtain ⟨ao, cap, rfl, _, h2, _, h3⟩ := hv
  obtain ⟨b, off, rfl, h4, _⟩ := h3 (by omega)
  injection e with e
  simp only at e
  rw [← e]
  exact h4 hp
 ·rcases e with e | e | e
  ·exact .inl e
  ·exact .inr (.inl e)
  ·exact .inr (.inr (.inr e))
theorem lz_end {B p pm hb : Nat} {t0 t : Tr} {m : Mm} {w W W1 : World} {b6 b7 b8 b9 : Nat} {c n sp sl mp ml : Int} {v : Value} {L : List Wr} {C : Kv Cv} {g cap nK : Nat} {K : List (List UInt8)} (prim : List UInt8) (hnK : K.length = nK) {T' : Tb} (h : Lz B p pm hb t0 m w b6 b7 b8 b9 c n sp sl mp ml v L C (.slice (some ⟨g, 0, none⟩) nK cap) K t W) (hk : Kept (fun i => i = g) W W1) (hrow : RwAt W1.heap.size 1 (.slice (some ⟨g, 0, none⟩) nK cap) nK (kc (srtK K)) W1) (htg : ∃ cs, W1.heap[g]? = some (.cells cs 9 (0, 0))) (hp : 0 < nK) (hB : B ≤ w.heap.size) (hr : Rel C (setM (c, n) ⟨sp, sl, mp, ml, prim, (some ⟨g, 0, none⟩, nK, cap), srtK K⟩ m) T') :
  W1.heap[b6]? = some (.cells #[.pointer (some ⟨p, 0, none⟩)] 117 (0, 0)) ∧ W1.heap[b7]? = some (.cells #[.int .u32 c, .int .u32 n] 30 (0, 0)) ∧ W1.heap[b8]? = some (.cells #[.int .u64 sp, .int .u32 sl] 32 (0, 0)) ∧ W1.heap[b9]? = some (.cells #[.int .u64 mp, .int .u32 ml] 32 (0, 0)) ∧ W1.cell? ⟨p, 1, none⟩ = some (.map (some hb)) ∧ ∃ w', (Instr.mapUpdate 169 (.map (some hb)) (.agg #[.int .u32 c, .int .u32 n]) (.agg #[.int .u64 sp, .int .u32 sl, .int .u64 mp, .int .u32 ml, .string (bs prim), .slice (some ⟨g, 0, none⟩) nK cap])).run Tryz.prog W1.drew = .ok () w' ∧ ∃ M', TabAt B p M' T' w' ∧ Kept (footT p pm hb t0 m) w w' ∧ ∀ i, M' i → footT p pm hb t0 m i ∨ w.heap.size ≤ i := by
 subst hnK
 have hgl := World.ownsRow.lt h.row g rfl
 have hrn := h.rn g rfl
 have l6 := (Array.getElem?_eq_some_iff.1 h.k6).1
 have l7 := (Array.getElem?_eq_some_iff.1 h.k7).1
 have l8 := (Array.getElem?_eq_some_iff.1 h.k8).1
 have l9 := (Array.getElem?_eq_some_iff.1 h.k9).1
 have hold : ∀ i, (i = p ∨ i = hb ∨ ∃ x ∈ m, (svV x.2).ownBlock = some i) → i ≠ g := fun i e e2 => by have := h.old i e; omega
 have tx1 : Tx B p pm hb t m W1 := h.tx.kept hk (fun i hi e => by
  rcases hi with e2 | e2 | e2 | e2
  ·exact hold i (.inl e2) e
  ·exact hold i (.inr (.inl e2)) e
  ·exact hrn.1 (e ▸ e2)
  ·exact hold i (.inr (.inr e2)) e)
 have txd : Tx B p pm hb t m W1.drew := tx1.on (Below.refl _ _).drew
 obtain ⟨w', hrun, hgm, hku⟩ := run_upd txd.gm (c, n) ⟨sp, sl, mp, ml, prim, (some ⟨g, 0, none⟩, K.length, cap), srtK K⟩
 refine ⟨by rw [hk.block _ l6 (fun e => hrn.2 (.inl e.symm))]; exact h.k6, by rw [hk.block _ l7 (fun e => hrn.2 (.inr (.inl e.symm)))]; exact h.k7, by rw [hk.block _ l8 (fun e => hrn.2 (.inr (.inr (.inl e.symm))))]; exact h.k8, by rw [hk.block _ l9 (fun e => hrn.2 (.inr (.inr (.inr e.symm))))]; exact h.k9, tx1.cells.2, w', hrun, footT p pm hb t (setM (c, n) ⟨sp, sl, mp, ml, prim, (some ⟨g, 0, none⟩, K.length, cap), srtK K⟩ m), ⟨pm, hb, t, _, txd.terms hgm hku (fun x hx => ?_), by rw [h.el]; exact hr, rfl⟩, (h.kp.trans hk (fun i e => .inr (by rw [e]; exact hgl.1))).trans (Kept.trans (F := fun i => i = hb) (Kept.of_below (Below.refl W1.heap.size W1).drew) hku (fun i e => .inl e)) (fun i e => .inl (.inr (.inl e))), footT_sub h.sub (fun x hx i e => ?_)⟩
 ·rcases mem_setM hx with rfl | e
  ·refine .inr ⟨?_, by show 0 < (srtK K).length; rw [srtK_len]; exact hp, fun i e => ?_, fun i e => ?_⟩
   ·show RwAt W1.drew.heap.size 1 (.slice (some ⟨g, 0, none⟩) K.length cap) (srtK K).length (kc (srtK K)) W1.drew
    rw [srtK_len]
    exact hrow
   ·injection e with e
    simp only at e
    subst e
    exact ⟨fun e2 => hold _ (.inl e2) rfl, fun e2 => hrn.1 (.inl e2), fun e2 => hold _ (.inr (.inl e2)) rfl, fun e2 => hrn.1 (.inr e2), Nat.le_trans hB hgl.1, Nat.lt_of_lt_of_le hgl.2 hk.size⟩
   ·injection e with e
    simp only at e
    subst e
    exact htg
  ·exact .inl ⟨x, e, rfl, rfl⟩
 ·rcases mem_setM hx with rfl | e2
  ·injection e with e
   simp only at e
   exact .inr (by rw [← e]; exact hgl.1)
  ·exact .inl ⟨x, e2, e⟩
end Go.Proofs.YtajjnmdomabmkaaGreat.Lat
