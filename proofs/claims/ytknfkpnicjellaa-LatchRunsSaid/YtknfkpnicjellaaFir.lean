/-
  LatchFirst, walked.
-/
import Derived.Test.YtknfkpnicjellaaWho
namespace Go.Proofs.Ytknfkpnicjellaa
open Go.RowKit
variable {TA : Nat → Nat → (Nat → Prop) → Tb → World → Prop}

theorem has_take {L : List (Int × Int)} {m : Nat} {c n : Int} (h : m < L.length) : (L.take (m + 1)).contains (c, n) = ((L.take m).contains (c, n) || ((L.getD m dtx).1 == c && (L.getD m dtx).2 == n)) := by
  rw [List.take_succ_eq_append_getElem h, show L.getD m dtx = L[m] from by simp [List.getD, h]]
  generalize L[m] = x
  obtain ⟨a, b⟩ := x
  generalize L.take m = K
  rw [Bool.eq_iff_iff]
  simp only [List.contains_iff_mem, List.mem_append, List.mem_singleton, Prod.mk.injEq, Bool.or_eq_true, Bool.and_eq_true, beq_iff_eq]
  constructor
  · rintro (h | ⟨rfl, rfl⟩)
    · exact .inl h
    · exact .inr ⟨rfl, rfl⟩
  · rintro (h | ⟨rfl, rfl⟩)
    · exact .inl h
    · exact .inr ⟨rfl, rfl⟩
/-- An intent in a box. -/
def ibx (x : List UInt8 × Ii) : Obj := .cells #[.int .u32 x.2.c, .int .u32 x.2.n, .int .u64 x.2.sp, .int .u32 x.2.sl, .int .u64 x.2.mp, .int .u32 x.2.ml, .string (bs x.2.prim), .string (bs x.1), .string (bs x.2.val), .bool x.2.dead] 49 (0, 0)
theorem in_box {w : World} {bx : Nat} {x : List UInt8 × Ii} (h : w.heap[bx]? = some (ibx x)) : InAt w bx 0 x := ⟨block_cell h rfl, block_cell h rfl, block_cell h rfl, block_cell h rfl, block_cell h rfl, block_cell h rfl, block_cell h rfl, block_cell h rfl, block_cell h rfl, block_cell h rfl⟩
theorem is_kept {W W' : World} {bw : Nat} {v : Value} {T : Tb} (h : IsAt W.heap.size v T W) (hk : Kept (fun i => i = bw) W W') (hn : ∀ k, v.ownBlock = some k → k ≠ bw) : IsAt W'.heap.size v T W' := by
  obtain ⟨ao, cap, rfl, h1, h2, h3, h4⟩ := h
  refine ⟨ao, cap, rfl, h1, h2, h3, fun h0 => ?_⟩
  obtain ⟨b, off, rfl, h5, h6⟩ := h4 h0
  exact ⟨b, off, rfl, fun h9 => Nat.lt_of_lt_of_le (h5 h9) hk.size, fun j u hj => hk.cell (h6 j u hj) (fun e => hn b rfl e)⟩
/-- Ten cells written. -/
theorem ten_box {W : World} {b : Nat} (x y : List UInt8 × Ii) (h : W.heap[b]? = some (ibx y)) : ((((((((((W.setCell ⟨b, 0, none⟩ (.int .u32 x.2.c)).setCell ⟨b, 1, none⟩ (.int .u32 x.2.n)).setCell ⟨b, 2, none⟩ (.int .u64 x.2.sp)).setCell ⟨b, 3, none⟩ (.int .u32 x.2.sl)).setCell ⟨b, 4, none⟩ (.int .u64 x.2.mp)).setCell ⟨b, 5, none⟩ (.int .u32 x.2.ml)).setCell ⟨b, 6, none⟩ (.string (bs x.2.prim))).setCell ⟨b, 7, none⟩ (.string (bs x.1))).setCell ⟨b, 8, none⟩ (.string (bs x.2.val))).setCell ⟨b, 9, none⟩ (.bool x.2.dead)).heap[b]? = some (ibx x) := by
  have h0 : W.heap[b]? = some (.cells #[.int .u32 y.2.c, .int .u32 y.2.n, .int .u64 y.2.sp, .int .u32 y.2.sl, .int .u64 y.2.mp, .int .u32 y.2.ml, .string (bs y.2.prim), .string (bs y.1), .string (bs y.2.val), .bool y.2.dead] 49 (0, 0)) := h
  have h1 : (W.setCell ⟨b, 0, none⟩ (.int .u32 x.2.c)).heap[b]? = some (.cells #[.int .u32 x.2.c, .int .u32 y.2.n, .int .u64 y.2.sp, .int .u32 y.2.sl, .int .u64 y.2.mp, .int .u32 y.2.ml, .string (bs y.2.prim), .string (bs y.1), .string (bs y.2.val), .bool y.2.dead] 49 (0, 0)) := block_set _ h0
  generalize W.setCell ⟨b, 0, none⟩ (.int .u32 x.2.c) = W1 at *
  have h2 : (W1.setCell ⟨b, 1, none⟩ (.int .u32 x.2.n)).heap[b]? = some (.cells #[.int .u32 x.2.c, .int .u32 x.2.n, .int .u64 y.2.sp, .int .u32 y.2.sl, .int .u64 y.2.mp, .int .u32 y.2.ml, .string (bs y.2.prim), .string (bs y.1), .string (bs y.2.val), .bool y.2.dead] 49 (0, 0)) := block_set _ h1
  generalize W1.setCell ⟨b, 1, none⟩ (.int .u32 x.2.n) = W2 at *
  have h3 : (W2.setCell ⟨b, 2, none⟩ (.int .u64 x.2.sp)).heap[b]? = some (.cells #[.int .u32 x.2.c, .int .u32 x.2.n, .int .u64 x.2.sp, .int .u32 y.2.sl, .int .u64 y.2.mp, .int .u32 y.2.ml, .string (bs y.2.prim), .string (bs y.1), .string (bs y.2.val), .bool y.2.dead] 49 (0, 0)) := block_set _ h2
  generalize W2.setCell ⟨b, 2, none⟩ (.int .u64 x.2.sp) = W3 at *
  have h4 : (W3.setCell ⟨b, 3, none⟩ (.int .u32 x.2.sl)).heap[b]? = some (.cells #[.int .u32 x.2.c, .int .u32 x.2.n, .int .u64 x.2.sp, .int .u32 x.2.sl, .int .u64 y.2.mp, .int .u32 y.2.ml, .string (bs y.2.prim), .string (bs y.1), .string (bs y.2.val), .bool y.2.dead] 49 (0, 0)) := block_set _ h3
  generalize W3.setCell ⟨b, 3, none⟩ (.int .u32 x.2.sl) = W4 at *
  have h5 : (W4.setCell ⟨b, 4, none⟩ (.int .u64 x.2.mp)).heap[b]? = some (.cells #[.int .u32 x.2.c, .int .u32 x.2.n, .int .u64 x.2.sp, .int .u32 x.2.sl, .int .u64 x.2.mp, .int .u32 y.2.ml, .string (bs y.2.prim), .string (bs y.1), .string (bs y.2.val), .bool y.2.dead] 49 (0, 0)) := block_set _ h4
  generalize W4.setCell ⟨b, 4, none⟩ (.int .u64 x.2.mp) = W5 at *
  have h6 : (W5.setCell ⟨b, 5, none⟩ (.int .u32 x.2.ml)).heap[b]? = some (.cells #[.int .u32 x.2.c, .int .u32 x.2.n, .int .u64 x.2.sp, .int .u32 x.2.sl, .int .u64 x.2.mp, .int .u32 x.2.ml, .string (bs y.2.prim), .string (bs y.1), .string (bs y.2.val), .bool y.2.dead] 49 (0, 0)) := block_set _ h5
  generalize W5.setCell ⟨b, 5, none⟩ (.int .u32 x.2.ml) = W6 at *
  have h7 : (W6.setCell ⟨b, 6, none⟩ (.string (bs x.2.prim))).heap[b]? = some (.cells #[.int .u32 x.2.c, .int .u32 x.2.n, .int .u64 x.2.sp, .int .u32 x.2.sl, .int .u64 x.2.mp, .int .u32 x.2.ml, .string (bs x.2.prim), .string (bs y.1), .string (bs y.2.val), .bool y.2.dead] 49 (0, 0)) := block_set _ h6
  generalize W6.setCell ⟨b, 6, none⟩ (.string (bs x.2.prim)) = W7 at *
  have h8 : (W7.setCell ⟨b, 7, none⟩ (.string (bs x.1))).heap[b]? = some (.cells #[.int .u32 x.2.c, .int .u32 x.2.n, .int .u64 x.2.sp, .int .u32 x.2.sl, .int .u64 x.2.mp, .int .u32 x.2.ml, .string (bs x.2.prim), .string (bs x.1), .string (bs y.2.val), .bool y.2.dead] 49 (0, 0)) := block_set _ h7
  generalize W7.setCell ⟨b, 7, none⟩ (.string (bs x.1)) = W8 at *
  have h9 : (W8.setCell ⟨b, 8, none⟩ (.string (bs x.2.val))).heap[b]? = some (.cells #[.int .u32 x.2.c, .int .u32 x.2.n, .int .u64 x.2.sp, .int .u32 x.2.sl, .int .u64 x.2.mp, .int .u32 x.2.ml, .string (bs x.2.prim), .string (bs x.1), .string (bs x.2.val), .bool y.2.dead] 49 (0, 0)) := block_set _ h8
  generalize W8.setCell ⟨b, 8, none⟩ (.string (bs x.2.val)) = W9 at *
  have h10 : (W9.setCell ⟨b, 9, none⟩ (.bool x.2.dead)).heap[b]? = some (.cells #[.int .u32 x.2.c, .int .u32 x.2.n, .int .u64 x.2.sp, .int .u32 x.2.sl, .int .u64 x.2.mp, .int .u32 x.2.ml, .string (bs x.2.prim), .string (bs x.1), .string (bs x.2.val), .bool x.2.dead] 49 (0, 0)) := block_set _ h9
  exact h10
theorem ten_kept {W : World} {b : Nat} (x : List UInt8 × Ii) : Kept (fun i => i = b) W ((((((((((W.setCell ⟨b, 0, none⟩ (.int .u32 x.2.c)).setCell ⟨b, 1, none⟩ (.int .u32 x.2.n)).setCell ⟨b, 2, none⟩ (.int .u64 x.2.sp)).setCell ⟨b, 3, none⟩ (.int .u32 x.2.sl)).setCell ⟨b, 4, none⟩ (.int .u64 x.2.mp)).setCell ⟨b, 5, none⟩ (.int .u32 x.2.ml)).setCell ⟨b, 6, none⟩ (.string (bs x.2.prim))).setCell ⟨b, 7, none⟩ (.string (bs x.1))).setCell ⟨b, 8, none⟩ (.string (bs x.2.val))).setCell ⟨b, 9, none⟩ (.bool x.2.dead)) :=
  have s := fun (V : World) j u => set_kept' V b j u
  have t := fun {a b' c : World} (h : Kept (fun i => i = b) a b') (k : Kept (fun i => i = b) b' c) => h.trans k (fun _ e => .inl e)
  t (t (t (t (t (t (t (t (t (s _ _ _) (s _ _ _)) (s _ _ _)) (s _ _ _)) (s _ _ _)) (s _ _ _)) (s _ _ _)) (s _ _ _)) (s _ _ _)) (s _ _ _)

/-- The table, the question's box, the wanted one's, all intents in a row. -/
structure Fw (TA : Nat → Nat → (Nat → Prop) → Tb → World → Prop) (w : World) (p : Nat) (T : Tb) (q : Ac) (bq bw : Nat) (v : Value) (y : List UInt8 × Ii) (W : World) : Prop where
  pz : Pz TA w p T (fun k => k = bq ∨ k = bw) W
  b0 : W.heap[bq]? = some (abx q)
  b1 : W.heap[bw]? = some (ibx y)
  is : IsAt W.heap.size v T W
  ne : ∀ k, v.ownBlock = some k → k ≠ bw
  low : w.heap.size ≤ bw
  lowq : w.heap.size ≤ bq
  nq : bq ≠ bw
theorem Fw.on (I : Ifl TA) {w W W' : World} {p bq bw : Nat} {T : Tb} {q : Ac} {v : Value} {y : List UInt8 × Ii} (h : Fw TA w p T q bq bw v y W) (hb : Below W.heap.size W W') : Fw TA w p T q bq bw v y W' :=
  ⟨h.pz.on I hb, by rw [hb.block _ (Array.getElem?_eq_some_iff.1 h.b0).1]; exact h.b0, by rw [hb.block _ (Array.getElem?_eq_some_iff.1 h.b1).1]; exact h.b1, RwAt.le (RwAt.on h.is hb) hb.size, h.ne, h.low, h.lowq, h.nq⟩
theorem Fw.put (I : Ifl TA) {w W : World} {p bq bw : Nat} {T : Tb} {q : Ac} {v : Value} {y : List UInt8 × Ii} (h : Fw TA w p T q bq bw v y W) (x : List UInt8 × Ii) : Fw TA w p T q bq bw v x ((((((((((W.setCell ⟨bw, 0, none⟩ (.int .u32 x.2.c)).setCell ⟨bw, 1, none⟩ (.int .u32 x.2.n)).setCell ⟨bw, 2, none⟩ (.int .u64 x.2.sp)).setCell ⟨bw, 3, none⟩ (.int .u32 x.2.sl)).setCell ⟨bw, 4, none⟩ (.int .u64 x.2.mp)).setCell ⟨bw, 5, none⟩ (.int .u32 x.2.ml)).setCell ⟨bw, 6, none⟩ (.string (bs x.2.prim))).setCell ⟨bw, 7, none⟩ (.string (bs x.1))).setCell ⟨bw, 8, none⟩ (.string (bs x.2.val))).setCell ⟨bw, 9, none⟩ (.bool x.2.dead)) := by
  have hk := ten_kept (W := W) (b := bw) x
  have hF : Kept (fun k => k = bq ∨ k = bw) W _ := ⟨hk.os, hk.tape, hk.output, hk.size, fun i hi hn => hk.block i hi (fun e => hn (.inr e))⟩
  exact ⟨h.pz.own I hF (fun k e => by rcases e with e | e; exact e ▸ h.lowq; exact e ▸ h.low), by rw [hk.block _ (Array.getElem?_eq_some_iff.1 h.b0).1 h.nq]; exact h.b0, ten_box x y h.b1, is_kept h.is hk h.ne, h.ne, h.low, h.lowq, h.nq⟩
theorem Fw.el {w W : World} {p bq bw : Nat} {T : Tb} {q : Ac} {ao : Option Addr} {cap : Nat} {y : List UInt8 × Ii} (h : Fw TA w p T q bq bw (.slice ao T.length cap) y W) {i : Nat} (hi : i < T.length) : ∃ b off, ao = some ⟨b, off, none⟩ ∧ InAt W b (off + i * 10) (T.getD i di) := IsAt.el h.is hi

/-- Lay in LatchFirst: another act's. -/
theorem pq_lay (I : Ifl TA) {w W : World} {p bq : Nat} {T : Tb} {q a : Ac} {B : Nat} (h : Pa TA w p T q bq W) (hl : T.length < 8900) (ha : AcOk B a w) (hB : B ≤ w.heap.size) : Calls Try.prog 10 #[.pointer (some ⟨p, 0, none⟩), .agg #[.int .u32 a.c, .int .u32 a.n], .agg #[.int .u64 a.sp, .int .u32 a.sl], .agg #[.int .u64 a.mp, .int .u32 a.ml], .string (bs a.prim), .slice a.wa a.ws.length a.wc] W fun e w' => e = .returned (.int .i64 (layA a T).2) ∧ Pa TA w p (layA a T).1 q bq w' := by
  have hv := ha.ws.on (h.pz.bel.mono hB)
  refine (pz_lay I a.c a.n a.sp a.sl a.mp a.ml a.prim a.ws _ h.pz hl (RwAt.le hv (Nat.le_trans hB h.pz.bel.size)) (fun h0 k hk => .inl ?_) ha.st).mono ?_
  · obtain ⟨ao, cap, e, _, h1, _, h3⟩ := hv
    obtain ⟨b, off, e2, h4, _⟩ := h3 (by omega)
    simp only [Value.slice.injEq] at e
    rw [e.1, e2] at hk
    injection hk with hk
    have := h4 h0
    simp only at hk
    omega
  rintro e w' ⟨rfl, h1, h2⟩
  exact ⟨rfl, h1, h2.block (.inl rfl) h.b0⟩
/-- The key ahead of the m-th. -/
def lastK (T : Tb) (m : Nat) : List UInt8 := if m = 0 then [] else (T.getD (m - 1) di).1
theorem last_rises {T : Tb} (h : TOk T) {m : Nat} (hm : m < T.length) : ltK (lastK T m) (T.getD m di).1 = true := by
  unfold lastK
  by_cases e : m = 0
  · subst e
    rw [if_pos rfl]
    have hk := h.keys _ (getD_memT hm)
    generalize (T.getD 0 di).1 = k at *
    cases k with
    | nil => simp [kOk] at hk
    | cons a r => rfl
  · rw [if_neg e]
    have := key_rises h (m := m - 1) (by omega)
    rwa [show m - 1 + 1 = m from by omega] at this
def wantN (q : Ac) (T : Tb) (m : Nat) : Option (List UInt8 × Ii) := firstN (standsB q.lo q.hi q.mp q.ml q.but) T m
end Go.Proofs.Ytknfkpnicjellaa
