/-
  LatchHolds: what it holds on to.
-/
import Derived.Test.YtknfkpnicjellaaFirw
namespace Go.Proofs.Ytknfkpnicjellaa
open Go.RowKit
variable {TA : Nat → Nat → (Nat → Prop) → Tb → World → Prop}

/-- The table, my own name's box, the least stamp's. -/
structure Ph (TA : Nat → Nat → (Nat → Prop) → Tb → World → Prop) (w : World) (p : Nat) (T : Tb) (b6 b7 : Nat) (l1 l2 : Int) (W : World) : Prop where
  pz : Pz TA w p T (fun k => k = b6 ∨ k = b7) W
  m6 : W.heap[b6]? = some (.cells #[.int .u32 77, .int .u32 7] 32 (0, 0))
  m7 : W.heap[b7]? = some (.cells #[.int .u64 l1, .int .u32 l2] 35 (0, 0))
  low6 : w.heap.size ≤ b6
  low7 : w.heap.size ≤ b7
  ne : b6 ≠ b7
theorem Ph.on (I : Ifl TA) {w W W' : World} {p b6 b7 : Nat} {T : Tb} {l1 l2 : Int} (h : Ph TA w p T b6 b7 l1 l2 W) (hb : Below W.heap.size W W') : Ph TA w p T b6 b7 l1 l2 W' :=
  ⟨h.pz.on I hb, by rw [hb.block _ (Array.getElem?_eq_some_iff.1 h.m6).1]; exact h.m6, by rw [hb.block _ (Array.getElem?_eq_some_iff.1 h.m7).1]; exact h.m7, h.low6, h.low7, h.ne⟩
theorem Ph.step {w W W' : World} {p b6 b7 : Nat} {T T' : Tb} {l1 l2 : Int} (h : Ph TA w p T b6 b7 l1 l2 W) (h1 : Pz TA w p T' (fun k => k = b6 ∨ k = b7) W') (hk : Kp (fun k => k = b6 ∨ k = b7) w W W') : Ph TA w p T' b6 b7 l1 l2 W' :=
  ⟨h1, hk.block (.inl (.inl rfl)) h.m6, hk.block (.inl (.inr rfl)) h.m7, h.low6, h.low7, h.ne⟩
theorem Ph.four {w W : World} {p b6 b7 : Nat} {T : Tb} {l1 l2 : Int} (h : Ph TA w p T b6 b7 l1 l2 W) : W.cell? ⟨b6, 0, none⟩ = some (.int .u32 77) ∧ W.cell? ⟨b6, 1, none⟩ = some (.int .u32 7) ∧ W.cell? ⟨b7, 0, none⟩ = some (.int .u64 l1) ∧ W.cell? ⟨b7, 1, none⟩ = some (.int .u32 l2) ∧ W.frozen? ⟨b7, 0, none⟩ = false ∧ W.frozen? ⟨b7, 1, none⟩ = false :=
  ⟨block_cell h.m6 rfl, block_cell h.m6 rfl, block_cell h.m7 rfl, block_cell h.m7 rfl, block_frozen h.m7 _, block_frozen h.m7 _⟩
theorem Ph.put (I : Ifl TA) {w W : World} {p b6 b7 : Nat} {T : Tb} {l1 l2 : Int} (h : Ph TA w p T b6 b7 l1 l2 W) (x y : Int) : Ph TA w p T b6 b7 x y ((W.setCell ⟨b7, 0, none⟩ (.int .u64 x)).setCell ⟨b7, 1, none⟩ (.int .u32 y)) := by
  have k1 := set_kept' W b7 0 (.int .u64 x)
  have k2 := set_kept' (W.setCell ⟨b7, 0, none⟩ (.int .u64 x)) b7 1 (.int .u32 y)
  have kk := k1.trans k2 (fun i e => .inl e)
  have hF : Kept (fun k => k = b6 ∨ k = b7) W _ := ⟨kk.os, kk.tape, kk.output, kk.size, fun i hi hn => kk.block i hi (fun e => hn (.inr e))⟩
  exact ⟨h.pz.own I hF (fun k e => by rcases e with e | e; exact e ▸ h.low6; exact e ▸ h.low7), by rw [kk.block _ (Array.getElem?_eq_some_iff.1 h.m6).1 h.ne]; exact h.m6, block_set _ (block_set _ h.m7), h.low6, h.low7, h.ne⟩
theorem ws_old {B : Nat} {w W : World} {v : Value} {L : List Wr} (hv : WsAt B v L w) (hB : B ≤ w.heap.size) (hb : Below w.heap.size w W) {F : Nat → Prop} : WsAt W.heap.size v L W ∧ (0 < L.length → ∀ k, v.ownBlock = some k → k < w.heap.size ∨ F k) := by
  have h1 := hv.on (hb.mono hB)
  refine ⟨RwAt.le h1 (Nat.le_trans hB hb.size), fun h0 k hk => .inl ?_⟩
  obtain ⟨ao, cap, rfl, _, h2, _, h3⟩ := hv
  obtain ⟨b, off, rfl, h4, _⟩ := h3 (by omega)
  injection hk with hk
  have := h4 h0
  simp only at hk
  omega
theorem ph_lay (I : Ifl TA) {w W : World} {p b6 b7 : Nat} {T : Tb} {l1 l2 : Int} {B : Nat} {v : Value} {L : List Wr} (c n sp sl mp ml : Int) (prim : List UInt8) (h : Ph TA w p T b6 b7 l1 l2 W) (hl : T.length < 8900) (hv : WsAt B v L w) (hB : B ≤ w.heap.size) (h0 : 0 ≤ mp ∧ 0 ≤ ml) : Calls Try.prog 10 #[.pointer (some ⟨p, 0, none⟩), .agg #[.int .u32 c, .int .u32 n], .agg #[.int .u64 sp, .int .u32 sl], .agg #[.int .u64 mp, .int .u32 ml], .string (bs prim), v] W fun e w' => e = .returned (.int .i64 (layF (rightB sp sl && rightB mp ml && kOk prim) c n sp sl mp ml prim L T).2) ∧ Ph TA w p (layF (rightB sp sl && rightB mp ml && kOk prim) c n sp sl mp ml prim L T).1 b6 b7 l1 l2 w' := by
  obtain ⟨h1, h2⟩ := ws_old (F := fun k => k = b6 ∨ k = b7) hv hB h.pz.bel
  refine (pz_lay I c n sp sl mp ml prim L v h.pz hl h1 h2 h0).mono ?_
  rintro e w' ⟨rfl, h3, h4⟩
  exact ⟨rfl, h.step h3 h4⟩
theorem ph_cut (I : Ifl TA) {w W : World} {p b6 b7 : Nat} {T : Tb} {l1 l2 : Int} (c n : Int) (h : Ph TA w p T b6 b7 l1 l2 W) : Calls Try.prog 13 #[.pointer (some ⟨p, 0, none⟩), .agg #[.int .u32 c, .int .u32 n]] W fun e w' => ∃ ya yc, e = .returned (.slice ya (byF c n T).length yc) ∧ Ph TA w p (restF c n T) b6 b7 l1 l2 w' := by
  refine (pz_cut I c n h.pz).mono ?_
  rintro e w' ⟨v', rfl, hi, _, h3, h4⟩
  obtain ⟨ya, yc, rfl, _⟩ := hi.shape
  exact ⟨ya, yc, rfl, h.step h3 h4⟩
theorem ph_raise (I : Ifl TA) {w W : World} {p b6 b7 : Nat} {T : Tb} {l1 l2 : Int} (c n mp ml : Int) (h : Ph TA w p T b6 b7 l1 l2 W) (h0 : 0 ≤ mp ∧ 0 ≤ ml) : Calls Try.prog 15 #[.pointer (some ⟨p, 0, none⟩), .agg #[.int .u32 c, .int .u32 n], .agg #[.int .u64 mp, .int .u32 ml]] W fun e w' => ∃ z, e = .returned (.bool z) ∧ Ph TA w p (rseF c n mp ml T) b6 b7 l1 l2 w' := by
  refine (pz_raise I c n mp ml h.pz h0).mono ?_
  rintro e w' ⟨rfl, h3, h4⟩
  exact ⟨_, rfl, h.step h3 h4⟩
theorem ph_by (I : Ifl TA) {w W : World} {p b6 b7 : Nat} {T : Tb} {l1 l2 : Int} (c n : Int) (h : Ph TA w p T b6 b7 l1 l2 W) : Calls Try.prog 21 #[.pointer (some ⟨p, 0, none⟩), .agg #[.int .u32 c, .int .u32 n]] W fun e w' => ∃ ya yc, e = .returned (.slice ya (byF c n T).length yc) ∧ Ph TA w p T b6 b7 l1 l2 w' := by
  refine (pz_by I c n h.pz).mono ?_
  rintro e w' ⟨v', rfl, hi, _, _, hb⟩
  obtain ⟨ya, yc, rfl, _⟩ := hi.shape
  exact ⟨ya, yc, rfl, h.on I hb⟩
theorem ph_of (I : Ifl TA) {w W : World} {p b6 b7 : Nat} {T : Tb} {l1 l2 : Int} (k : List UInt8) (h : Ph TA w p T b6 b7 l1 l2 W) : Calls Try.prog 19 #[.pointer (some ⟨p, 0, none⟩), .string (bs k)] W fun e w' => e = .returned (ofV k (getF k T)) ∧ Ph TA w p T b6 b7 l1 l2 w' ∧ Below W.heap.size W w' := by
  refine (pz_of I k h.pz).mono ?_
  rintro e w' ⟨rfl, _, hb⟩
  exact ⟨rfl, h.on I hb, hb⟩
theorem ltT_trans {a b c d e f : Int} (h1 : ltT a b c d = false) (h2 : ltT c d e f = false) : ltT a b e f = false := by
  simp only [ltT, Bool.or_eq_false_iff, Bool.and_eq_false_iff, decide_eq_false_iff_not] at h1 h2 ⊢
  omega
/-- Mine, whatever befalls. -/
theorem mine_rse {c n sp sl : Int} {prim : List UInt8} {W : List Wr} {mp ml : Int} {T : Tb} (h : Mine c n sp sl prim W mp ml T) (c' n' mp' ml' : Int) : ∃ m1 m2, Mine c n sp sl prim W m1 m2 (rseF c' n' mp' ml' T) ∧ ltT m1 m2 mp ml = false := by
  unfold rseF
  split
  · exact mine_raise h c' n' mp' ml'
  · exact ⟨mp, ml, h, ltT_irrefl _ _⟩
/-- Laid into nothing: refused only where the writes aren't right. -/
theorem lay_first {c n sp sl mp ml : Int} {prim : List UInt8} {L : List Wr} {r : Bool} (hr : r = true) (h : ¬ (layF r c n sp sl mp ml prim L []).2 = 0) : rightW L = false := by
  cases e : rightW L
  · rfl
  · exfalso
    apply h
    unfold layF
    rw [e, hr]
    simp [byF, getF]
theorem run_neq44 (a b : List UInt8) (d : Bool) (w : World) : (binOp .neq 44 (.agg #[.string (bs a), .string (bs b), .bool d]) (.agg #[.string (bs a), .string (bs b), .bool d])).run Try.prog w = .ok (.bool false) w := by
  simp [go_sem]
theorem run_eql44 (a b a' b' : List UInt8) (d d' : Bool) : ∃ z, ∀ w : World, (binOp .eql 44 (.agg #[.string (bs a), .string (bs b), .bool d]) (.agg #[.string (bs a'), .string (bs b'), .bool d'])).run Try.prog w = .ok (.bool z) w := by
  refine ⟨(a == a' && (b == b' && d == d')), fun w => ?_⟩
  have h1 := bs_beq a a'
  have h2 := bs_beq b b'
  cases e1 : (a == a') <;> cases e2 : (b == b') <;> cases d <;> cases d' <;> simp [go_sem, h1, h2, e1, e2]
theorem run_neq35 (p l : Int) (w : World) : (binOp .neq 35 (.agg #[.int .u64 p, .int .u32 l]) (.agg #[.int .u64 p, .int .u32 l])).run Try.prog w = .ok (.bool false) w := by
  simp [go_sem]
end Go.Proofs.Ytknfkpnicjellaa
