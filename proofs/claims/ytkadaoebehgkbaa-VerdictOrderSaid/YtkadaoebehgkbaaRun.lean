/-
  VerdictRuns: both books side by side.
-/
import Derived.Test.YtkadaoebehgkbaaAct
namespace Go.Proofs.Ytkadaoebehgkbaa
open Go.RowKit
variable {BA : Nat → Nat → (Nat → Prop) → Bk → World → Prop}

/-- The program's book has Ka, the document's Kb; F's blocks are the law's own. -/
structure Pr (BA : Nat → Nat → (Nat → Prop) → Bk → World → Prop) (w : World) (p rb : Nat) (Ka Kb : Bk) (F : Nat → Prop) (W : World) : Prop where
  ex : ∃ B sl, Pz BA w p Ka (fun k => F k ∨ foot rb sl k) W ∧ RbAt B rb sl Kb W ∧ w.heap.size ≤ B ∧ ∀ k, foot rb sl k → ¬ F k
theorem Pr.bel {w W : World} {p rb : Nat} {Ka Kb : Bk} {F : Nat → Prop} (h : Pr BA w p rb Ka Kb F W) : Below w.heap.size w W := by
  obtain ⟨B, sl, h1, _⟩ := h.ex
  exact h1.bel
theorem Pr.on (I : Ifv BA) {w W W' : World} {p rb : Nat} {Ka Kb : Bk} {F : Nat → Prop} (h : Pr BA w p rb Ka Kb F W) (hb : Below W.heap.size W W') : Pr BA w p rb Ka Kb F W' := by
  obtain ⟨B, sl, h1, h2, h3⟩ := h.ex
  exact ⟨B, sl, h1.on I hb, h2.on hb, h3⟩
theorem Pr.oks (I : Ifv BA) {w W : World} {p rb : Nat} {Ka Kb : Bk} {F : Nat → Prop} (h : Pr BA w p rb Ka Kb F W) : SrtV Ka := by
  obtain ⟨B, sl, h1, _⟩ := h.ex
  exact h1.ok I
/-- The law's own blocks: others in their place. -/
theorem Pr.more (I : Ifv BA) {w W W' : World} {p rb : Nat} {Ka Kb : Bk} {F G : Nat → Prop} (h : Pr BA w p rb Ka Kb F W) (hb : Below W.heap.size W W') (hG : ∀ k, G k → F k ∨ (W.heap.size ≤ k ∧ k < W'.heap.size)) : Pr BA w p rb Ka Kb G W' := by
  obtain ⟨B, sl, h1, h2, h3, h4⟩ := h.ex
  refine ⟨B, sl, h1.more I hb (fun k hk => ?_), h2.on hb, h3, fun k hk hg => ?_⟩
  · rcases hk with e | e
    · rcases hG k e with e | e
      · exact .inl (.inl e)
      · exact .inr e
    · exact .inl (.inr e)
  · rcases hG k hg with e | e
    · exact h4 k hk e
    · have := (h2.lt hk).2
      omega
theorem Pr.own (I : Ifv BA) {w W W' : World} {p rb : Nat} {Ka Kb : Bk} {F G : Nat → Prop} (h : Pr BA w p rb Ka Kb F W) (hk : Kept G W W') (hG : ∀ k, G k → F k ∧ w.heap.size ≤ k) : Pr BA w p rb Ka Kb F W' := by
  obtain ⟨B, sl, h1, h2, h3, h4⟩ := h.ex
  obtain ⟨B1, M, hm, hB, hM⟩ := h1.ta
  refine ⟨B, sl, ⟨⟨B1, M, I.keep hm hk (fun k e hg => hM k e (.inl (hG k hg).1)), hB, hM⟩, fun k e => Nat.lt_of_lt_of_le (h1.fl k e) hk.size, h1.len, h1.bel.trans (hk.below h1.bel.size (fun k hg => (hG k hg).2))⟩, h2.kept hk (fun k e hg => h4 k e (hG k hg).1), h3, h4⟩
theorem pr_stepP {w W W' : World} {p rb : Nat} {Ka' Kb : Bk} {F : Nat → Prop} {B : Nat} {sl : Value} (h2 : RbAt B rb sl Kb W) (h3 : w.heap.size ≤ B) (h4 : ∀ k, foot rb sl k → ¬ F k) (h1' : Pz BA w p Ka' (fun k => F k ∨ foot rb sl k) W') (hk : Kp (fun k => F k ∨ foot rb sl k) w W W') : Pr BA w p rb Ka' Kb F W' ∧ Kp F w W W' :=
  ⟨⟨B, sl, h1', h2.kept hk (fun _ e hg => hg.1 (.inr e)), h3, h4⟩, hk.mono (fun _ e => .inl e)⟩
theorem pr_stepD (I : Ifv BA) {w W W' : World} {p rb : Nat} {Ka Kb Kb' : Bk} {F : Nat → Prop} {B : Nat} {sl sl' : Value} (h1 : Pz BA w p Ka (fun k => F k ∨ foot rb sl k) W) (h2 : RbAt B rb sl Kb W) (h3 : w.heap.size ≤ B) (h4 : ∀ k, foot rb sl k → ¬ F k) (h2' : RbAt B rb sl' Kb' W') (hk : Kept (foot rb sl) W W') (hn : ∀ i, foot rb sl' i → foot rb sl i ∨ W.heap.size ≤ i) : Pr BA w p rb Ka Kb' F W' ∧ Kp F w W W' := by
  obtain ⟨B1, M, hm, hB, hM⟩ := h1.ta
  have hlo : ∀ k, foot rb sl k → w.heap.size ≤ k := fun k hk => Nat.le_trans h3 (h2.lt hk).1
  refine ⟨⟨B, sl', ⟨⟨B1, M, I.keep hm hk (fun k e hg => hM k e (.inr hg)), hB, fun k e hg => ?_⟩, fun k e => ?_, h1.len, h1.bel.trans (hk.below h1.bel.size hlo)⟩, h2', h3, fun k hk' hf => ?_⟩, ⟨hk.os, hk.tape, hk.output, hk.size, fun i hi hn' => hk.block i hi (fun e => hn' ⟨h4 i e, hlo i e⟩)⟩⟩
  · rcases hg with e' | e'
    · exact hM k e (.inl e')
    · rcases hn k e' with e2 | e2
      · exact hM k e (.inr e2)
      · have := (I.lt hm k e).2
        omega
  · rcases e with e | e
    · exact Nat.lt_of_lt_of_le (h1.fl k (.inl e)) hk.size
    · exact (h2'.lt e).2
  · rcases hn k hk' with e2 | e2
    · exact h4 k e2 hf
    · have := h1.fl k (.inl hf)
      omega
theorem pr_start (I : Ifv BA) {w W : World} {p : Nat} (h : Pz BA w p [] (fun _ => False) W) : Pr BA w p W.heap.size [] [] (fun _ => False) (W.alloc (.cells #[.slice none 0 0] 29)) := by
  refine ⟨W.heap.size, .slice none 0 0, h.more I (al _) (fun k hk => .inr ?_), ⟨heap_alloc_new W _, World.ownsRow_nil _ _ _ _, Nat.le_refl _, by simp [Value.ownBlock], srtV_nil⟩, h.bel.size, fun _ _ h => h⟩
  rcases hk with hk | hk | hk
  · exact hk.elim
  · rw [hk]
    exact ⟨Nat.le_refl _, by simp⟩
  · cases hk
theorem pr_setP (I : Ifv BA) {w W : World} {p rb : Nat} {Ka Kb : Bk} {F : Nat → Prop} (v : Vd) (h : Pr BA w p rb Ka Kb F W) (hl : Ka.length < 8900) (hv : RgV v) : Calls Try.prog 9 #[.pointer (some ⟨p, 0, none⟩), .agg #[.int .u32 v.c, .int .u32 v.n, .int .u64 v.sp, .int .u32 v.sl, .int .u64 v.ap, .int .u32 v.al, .int .u8 v.pt, .bool v.dn]] W fun e w' => e = .returned (.int .i64 (setB v Ka).2) ∧ Pr BA w p rb (setB v Ka).1 Kb F w' ∧ Kp F w W w' := by
  obtain ⟨B, s0, h1, h2, h3, h4⟩ := h.ex
  refine (pz_set I v h1 hl hv).mono ?_
  rintro e w' ⟨rfl, h5, h6⟩
  exact ⟨rfl, pr_stepP h2 h3 h4 h5 h6⟩
theorem pr_setD (I : Ifv BA) {w W : World} {p rb : Nat} {Ka Kb : Bk} {F : Nat → Prop} (v : Vd) (h : Pr BA w p rb Ka Kb F W) (hl : Kb.length < 8900) : Calls Try.prog 10 #[.pointer (some ⟨rb, 0, none⟩), .agg #[.int .u32 v.c, .int .u32 v.n, .int .u64 v.sp, .int .u32 v.sl, .int .u64 v.ap, .int .u32 v.al, .int .u8 v.pt, .bool v.dn]] W fun e w' => e = .returned (.int .i64 (setB v Kb).2) ∧ Pr BA w p rb Ka (setB v Kb).1 F w' ∧ Kp F w W w' := by
  obtain ⟨B, s0, h1, h2, h3, h4⟩ := h.ex
  refine (set10 B rb s0 Kb v W h2 (by omega)).mono ?_
  rintro e w' ⟨rfl, sl', h5, h6, h7⟩
  exact ⟨rfl, pr_stepD I h1 h2 h3 h4 h5 h6 h7⟩
theorem pr_doneP (I : Ifv BA) {w W : World} {p rb : Nat} {Ka Kb : Bk} {F : Nat → Prop} (c n : Int) (h : Pr BA w p rb Ka Kb F W) (hv : R32 c ∧ R32 n) : Calls Try.prog 11 #[.pointer (some ⟨p, 0, none⟩), .agg #[.int .u32 c, .int .u32 n]] W fun e w' => e = .returned (.bool (doneB c n Ka).2) ∧ Pr BA w p rb (doneB c n Ka).1 Kb F w' ∧ Kp F w W w' := by
  obtain ⟨B, s0, h1, h2, h3, h4⟩ := h.ex
  refine (pz_done I c n h1 hv).mono ?_
  rintro e w' ⟨rfl, h5, h6⟩
  exact ⟨rfl, pr_stepP h2 h3 h4 h5 h6⟩
theorem pr_doneD (I : Ifv BA) {w W : World} {p rb : Nat} {Ka Kb : Bk} {F : Nat → Prop} (c n : Int) (h : Pr BA w p rb Ka Kb F W) (hl : Kb.length < 8900) : Calls Try.prog 12 #[.pointer (some ⟨rb, 0, none⟩), .agg #[.int .u32 c, .int .u32 n]] W fun e w' => e = .returned (.bool (doneB c n Kb).2) ∧ Pr BA w p rb Ka (doneB c n Kb).1 F w' ∧ Kp F w W w' := by
  obtain ⟨B, s0, h1, h2, h3, h4⟩ := h.ex
  refine (done12 B rb s0 Kb c n W h2 (by omega)).mono ?_
  rintro e w' ⟨rfl, sl', h5, h6, h7⟩
  exact ⟨rfl, pr_stepD I h1 h2 h3 h4 h5 h6 h7⟩
theorem pr_retP (I : Ifv BA) {w W : World} {p rb : Nat} {Ka Kb : Bk} {F : Nat → Prop} (sp sl : Int) {B0 : Nat} {L : List (Int × Int)} {v : Value} (h : Pr BA w p rb Ka Kb F W) (hs : R64 sp ∧ R32 sl) (hL : RgT L) (hz : L.length * 8 ≤ 140737488355328) (hv : TsAt B0 v L w) (hB : B0 ≤ w.heap.size) (hw : 0 < L.length → ∀ k, v.ownBlock = some k → k < w.heap.size) : Calls Try.prog 13 #[.pointer (some ⟨p, 0, none⟩), .agg #[.int .u64 sp, .int .u32 sl], v] W fun e w' => e = .returned (.int .i64 ((Ka.length - (retB sp sl L Ka).length : Nat) : Int)) ∧ Pr BA w p rb (retB sp sl L Ka) Kb F w' ∧ Kp F w W w' := by
  obtain ⟨B, s0, h1, h2, h3, h4⟩ := h.ex
  refine (pz_retire I sp sl L v h1 hs hL hz (RwAt.le (RwAt.on hv (h1.bel.mono hB)) (Nat.le_trans hB h1.bel.size)) (fun h0 k hk => .inl (hw h0 k hk))).mono ?_
  rintro e w' ⟨rfl, h5, h6⟩
  exact ⟨rfl, pr_stepP h2 h3 h4 h5 h6⟩
theorem pr_retD (I : Ifv BA) {w W : World} {p rb : Nat} {Ka Kb : Bk} {F : Nat → Prop} (sp sl : Int) {B0 : Nat} {L : List (Int × Int)} {v : Value} (h : Pr BA w p rb Ka Kb F W) (hl : Kb.length < 8900) (hv : TsAt B0 v L w) (hB : B0 ≤ w.heap.size) : Calls Try.prog 14 #[.pointer (some ⟨rb, 0, none⟩), .agg #[.int .u64 sp, .int .u32 sl], v] W fun e w' => e = .returned (.int .i64 ((Kb.length - (retB sp sl L Kb).length : Nat) : Int)) ∧ Pr BA w p rb Ka (retB sp sl L Kb) F w' ∧ Kp F w W w' := by
  obtain ⟨B, s0, h1, h2, h3, h4⟩ := h.ex
  refine (retire14 B rb s0 Kb sp sl v L W h2 (by omega) (RwAt.le (RwAt.on hv (h1.bel.mono hB)) (Nat.le_trans hB h1.bel.size))).mono ?_
  rintro e w' ⟨rfl, sl', h5, h6, h7⟩
  exact ⟨rfl, pr_stepD I h1 h2 h3 h4 h5 h6 h7⟩
/-- What only looks. -/
theorem pr_ofP (I : Ifv BA) {w W : World} {p rb : Nat} {Ka Kb : Bk} {F : Nat → Prop} (c n : Int) (h : Pr BA w p rb Ka Kb F W) (hv : R32 c ∧ R32 n) : Calls Try.prog 15 #[.pointer (some ⟨p, 0, none⟩), .agg #[.int .u32 c, .int .u32 n]] W fun e w' => e = .returned (ofV (getB c n Ka)) ∧ Below W.heap.size W w' := by
  obtain ⟨B, s0, h1, _⟩ := h.ex
  refine (pz_of I c n h1 hv).mono ?_
  rintro e w' ⟨rfl, _, hb⟩
  exact ⟨rfl, hb⟩
theorem pr_ofD {w W : World} {p rb : Nat} {Ka Kb : Bk} {F : Nat → Prop} (c n : Int) (h : Pr BA w p rb Ka Kb F W) (hl : Kb.length < 8900) : Calls Try.prog 16 #[.pointer (some ⟨rb, 0, none⟩), .agg #[.int .u32 c, .int .u32 n]] W fun e w' => e = .returned (ofV (getB c n Kb)) ∧ Below W.heap.size W w' := by
  obtain ⟨B, s0, _, h2, _⟩ := h.ex
  exact of16 B rb s0 Kb c n W h2 (by omega)
theorem pr_allP (I : Ifv BA) {w W : World} {p rb : Nat} {Ka Kb : Bk} {F : Nat → Prop} (h : Pr BA w p rb Ka Kb F W) : Calls Try.prog 18 #[.pointer (some ⟨p, 0, none⟩)] W fun e w' => ∃ v', e = .returned v' ∧ VsAt w'.heap.size v' Ka w' ∧ Below W.heap.size W w' := by
  obtain ⟨B, s0, h1, _⟩ := h.ex
  refine (pz_all I h1).mono ?_
  rintro e w' ⟨v', rfl, hi, _, _, hb⟩
  exact ⟨v', rfl, hi, hb⟩
/-- Both books, and an act in its box. -/
structure Rx (BA : Nat → Nat → (Nat → Prop) → Bk → World → Prop) (w : World) (p rb : Nat) (Ka Kb : Bk) (a : Ac) (bx : Nat) (W : World) : Prop where
  pr : Pr BA w p rb Ka Kb (fun k => k = bx) W
  b0 : W.heap[bx]? = some (abx a)
theorem Rx.on (I : Ifv BA) {W' : World} {w W : World} {p rb bx : Nat} {Ka Kb : Bk} {a : Ac} (h : Rx BA w p rb Ka Kb a bx W) (hb : Below W.heap.size W W') : Rx BA w p rb Ka Kb a bx W' := ⟨h.pr.on I hb, by rw [hb.block _ (Array.getElem?_eq_some_iff.1 h.b0).1]; exact h.b0⟩
theorem Rx.dr (I : Ifv BA) {w W : World} {p rb bx : Nat} {Ka Kb : Bk} {a : Ac} (h : Rx BA w p rb Ka Kb a bx W) : Rx BA w p rb Ka Kb a bx W.drew := h.on I (Below.refl _ _).drew
theorem Rx.eight {w W : World} {p rb bx : Nat} {Ka Kb : Bk} {a : Ac} (h : Rx BA w p rb Ka Kb a bx W) : W.cell? ⟨bx, 1, none⟩ = some (.int .u32 a.v.c) ∧ W.cell? ⟨bx, 2, none⟩ = some (.int .u32 a.v.n) ∧ W.cell? ⟨bx, 3, none⟩ = some (.int .u64 a.v.sp) ∧ W.cell? ⟨bx, 4, none⟩ = some (.int .u32 a.v.sl) ∧ W.cell? ⟨bx, 5, none⟩ = some (.int .u64 a.v.ap) ∧ W.cell? ⟨bx, 6, none⟩ = some (.int .u32 a.v.al) ∧ W.cell? ⟨bx, 7, none⟩ = some (.int .u8 a.v.pt) ∧ W.cell? ⟨bx, 8, none⟩ = some (.bool a.v.dn) := ⟨block_cell h.b0 rfl, block_cell h.b0 rfl, block_cell h.b0 rfl, block_cell h.b0 rfl, block_cell h.b0 rfl, block_cell h.b0 rfl, block_cell h.b0 rfl, block_cell h.b0 rfl⟩
theorem Rx.two {w W : World} {p rb bx : Nat} {Ka Kb : Bk} {a : Ac} (h : Rx BA w p rb Ka Kb a bx W) : W.cell? ⟨bx, 1, none⟩ = some (.int .u32 a.v.c) ∧ W.cell? ⟨bx, 2, none⟩ = some (.int .u32 a.v.n) := ⟨block_cell h.b0 rfl, block_cell h.b0 rfl⟩
theorem Rx.three {w W : World} {p rb bx : Nat} {Ka Kb : Bk} {a : Ac} (h : Rx BA w p rb Ka Kb a bx W) : W.cell? ⟨bx, 9, none⟩ = some (.int .u64 a.sp) ∧ W.cell? ⟨bx, 10, none⟩ = some (.int .u32 a.sl) ∧ W.cell? ⟨bx, 11, none⟩ = some (.slice a.ka a.keep.length a.kc) := ⟨block_cell h.b0 rfl, block_cell h.b0 rfl, block_cell h.b0 rfl⟩
theorem rx_setP (I : Ifv BA) {w W : World} {p rb bx : Nat} {Ka Kb : Bk} {a : Ac} (h : Rx BA w p rb Ka Kb a bx W) (hl : Ka.length < 8900) (hv : RgV a.v) : Calls Try.prog 9 #[.pointer (some ⟨p, 0, none⟩), .agg #[.int .u32 a.v.c, .int .u32 a.v.n, .int .u64 a.v.sp, .int .u32 a.v.sl, .int .u64 a.v.ap, .int .u32 a.v.al, .int .u8 a.v.pt, .bool a.v.dn]] W fun e w' => e = .returned (.int .i64 (setB a.v Ka).2) ∧ Rx BA w p rb (setB a.v Ka).1 Kb a bx w' := by
  refine (pr_setP I a.v h.pr hl hv).mono ?_
  rintro e w' ⟨rfl, h3, h4⟩
  exact ⟨rfl, h3, h4.block (.inl rfl) h.b0⟩
theorem rx_setD (I : Ifv BA) {w W : World} {p rb bx : Nat} {Ka Kb : Bk} {a : Ac} (h : Rx BA w p rb Ka Kb a bx W) (hl : Kb.length < 8900) : Calls Try.prog 10 #[.pointer (some ⟨rb, 0, none⟩), .agg #[.int .u32 a.v.c, .int .u32 a.v.n, .int .u64 a.v.sp, .int .u32 a.v.sl, .int .u64 a.v.ap, .int .u32 a.v.al, .int .u8 a.v.pt, .bool a.v.dn]] W fun e w' => e = .returned (.int .i64 (setB a.v Kb).2) ∧ Rx BA w p rb Ka (setB a.v Kb).1 a bx w' := by
  refine (pr_setD I a.v h.pr hl).mono ?_
  rintro e w' ⟨rfl, h3, h4⟩
  exact ⟨rfl, h3, h4.block (.inl rfl) h.b0⟩
theorem rx_doneP (I : Ifv BA) {w W : World} {p rb bx : Nat} {Ka Kb : Bk} {a : Ac} (h : Rx BA w p rb Ka Kb a bx W) (hv : RgV a.v) : Calls Try.prog 11 #[.pointer (some ⟨p, 0, none⟩), .agg #[.int .u32 a.v.c, .int .u32 a.v.n]] W fun e w' => e = .returned (.bool (doneB a.v.c a.v.n Ka).2) ∧ Rx BA w p rb (doneB a.v.c a.v.n Ka).1 Kb a bx w' := by
  refine (pr_doneP I a.v.c a.v.n h.pr ⟨hv.c, hv.n⟩).mono ?_
  rintro e w' ⟨rfl, h3, h4⟩
  exact ⟨rfl, h3, h4.block (.inl rfl) h.b0⟩
theorem rx_doneD (I : Ifv BA) {w W : World} {p rb bx : Nat} {Ka Kb : Bk} {a : Ac} (h : Rx BA w p rb Ka Kb a bx W) (hl : Kb.length < 8900) : Calls Try.prog 12 #[.pointer (some ⟨rb, 0, none⟩), .agg #[.int .u32 a.v.c, .int .u32 a.v.n]] W fun e w' => e = .returned (.bool (doneB a.v.c a.v.n Kb).2) ∧ Rx BA w p rb Ka (doneB a.v.c a.v.n Kb).1 a bx w' := by
  refine (pr_doneD I a.v.c a.v.n h.pr hl).mono ?_
  rintro e w' ⟨rfl, h3, h4⟩
  exact ⟨rfl, h3, h4.block (.inl rfl) h.b0⟩
theorem keep_low {B : Nat} {a : Ac} {w : World} (h : AcOk B a w) (hB : B ≤ w.heap.size) : 0 < a.keep.length → ∀ k, (Value.slice a.ka a.keep.length a.kc).ownBlock = some k → k < w.heap.size := fun h0 k hk => by
  obtain ⟨b, off, e, hlt, _⟩ := RwAt.cellAt h.ts (j := 0) (by rw [rowC_length txc_len]; omega)
  rw [e] at hk
  injection hk with hk
  subst hk
  exact Nat.lt_of_lt_of_le hlt hB
theorem rx_retP (I : Ifv BA) {B : Nat} {w W : World} {p rb bx : Nat} {Ka Kb : Bk} {a : Ac} (h : Rx BA w p rb Ka Kb a bx W) (ha : AcOk B a w) (hB : B ≤ w.heap.size) : Calls Try.prog 13 #[.pointer (some ⟨p, 0, none⟩), .agg #[.int .u64 a.sp, .int .u32 a.sl], .slice a.ka a.keep.length a.kc] W fun e w' => e = .returned (.int .i64 ((Ka.length - (retB a.sp a.sl a.keep Ka).length : Nat) : Int)) ∧ Rx BA w p rb (retB a.sp a.sl a.keep Ka) Kb a bx w' := by
  refine (pr_retP I a.sp a.sl h.pr ha.sf ha.rk (by have := ha.len; omega) ha.ts hB (keep_low ha hB)).mono ?_
  rintro e w' ⟨rfl, h3, h4⟩
  exact ⟨rfl, h3, h4.block (.inl rfl) h.b0⟩
theorem rx_retD (I : Ifv BA) {B : Nat} {w W : World} {p rb bx : Nat} {Ka Kb : Bk} {a : Ac} (h : Rx BA w p rb Ka Kb a bx W) (hl : Kb.length < 8900) (ha : AcOk B a w) (hB : B ≤ w.heap.size) : Calls Try.prog 14 #[.pointer (some ⟨rb, 0, none⟩), .agg #[.int .u64 a.sp, .int .u32 a.sl], .slice a.ka a.keep.length a.kc] W fun e w' => e = .returned (.int .i64 ((Kb.length - (retB a.sp a.sl a.keep Kb).length : Nat) : Int)) ∧ Rx BA w p rb Ka (retB a.sp a.sl a.keep Kb) a bx w' := by
  refine (pr_retD I a.sp a.sl h.pr hl ha.ts hB).mono ?_
  rintro e w' ⟨rfl, h3, h4⟩
  exact ⟨rfl, h3, h4.block (.inl rfl) h.b0⟩
end Go.Proofs.Ytkadaoebehgkbaa
