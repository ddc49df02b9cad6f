/-
  LatchRuns: both tables side by side.
-/
import Derived.Test.YtknfkpnicjellaaHol
namespace Go.Proofs.Ytknfkpnicjellaa
open Go.RowKit
variable {TA : Nat → Nat → (Nat → Prop) → Tb → World → Prop}

/-- The program's table has Tp, the document's Td; F's blocks are the law's own. -/
structure Pr (TA : Nat → Nat → (Nat → Prop) → Tb → World → Prop) (w : World) (p rb : Nat) (Tp Td : Tb) (F : Nat → Prop) (W : World) : Prop where
  ex : ∃ B sl, Pz TA w p Tp (fun k => F k ∨ foot rb sl k) W ∧ RtAt B rb sl Td W ∧ w.heap.size ≤ B ∧ ∀ k, foot rb sl k → ¬ F k
theorem Pr.bel {w W : World} {p rb : Nat} {Tp Td : Tb} {F : Nat → Prop} (h : Pr TA w p rb Tp Td F W) : Below w.heap.size w W := by
  obtain ⟨B, sl, h1, _⟩ := h.ex
  exact h1.bel
theorem Pr.on (I : Ifl TA) {w W W' : World} {p rb : Nat} {Tp Td : Tb} {F : Nat → Prop} (h : Pr TA w p rb Tp Td F W) (hb : Below W.heap.size W W') : Pr TA w p rb Tp Td F W' := by
  obtain ⟨B, sl, h1, h2, h3⟩ := h.ex
  exact ⟨B, sl, h1.on I hb, h2.on hb, h3⟩
theorem Pr.oks (I : Ifl TA) {w W : World} {p rb : Nat} {Tp Td : Tb} {F : Nat → Prop} (h : Pr TA w p rb Tp Td F W) : TOk Tp := by
  obtain ⟨B, sl, h1, _⟩ := h.ex
  exact h1.ok I
/-- The law's own blocks: others in their place. -/
theorem Pr.more (I : Ifl TA) {w W W' : World} {p rb : Nat} {Tp Td : Tb} {F G : Nat → Prop} (h : Pr TA w p rb Tp Td F W) (hb : Below W.heap.size W W') (hG : ∀ k, G k → F k ∨ (W.heap.size ≤ k ∧ k < W'.heap.size)) : Pr TA w p rb Tp Td G W' := by
  obtain ⟨B, sl, h1, h2, h3, h4⟩ := h.ex
  refine ⟨B, sl, h1.more I hb (fun k hk => ?_), h2.on hb, h3, fun k hk hg => ?_⟩
  · rcases hk with e | e
    · rcases hG k e with e | e
      · exact .inl (.inl e)
      · exact .inr e
    · exact .inl (.inr e)
  · rcases hG k hg with e | e
    · exact h4 k hk e
    · have := (h2.lt hk).2
      omega
theorem Pr.own (I : Ifl TA) {w W W' : World} {p rb : Nat} {Tp Td : Tb} {F G : Nat → Prop} (h : Pr TA w p rb Tp Td F W) (hk : Kept G W W') (hG : ∀ k, G k → F k ∧ w.heap.size ≤ k) : Pr TA w p rb Tp Td F W' := by
  obtain ⟨B, sl, h1, h2, h3, h4⟩ := h.ex
  obtain ⟨B1, M, hm, hB, hM⟩ := h1.ta
  refine ⟨B, sl, ⟨⟨B1, M, I.keep hm hk (fun k e hg => hM k e (.inl (hG k hg).1)), hB, hM⟩, fun k e => Nat.lt_of_lt_of_le (h1.fl k e) hk.size, h1.len, h1.bel.trans (hk.below h1.bel.size (fun k hg => (hG k hg).2))⟩, h2.kept hk (fun k e hg => h4 k e (hG k hg).1), h3, h4⟩
theorem pr_stepP {w W W' : World} {p rb : Nat} {Tp' Td : Tb} {F : Nat → Prop} {B : Nat} {sl : Value} (h2 : RtAt B rb sl Td W) (h3 : w.heap.size ≤ B) (h4 : ∀ k, foot rb sl k → ¬ F k) (h1' : Pz TA w p Tp' (fun k => F k ∨ foot rb sl k) W') (hk : Kp (fun k => F k ∨ foot rb sl k) w W W') : Pr TA w p rb Tp' Td F W' ∧ Kp F w W W' :=
  ⟨⟨B, sl, h1', h2.kept hk (fun _ e hg => hg.1 (.inr e)), h3, h4⟩, hk.mono (fun _ e => .inl e)⟩
theorem pr_stepD (I : Ifl TA) {w W W' : World} {p rb : Nat} {Tp Td Td' : Tb} {F : Nat → Prop} {B : Nat} {sl sl' : Value} (h1 : Pz TA w p Tp (fun k => F k ∨ foot rb sl k) W) (h2 : RtAt B rb sl Td W) (h3 : w.heap.size ≤ B) (h4 : ∀ k, foot rb sl k → ¬ F k) (h2' : RtAt B rb sl' Td' W') (hk : Kept (foot rb sl) W W') (hn : ∀ i, foot rb sl' i → foot rb sl i ∨ W.heap.size ≤ i) : Pr TA w p rb Tp Td' F W' ∧ Kp F w W W' := by
  obtain ⟨B1, M, hm, hB, hM⟩ := h1.ta
  have hlo : ∀ k, foot rb sl k → w.heap.size ≤ k := fun k hk => Nat.le_trans h3 (h2.lt hk).1
  refine ⟨⟨B, sl', ⟨⟨B1, M, I.keep hm hk (fun k e hg => hM k e (.inr hg)), hB, fun k e hg => ?_⟩, fun k e => ?_, h1.len, h1.bel.trans (hk.below h1.bel.size hlo)⟩, h2', h3, fun k hk' hf => ?_⟩, ⟨hk.os, hk.tape, hk.output, hk.size, fun i hi hn' => hk.block i hi (fun e => hn' ⟨h4 i e, hlo i e⟩)⟩⟩
  · rcases hg with e' | e'
    · exact hM k e (.inl e')
    · rcases hn k e' with e2 | e2
      · exact hM k e (.inr e2)
      · have := (I.lt hm k e).2
        omega
  · rcases e with e | e
    · exact Nat.lt_of_lt_of_le (h1.fl k (.inl e)) hk.size
    · exact (h2'.lt e).2
  · rcases hn k hk' with e2 | e2
    · exact h4 k e2 hf
    · have := h1.fl k (.inl hf)
      omega
theorem pr_layP (I : Ifl TA) {w W : World} {p rb : Nat} {Tp Td : Tb} {F : Nat → Prop} (c n sp sl mp ml : Int) (prim : List UInt8) (L : List Wr) (v : Value) (h : Pr TA w p rb Tp Td F W) (hl : Tp.length < 8900) (hv : WsAt W.heap.size v L W) (hn : 0 < L.length → ∀ k, v.ownBlock = some k → k < w.heap.size ∨ F k) (h0 : 0 ≤ mp ∧ 0 ≤ ml) : Calls Try.prog 10 #[.pointer (some ⟨p, 0, none⟩), .agg #[.int .u32 c, .int .u32 n], .agg #[.int .u64 sp, .int .u32 sl], .agg #[.int .u64 mp, .int .u32 ml], .string (bs prim), v] W fun e w' => e = .returned (.int .i64 (layF (rightB sp sl && rightB mp ml && kOk prim) c n sp sl mp ml prim L Tp).2) ∧ Pr TA w p rb (layF (rightB sp sl && rightB mp ml && kOk prim) c n sp sl mp ml prim L Tp).1 Td F w' ∧ Kp F w W w' := by
  obtain ⟨B, s0, h1, h2, h3, h4⟩ := h.ex
  refine (pz_lay I c n sp sl mp ml prim L v h1 hl hv (fun h0 k hk => by rcases hn h0 k hk with e | e; exact .inl e; exact .inr (.inl e)) h0).mono ?_
  rintro e w' ⟨rfl, h5, h6⟩
  exact ⟨rfl, pr_stepP h2 h3 h4 h5 h6⟩
theorem pr_layD (I : Ifl TA) {w W : World} {p rb : Nat} {Tp Td : Tb} {F : Nat → Prop} (c n sp sl mp ml : Int) (prim : List UInt8) {B0 : Nat} {L : List Wr} {v : Value} (h : Pr TA w p rb Tp Td F W) (hl : Td.length < 8900) (hv : WsAt B0 v L w) (hB : B0 ≤ w.heap.size) : Calls Try.prog 11 #[.pointer (some ⟨rb, 0, none⟩), .agg #[.int .u32 c, .int .u32 n], .agg #[.int .u64 sp, .int .u32 sl], .agg #[.int .u64 mp, .int .u32 ml], .string (bs prim), v] W fun e w' => e = .returned (.int .i64 (layF (rightB sp sl && rightB mp ml && kOk prim) c n sp sl mp ml prim L Td).2) ∧ Pr TA w p rb Tp (layF (rightB sp sl && rightB mp ml && kOk prim) c n sp sl mp ml prim L Td).1 F w' ∧ Kp F w W w' := by
  obtain ⟨B, s0, h1, h2, h3, h4⟩ := h.ex
  have hv' : WsAt B v L W := RwAt.le (hv.on (h1.bel.mono hB)) (by omega)
  refine (lay11 B rb s0 Td c n sp sl mp ml prim L v W h2 hv' (by omega)).mono ?_
  rintro e w' ⟨rfl, sl', h5, h6, h7⟩
  exact ⟨rfl, pr_stepD I h1 h2 h3 h4 h5 ⟨h6.os, h6.tape, h6.output, h6.size, fun i hi hn => h6.block i hi (fun e => hn (.inl e))⟩ h7⟩
theorem pr_cutP (I : Ifl TA) {w W : World} {p rb : Nat} {Tp Td : Tb} {F : Nat → Prop} (c n : Int) (h : Pr TA w p rb Tp Td F W) : Calls Try.prog 13 #[.pointer (some ⟨p, 0, none⟩), .agg #[.int .u32 c, .int .u32 n]] W fun e w' => ∃ v', e = .returned v' ∧ IsAt w'.heap.size v' (byF c n Tp) w' ∧ (∀ k, v'.ownBlock = some k → k ≠ rb) ∧ Pr TA w p rb (restF c n Tp) Td F w' ∧ Kp F w W w' := by
  obtain ⟨B, s0, h1, h2, h3, h4⟩ := h.ex
  refine (pz_cut I c n h1).mono ?_
  rintro e w' ⟨v', rfl, hi, hv, h5, h6⟩
  exact ⟨v', rfl, hi, fun k hk e => (hv k hk).1 (.inr (.inl e)), pr_stepP h2 h3 h4 h5 h6⟩
theorem pr_cutD (I : Ifl TA) {w W : World} {p rb : Nat} {Tp Td : Tb} {F : Nat → Prop} (c n : Int) (h : Pr TA w p rb Tp Td F W) (hl : Td.length < 8900) : Calls Try.prog 14 #[.pointer (some ⟨rb, 0, none⟩), .agg #[.int .u32 c, .int .u32 n]] W fun e w' => ∃ v', e = .returned v' ∧ IsAt w'.heap.size v' (byF c n Td) w' ∧ Kept (fun i => i = rb) W w' ∧ Pr TA w p rb Tp (restF c n Td) F w' ∧ Kp F w W w' := by
  obtain ⟨B, s0, h1, h2, h3, h4⟩ := h.ex
  refine (cut14 B rb s0 Td c n W h2 (by omega)).mono ?_
  rintro e w' ⟨v', sl', rfl, hi, h5, h6, h7⟩
  exact ⟨v', rfl, hi, h6, pr_stepD I h1 h2 h3 h4 h5 ⟨h6.os, h6.tape, h6.output, h6.size, fun i hi hn => h6.block i hi (fun e => hn (.inl e))⟩ (fun i hi => by rcases hi with e | e; exact .inl (.inl e); exact .inr (h7 i e))⟩
theorem pr_raiseP (I : Ifl TA) {w W : World} {p rb : Nat} {Tp Td : Tb} {F : Nat → Prop} (c n mp ml : Int) (h : Pr TA w p rb Tp Td F W) (h0 : 0 ≤ mp ∧ 0 ≤ ml) : Calls Try.prog 15 #[.pointer (some ⟨p, 0, none⟩), .agg #[.int .u32 c, .int .u32 n], .agg #[.int .u64 mp, .int .u32 ml]] W fun e w' => e = .returned (.bool (rseB c n mp ml Tp)) ∧ Pr TA w p rb (rseF c n mp ml Tp) Td F w' ∧ Kp F w W w' := by
  obtain ⟨B, s0, h1, h2, h3, h4⟩ := h.ex
  refine (pz_raise I c n mp ml h1 h0).mono ?_
  rintro e w' ⟨rfl, h5, h6⟩
  exact ⟨rfl, pr_stepP h2 h3 h4 h5 h6⟩
theorem pr_raiseD (I : Ifl TA) {w W : World} {p rb : Nat} {Tp Td : Tb} {F : Nat → Prop} (c n mp ml : Int) (h : Pr TA w p rb Tp Td F W) (hl : Td.length < 8900) : Calls Try.prog 16 #[.pointer (some ⟨rb, 0, none⟩), .agg #[.int .u32 c, .int .u32 n], .agg #[.int .u64 mp, .int .u32 ml]] W fun e w' => e = .returned (.bool (rseB c n mp ml Td)) ∧ Pr TA w p rb Tp (rseF c n mp ml Td) F w' ∧ Kp F w W w' := by
  obtain ⟨B, s0, h1, h2, h3, h4⟩ := h.ex
  refine (raise16 B rb s0 Td c n mp ml W h2 (by omega)).mono ?_
  rintro e w' ⟨rfl, h5, h6⟩
  exact ⟨rfl, pr_stepD I h1 h2 h3 h4 h5 h6 (fun i hi => .inl hi)⟩
/-- What only looks. -/
theorem pr_firstP (I : Ifl TA) {w W : World} {p rb : Nat} {Tp Td : Tb} {F : Nat → Prop} (lo hi : List UInt8) (ap aq : Int) {B0 : Nat} {but : List (Int × Int)} {v : Value} (h : Pr TA w p rb Tp Td F W) (hv : TsAt B0 v but w) (hB : B0 ≤ w.heap.size) : Calls Try.prog 17 #[.pointer (some ⟨p, 0, none⟩), .string (bs lo), .string (bs hi), .agg #[.int .u64 ap, .int .u32 aq], v] W fun e w' => e = .returned (fsV (firstF lo hi ap aq but Tp)) ∧ Below W.heap.size W w' := by
  obtain ⟨B, s0, h1, _⟩ := h.ex
  refine (pz_first I lo hi ap aq but v h1 (RwAt.le (RwAt.on hv (h1.bel.mono hB)) (Nat.le_trans hB h1.bel.size))).mono ?_
  rintro e w' ⟨rfl, _, hb⟩
  exact ⟨rfl, hb⟩
theorem pr_firstD {w W : World} {p rb : Nat} {Tp Td : Tb} {F : Nat → Prop} (lo hi : List UInt8) (ap aq : Int) {B0 : Nat} {but : List (Int × Int)} {v : Value} (h : Pr TA w p rb Tp Td F W) (hl : Td.length < 8900) (hv : TsAt B0 v but w) (hB : B0 ≤ w.heap.size) : Calls Try.prog 18 #[.pointer (some ⟨rb, 0, none⟩), .string (bs lo), .string (bs hi), .agg #[.int .u64 ap, .int .u32 aq], v] W fun e w' => e = .returned (fsV (firstF lo hi ap aq but Td)) ∧ Below W.heap.size W w' := by
  obtain ⟨B, s0, h1, h2, h3, _⟩ := h.ex
  exact first18 B rb s0 Td lo hi ap aq but v W h2 (RwAt.le (RwAt.on hv (h1.bel.mono hB)) (by omega)) (by omega)
theorem pr_ofP (I : Ifl TA) {w W : World} {p rb : Nat} {Tp Td : Tb} {F : Nat → Prop} (k : List UInt8) (h : Pr TA w p rb Tp Td F W) : Calls Try.prog 19 #[.pointer (some ⟨p, 0, none⟩), .string (bs k)] W fun e w' => e = .returned (ofV k (getF k Tp)) ∧ Below W.heap.size W w' := by
  obtain ⟨B, s0, h1, _⟩ := h.ex
  refine (pz_of I k h1).mono ?_
  rintro e w' ⟨rfl, _, hb⟩
  exact ⟨rfl, hb⟩
theorem pr_ofD {w W : World} {p rb : Nat} {Tp Td : Tb} {F : Nat → Prop} (k : List UInt8) (h : Pr TA w p rb Tp Td F W) : Calls Try.prog 20 #[.pointer (some ⟨rb, 0, none⟩), .string (bs k)] W fun e w' => e = .returned (ofV k (getF k Td)) ∧ Below W.heap.size W w' := by
  obtain ⟨B, s0, _, h2, _⟩ := h.ex
  exact of20 B rb s0 Td k W h2
theorem pr_byP (I : Ifl TA) {w W : World} {p rb : Nat} {Tp Td : Tb} {F : Nat → Prop} (c n : Int) (h : Pr TA w p rb Tp Td F W) : Calls Try.prog 21 #[.pointer (some ⟨p, 0, none⟩), .agg #[.int .u32 c, .int .u32 n]] W fun e w' => ∃ v', e = .returned v' ∧ IsAt w'.heap.size v' (byF c n Tp) w' ∧ Below W.heap.size W w' := by
  obtain ⟨B, s0, h1, _⟩ := h.ex
  refine (pz_by I c n h1).mono ?_
  rintro e w' ⟨v', rfl, hi, _, _, hb⟩
  exact ⟨v', rfl, hi, hb⟩
theorem pr_byD {w W : World} {p rb : Nat} {Tp Td : Tb} {F : Nat → Prop} (c n : Int) (h : Pr TA w p rb Tp Td F W) (hl : Td.length < 8900) : Calls Try.prog 22 #[.pointer (some ⟨rb, 0, none⟩), .agg #[.int .u32 c, .int .u32 n]] W fun e w' => ∃ v', e = .returned v' ∧ IsAt w'.heap.size v' (byF c n Td) w' ∧ Below W.heap.size W w' := by
  obtain ⟨B, s0, _, h2, _⟩ := h.ex
  refine (by22 B rb s0 Td c n W h2 (by omega)).mono ?_
  rintro e w' ⟨v', rfl, ho, hb⟩
  exact ⟨v', rfl, rw_own ho, hb⟩
theorem pr_allP (I : Ifl TA) {w W : World} {p rb : Nat} {Tp Td : Tb} {F : Nat → Prop} (h : Pr TA w p rb Tp Td F W) : Calls Try.prog 23 #[.pointer (some ⟨p, 0, none⟩)] W fun e w' => ∃ v', e = .returned v' ∧ IsAt w'.heap.size v' Tp w' ∧ Below W.heap.size W w' := by
  obtain ⟨B, s0, h1, _⟩ := h.ex
  refine (pz_all I h1).mono ?_
  rintro e w' ⟨v', rfl, hi, _, _, hb⟩
  exact ⟨v', rfl, hi, hb⟩
end Go.Proofs.Ytknfkpnicjellaa
