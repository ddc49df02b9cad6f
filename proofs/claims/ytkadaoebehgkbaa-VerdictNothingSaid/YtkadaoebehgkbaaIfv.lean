/-
  What the laws ask of the program's book, whatever it is made of.
-/
import Derived.Test.YtkadaoebehgkbaaSt
namespace Go.Proofs.Ytkadaoebehgkbaa
open Go.RowKit

/-- Numbers as their types bound them. -/
def R32 (x : Int) : Prop := 0 ≤ x ∧ x < 4294967296
def R64 (x : Int) : Prop := 0 ≤ x ∧ x < 18446744073709551616
def R8 (x : Int) : Prop := 0 ≤ x ∧ x < 256
structure RgV (v : Vd) : Prop where
  c : R32 v.c
  n : R32 v.n
  sp : R64 v.sp
  sl : R32 v.sl
  ap : R64 v.ap
  al : R32 v.al
  pt : R8 v.pt
def RgT (L : List (Int × Int)) : Prop := ∀ x ∈ L, R32 x.1 ∧ R32 x.2
/-- BA B p M K w: the program's book behind the pointer p has K; what it writes anew lies in the blocks of M, all from B on. -/
structure Ifv (BA : Nat → Nat → (Nat → Prop) → Bk → World → Prop) : Prop where
  lt : ∀ {B p : Nat} {M : Nat → Prop} {K : Bk} {w : World}, BA B p M K w → ∀ k, M k → B ≤ k ∧ k < w.heap.size
  keep : ∀ {B p : Nat} {M G : Nat → Prop} {K : Bk} {w w' : World}, BA B p M K w → Kept G w w' → (∀ k, M k → ¬ G k) → BA B p M K w'
  ok : ∀ {B p : Nat} {M : Nat → Prop} {K : Bk} {w : World}, BA B p M K w → SrtV K
  new : ∀ w : World, Calls Try.prog 8 #[] w fun e w' => ∃ p M, e = .returned (.pointer (some ⟨p, 0, none⟩)) ∧ BA w.heap.size p M [] w' ∧ Below w.heap.size w w'
  set : ∀ {B p : Nat} {M : Nat → Prop} {K : Bk} {w : World} (v : Vd), BA B p M K w → K.length < 10000 → RgV v → Calls Try.prog 9 #[.pointer (some ⟨p, 0, none⟩), .agg #[.int .u32 v.c, .int .u32 v.n, .int .u64 v.sp, .int .u32 v.sl, .int .u64 v.ap, .int .u32 v.al, .int .u8 v.pt, .bool v.dn]] w fun e w' => e = .returned (.int .i64 (setB v K).2) ∧ ∃ M', BA B p M' (setB v K).1 w' ∧ Kept M w w' ∧ ∀ i, M' i → M i ∨ w.heap.size ≤ i
  done : ∀ {B p : Nat} {M : Nat → Prop} {K : Bk} {w : World} (c n : Int), BA B p M K w → K.length < 10000 → R32 c ∧ R32 n → Calls Try.prog 11 #[.pointer (some ⟨p, 0, none⟩), .agg #[.int .u32 c, .int .u32 n]] w fun e w' => e = .returned (.bool (doneB c n K).2) ∧ ∃ M', BA B p M' (doneB c n K).1 w' ∧ Kept M w w' ∧ ∀ i, M' i → M i ∨ w.heap.size ≤ i
  retire : ∀ {B p : Nat} {M : Nat → Prop} {K : Bk} {w : World} (sp sl : Int) (L : List (Int × Int)) (v : Value), BA B p M K w → K.length < 10000 → R64 sp ∧ R32 sl → RgT L → L.length * 8 ≤ 140737488355328 → TsAt w.heap.size v L w → (0 < L.length → ∀ k, v.ownBlock = some k → ¬ M k) → Calls Try.prog 13 #[.pointer (some ⟨p, 0, none⟩), .agg #[.int .u64 sp, .int .u32 sl], v] w fun e w' => e = .returned (.int .i64 ((K.length - (retB sp sl L K).length : Nat) : Int)) ∧ ∃ M', BA B p M' (retB sp sl L K) w' ∧ Kept M w w' ∧ ∀ i, M' i → M i ∨ w.heap.size ≤ i
  of : ∀ {B p : Nat} {M : Nat → Prop} {K : Bk} {w : World} (c n : Int), BA B p M K w → K.length < 10000 → R32 c ∧ R32 n → Calls Try.prog 15 #[.pointer (some ⟨p, 0, none⟩), .agg #[.int .u32 c, .int .u32 n]] w fun e w' => e = .returned (ofV (getB c n K)) ∧ Below w.heap.size w w'
  all : ∀ {B p : Nat} {M : Nat → Prop} {K : Bk} {w : World}, BA B p M K w → K.length < 10000 → Calls Try.prog 18 #[.pointer (some ⟨p, 0, none⟩)] w fun e w' => ∃ v', e = .returned v' ∧ VsAt w'.heap.size v' K w' ∧ (∀ k, v'.ownBlock = some k → M k ∨ w.heap.size ≤ k) ∧ Below w.heap.size w w'
  set0 : ∀ (v : Vd) (w : World), RgV v → Calls Try.prog 9 #[.pointer none, .agg #[.int .u32 v.c, .int .u32 v.n, .int .u64 v.sp, .int .u32 v.sl, .int .u64 v.ap, .int .u32 v.al, .int .u8 v.pt, .bool v.dn]] w fun e w' => e = .returned (.int .i64 1) ∧ Below w.heap.size w w'
  done0 : ∀ (c n : Int) (w : World), R32 c ∧ R32 n → Calls Try.prog 11 #[.pointer none, .agg #[.int .u32 c, .int .u32 n]] w fun e w' => e = .returned (.bool false) ∧ Below w.heap.size w w'
  retire0 : ∀ (sp sl : Int) (L : List (Int × Int)) (v : Value) (w : World), R64 sp ∧ R32 sl → RgT L → L.length * 8 ≤ 140737488355328 → TsAt w.heap.size v L w → Calls Try.prog 13 #[.pointer none, .agg #[.int .u64 sp, .int .u32 sl], v] w fun e w' => e = .returned (.int .i64 0) ∧ Below w.heap.size w w'
  of0 : ∀ (c n : Int) (w : World), R32 c ∧ R32 n → Calls Try.prog 15 #[.pointer none, .agg #[.int .u32 c, .int .u32 n]] w fun e w' => e = .returned (ofV none) ∧ Below w.heap.size w w'
  all0 : ∀ w : World, Calls Try.prog 18 #[.pointer none] w fun e w' => ∃ ao cap, e = .returned (.slice ao 0 cap) ∧ Below w.heap.size w w'

variable {BA : Nat → Nat → (Nat → Prop) → Bk → World → Prop}

/-- All but F's blocks, from w's end on, may have turned. -/
def Kp (F : Nat → Prop) (w W W' : World) : Prop := Kept (fun i => ¬ F i ∧ w.heap.size ≤ i) W W'
theorem Kp.block {F : Nat → Prop} {w W W' : World} (h : Kp F w W W') {b : Nat} (hb : F b ∨ b < w.heap.size) {o : Obj} (ho : W.heap[b]? = some o) : W'.heap[b]? = some o := by
  rw [Kept.block h b (Array.getElem?_eq_some_iff.1 ho).1 (fun e => by rcases hb with hb | hb; exact e.1 hb; exact absurd e.2 (by omega))]
  exact ho
theorem Kp.trans {F : Nat → Prop} {w a b c : World} (h : Kp F w a b) (k : Kp F w b c) : Kp F w a c := Kept.trans h k (fun _ e => .inl e)
theorem Kp.of_below {F : Nat → Prop} {w W W' : World} (h : Below W.heap.size W W') : Kp F w W W' := Kept.of_below h
theorem Kp.mono {F G : Nat → Prop} {w W W' : World} (h : Kp F w W W') (hG : ∀ i, G i → F i) : Kp G w W W' := ⟨h.os, h.tape, h.output, h.size, fun k hk hn => Kept.block h k hk (fun e => hn ⟨fun g => e.1 (hG k g), e.2⟩)⟩
theorem Kp.rw_at {F : Nat → Prop} {w W W' : World} {sz n : Nat} {v : Value} {cs : List Value} (h : Kp F w W W') (hv : RwAt W.heap.size sz v n cs W) (hn : 0 < n → ∀ k, v.ownBlock = some k → k < w.heap.size ∨ F k) : RwAt W'.heap.size sz v n cs W' := by
  obtain ⟨ao, cap, rfl, h1, h2, h3, h4⟩ := hv
  refine ⟨ao, cap, rfl, h1, h2, h3, fun h0 => ?_⟩
  obtain ⟨b, off, rfl, h5, h6⟩ := h4 h0
  refine ⟨b, off, rfl, fun h9 => Nat.lt_of_lt_of_le (h5 h9) h.size, fun j u hj => ?_⟩
  have hn0 : 0 < n := by
    rcases Nat.eq_zero_or_pos n with e | e
    · have := (List.getElem?_eq_some_iff.1 hj).1
      rw [h1, e] at this
      omega
    · exact e
  refine Kept.cell h (h6 j u hj) (fun e => ?_)
  rcases hn hn0 b rfl with h9 | h9
  · exact absurd e.2 (by omega)
  · exact e.1 h9

/-- The program's table in a law that began at w; the blocks of F are the law's own, and no part of it. -/
structure Pz (BA : Nat → Nat → (Nat → Prop) → Bk → World → Prop) (w : World) (p : Nat) (K : Bk) (F : Nat → Prop) (W : World) : Prop where
  ta : ∃ B M, BA B p M K W ∧ w.heap.size ≤ B ∧ ∀ k, M k → ¬ F k
  fl : ∀ k, F k → k < W.heap.size
  len : K.length < 9000
  bel : Below w.heap.size w W
theorem Pz.on (I : Ifv BA) {w W W' : World} {p : Nat} {K : Bk} {F : Nat → Prop} (h : Pz BA w p K F W) (hb : Below W.heap.size W W') : Pz BA w p K F W' := by
  obtain ⟨B, M, hm, hB⟩ := h.ta
  exact ⟨⟨B, M, I.keep hm (Kept.of_below (F := fun _ => False) hb) (fun _ _ h => h), hB⟩, fun k hk => Nat.lt_of_lt_of_le (h.fl k hk) hb.size, h.len, h.bel.trans (hb.mono h.bel.size)⟩
theorem Pz.ok (I : Ifv BA) {w W : World} {p : Nat} {K : Bk} {F : Nat → Prop} (h : Pz BA w p K F W) : SrtV K := by
  obtain ⟨B, M, hm, _⟩ := h.ta
  exact I.ok hm
/-- What was made anew is the law's own. -/
theorem Pz.more (I : Ifv BA) {w W W' : World} {p : Nat} {K : Bk} {F G : Nat → Prop} (h : Pz BA w p K F W) (hb : Below W.heap.size W W') (hG : ∀ k, G k → F k ∨ (W.heap.size ≤ k ∧ k < W'.heap.size)) : Pz BA w p K G W' := by
  obtain ⟨B, M, hm, hB, hM⟩ := h.ta
  refine ⟨⟨B, M, I.keep hm (Kept.of_below (F := fun _ => False) hb) (fun _ _ h => h), hB, fun k hk hg => ?_⟩, fun k hk => ?_, h.len, h.bel.trans (hb.mono h.bel.size)⟩
  · rcases hG k hg with e | e
    · exact hM k hk e
    · have := (I.lt hm k hk).2
      omega
  · rcases hG k hk with e | e
    · exact Nat.lt_of_lt_of_le (h.fl k e) hb.size
    · exact e.2
theorem Pz.less {w W : World} {p : Nat} {K : Bk} {F G : Nat → Prop} (h : Pz BA w p K F W) (hG : ∀ k, G k → F k) : Pz BA w p K G W := by
  obtain ⟨B, M, hm, hB, hM⟩ := h.ta
  exact ⟨⟨B, M, hm, hB, fun k hk hg => hM k hk (hG k hg)⟩, fun k hk => h.fl k (hG k hk), h.len, h.bel⟩
/-- The law's own blocks may turn. -/
theorem Pz.own (I : Ifv BA) {w W W' : World} {p : Nat} {K : Bk} {F : Nat → Prop} (h : Pz BA w p K F W) (hk : Kept F W W') (hF : ∀ k, F k → w.heap.size ≤ k) : Pz BA w p K F W' := by
  obtain ⟨B, M, hm, hB, hM⟩ := h.ta
  exact ⟨⟨B, M, I.keep hm hk hM, hB, hM⟩, fun k hk' => Nat.lt_of_lt_of_le (h.fl k hk') hk.size, h.len, h.bel.trans (hk.below h.bel.size hF)⟩
theorem pz_kp {w W W' : World} {F M : Nat → Prop} {B : Nat} (hk : Kept M W W') (hB : w.heap.size ≤ B) (hM : ∀ k, M k → ¬ F k) (hl : ∀ k, M k → B ≤ k) : Kp F w W W' := ⟨hk.os, hk.tape, hk.output, hk.size, fun i hi hn => hk.block i hi (fun hm => hn ⟨hM i hm, Nat.le_trans hB (hl i hm)⟩)⟩
theorem pz_new (I : Ifv BA) {w W : World} {F : Nat → Prop} (h : Below w.heap.size w W) (hF : ∀ k, F k → k < W.heap.size) : Calls Try.prog 8 #[] W fun e w' => ∃ p, e = .returned (.pointer (some ⟨p, 0, none⟩)) ∧ Pz BA w p [] F w' ∧ Below W.heap.size W w' := by
  refine (I.new W).mono ?_
  rintro e w' ⟨p, M, rfl, hm, hb⟩
  refine ⟨p, rfl, ⟨⟨W.heap.size, M, hm, h.size, fun k hk hf => ?_⟩, fun k hk => Nat.lt_of_lt_of_le (hF k hk) hb.size, by simp, h.trans (hb.mono h.size)⟩, hb⟩
  have := (I.lt hm k hk).1
  have := hF k hf
  omega
theorem pz_post (I : Ifv BA) {w W W' : World} {p : Nat} {K K' : Bk} {F M M' : Nat → Prop} {B : Nat} (h : Pz BA w p K F W) (hm : BA B p M K W) (hB : w.heap.size ≤ B) (hM : ∀ k, M k → ¬ F k) (hm' : BA B p M' K' W') (hk : Kept M W W') (hn : ∀ i, M' i → M i ∨ W.heap.size ≤ i) (hl : K'.length < 9000) : Pz BA w p K' F W' ∧ Kp F w W W' := by
  refine ⟨⟨⟨B, M', hm', hB, fun k hk' hf => ?_⟩, fun k hk' => Nat.lt_of_lt_of_le (h.fl k hk') hk.size, hl, h.bel.trans (hk.below h.bel.size (fun i hi => Nat.le_trans hB (I.lt hm i hi).1))⟩, pz_kp hk hB hM (fun k hk => (I.lt hm k hk).1)⟩
  rcases hn k hk' with e | e
  · exact hM k e hf
  · have := h.fl k hf
    omega
theorem pz_set (I : Ifv BA) {w W : World} {p : Nat} {K : Bk} {F : Nat → Prop} (v : Vd) (h : Pz BA w p K F W) (hl : K.length < 8900) (hv : RgV v) : Calls Try.prog 9 #[.pointer (some ⟨p, 0, none⟩), .agg #[.int .u32 v.c, .int .u32 v.n, .int .u64 v.sp, .int .u32 v.sl, .int .u64 v.ap, .int .u32 v.al, .int .u8 v.pt, .bool v.dn]] W fun e w' => e = .returned (.int .i64 (setB v K).2) ∧ Pz BA w p (setB v K).1 F w' ∧ Kp F w W w' := by
  obtain ⟨B, M, hm, hB, hM⟩ := h.ta
  refine (I.set v hm (by omega) hv).mono ?_
  rintro e w' ⟨rfl, M', hm', hk, hn⟩
  exact ⟨rfl, pz_post I h hm hB hM hm' hk hn (by have := set_len v K; omega)⟩
theorem pz_done (I : Ifv BA) {w W : World} {p : Nat} {K : Bk} {F : Nat → Prop} (c n : Int) (h : Pz BA w p K F W) (hv : R32 c ∧ R32 n) : Calls Try.prog 11 #[.pointer (some ⟨p, 0, none⟩), .agg #[.int .u32 c, .int .u32 n]] W fun e w' => e = .returned (.bool (doneB c n K).2) ∧ Pz BA w p (doneB c n K).1 F w' ∧ Kp F w W w' := by
  obtain ⟨B, M, hm, hB, hM⟩ := h.ta
  have := h.len
  refine (I.done c n hm (by omega) hv).mono ?_
  rintro e w' ⟨rfl, M', hm', hk, hn⟩
  exact ⟨rfl, pz_post I h hm hB hM hm' hk hn (by rw [doneB_len]; omega)⟩
theorem pz_retire (I : Ifv BA) {w W : World} {p : Nat} {K : Bk} {F : Nat → Prop} (sp sl : Int) (L : List (Int × Int)) (v : Value) (h : Pz BA w p K F W) (hs : R64 sp ∧ R32 sl) (hL : RgT L) (hz : L.length * 8 ≤ 140737488355328) (hv : TsAt W.heap.size v L W) (hn : 0 < L.length → ∀ k, v.ownBlock = some k → k < w.heap.size ∨ F k) : Calls Try.prog 13 #[.pointer (some ⟨p, 0, none⟩), .agg #[.int .u64 sp, .int .u32 sl], v] W fun e w' => e = .returned (.int .i64 ((K.length - (retB sp sl L K).length : Nat) : Int)) ∧ Pz BA w p (retB sp sl L K) F w' ∧ Kp F w W w' := by
  obtain ⟨B, M, hm, hB, hM⟩ := h.ta
  have := h.len
  refine (I.retire sp sl L v hm (by omega) hs hL hz hv (fun h0 k hk hmk => ?_)).mono ?_
  · rcases hn h0 k hk with e | e
    · have := (I.lt hm k hmk).1
      omega
    · exact hM k hmk e
  rintro e w' ⟨rfl, M', hm', hk, hn'⟩
  exact ⟨rfl, pz_post I h hm hB hM hm' hk hn' (by have := ret_len sp sl L K; omega)⟩
theorem pz_of (I : Ifv BA) {w W : World} {p : Nat} {K : Bk} {F : Nat → Prop} (c n : Int) (h : Pz BA w p K F W) (hv : R32 c ∧ R32 n) : Calls Try.prog 15 #[.pointer (some ⟨p, 0, none⟩), .agg #[.int .u32 c, .int .u32 n]] W fun e w' => e = .returned (ofV (getB c n K)) ∧ Pz BA w p K F w' ∧ Below W.heap.size W w' := by
  obtain ⟨B, M, hm, _⟩ := h.ta
  refine (I.of c n hm (by have := h.len; omega) hv).mono ?_
  rintro e w' ⟨rfl, hb⟩
  exact ⟨rfl, h.on I hb, hb⟩
theorem pz_row {I : Ifv BA} {w W : World} {p B : Nat} {K : Bk} {F M : Nat → Prop} {v' : Value} (h : Pz BA w p K F W) (hm : BA B p M K W) (hB : w.heap.size ≤ B) (hM : ∀ k, M k → ¬ F k) (hv : ∀ k, v'.ownBlock = some k → M k ∨ W.heap.size ≤ k) : ∀ k, v'.ownBlock = some k → ¬ F k ∧ w.heap.size ≤ k := fun k hk' => by
  rcases hv k hk' with e | e
  · exact ⟨hM k e, Nat.le_trans hB (I.lt hm k e).1⟩
  · exact ⟨fun hf => by have := h.fl k hf; omega, Nat.le_trans h.bel.size e⟩
theorem pz_all (I : Ifv BA) {w W : World} {p : Nat} {K : Bk} {F : Nat → Prop} (h : Pz BA w p K F W) : Calls Try.prog 18 #[.pointer (some ⟨p, 0, none⟩)] W fun e w' => ∃ v', e = .returned v' ∧ VsAt w'.heap.size v' K w' ∧ (∀ k, v'.ownBlock = some k → ¬ F k ∧ w.heap.size ≤ k) ∧ Pz BA w p K F w' ∧ Below W.heap.size W w' := by
  obtain ⟨B, M, hm, hB, hM⟩ := h.ta
  refine (I.all hm (by have := h.len; omega)).mono ?_
  rintro e w' ⟨v', rfl, hi, hv, hb⟩
  exact ⟨v', rfl, hi, pz_row (I := I) h hm hB hM hv, h.on I hb, hb⟩
end Go.Proofs.Ytkadaoebehgkbaa
