/-
  What the laws ask of the program's table, whatever it is made of.
-/
import Derived.Test.YtknfkpnicjellaaFst
namespace Go.Proofs.Ytknfkpnicjellaa
open Go.RowKit

/-- TA B p M T w: the program's table behind the pointer p has T; what it writes anew lies in the blocks of M, all from B on. -/
structure Ifl (TA : Nat → Nat → (Nat → Prop) → Tb → World → Prop) : Prop where
  lt : ∀ {B p : Nat} {M : Nat → Prop} {T : Tb} {w : World}, TA B p M T w → ∀ k, M k → B ≤ k ∧ k < w.heap.size
  keep : ∀ {B p : Nat} {M G : Nat → Prop} {T : Tb} {w w' : World}, TA B p M T w → Kept G w w' → (∀ k, M k → ¬ G k) → TA B p M T w'
  ok : ∀ {B p : Nat} {M : Nat → Prop} {T : Tb} {w : World}, TA B p M T w → TOk T
  new : ∀ w : World, Calls Try.prog 9 #[] w fun e w' => ∃ p M, e = .returned (.pointer (some ⟨p, 0, none⟩)) ∧ TA w.heap.size p M [] w' ∧ Below w.heap.size w w'
  right : ∀ (B : Nat) (L : List Wr) (v : Value) (w : World), WsAt B v L w → B ≤ w.heap.size → Calls Try.prog 24 #[v] w fun e w' => e = .returned (.bool (rightW L)) ∧ Below w.heap.size w w'
  lay : ∀ {B p : Nat} {M : Nat → Prop} {T : Tb} {w : World} (c n sp sl mp ml : Int) (prim : List UInt8) (L : List Wr) (v : Value), TA B p M T w → T.length < 10000 → WsAt w.heap.size v L w → (0 < L.length → ∀ k, v.ownBlock = some k → ¬ M k) → 0 ≤ mp ∧ 0 ≤ ml → Calls Try.prog 10 #[.pointer (some ⟨p, 0, none⟩), .agg #[.int .u32 c, .int .u32 n], .agg #[.int .u64 sp, .int .u32 sl], .agg #[.int .u64 mp, .int .u32 ml], .string (bs prim), v] w fun e w' => e = .returned (.int .i64 (layF (rightB sp sl && rightB mp ml && kOk prim) c n sp sl mp ml prim L T).2) ∧ ∃ M', TA B p M' (layF (rightB sp sl && rightB mp ml && kOk prim) c n sp sl mp ml prim L T).1 w' ∧ Kept M w w' ∧ ∀ i, M' i → M i ∨ w.heap.size ≤ i
  cut : ∀ {B p : Nat} {M : Nat → Prop} {T : Tb} {w : World} (c n : Int), TA B p M T w → T.length < 10000 → Calls Try.prog 13 #[.pointer (some ⟨p, 0, none⟩), .agg #[.int .u32 c, .int .u32 n]] w fun e w' => ∃ v' M', e = .returned v' ∧ IsAt w'.heap.size v' (byF c n T) w' ∧ (∀ k, v'.ownBlock = some k → M k ∨ w.heap.size ≤ k) ∧ TA B p M' (restF c n T) w' ∧ Kept M w w' ∧ ∀ i, M' i → M i ∨ w.heap.size ≤ i
  raise : ∀ {B p : Nat} {M : Nat → Prop} {T : Tb} {w : World} (c n mp ml : Int), TA B p M T w → T.length < 10000 → 0 ≤ mp ∧ 0 ≤ ml → Calls Try.prog 15 #[.pointer (some ⟨p, 0, none⟩), .agg #[.int .u32 c, .int .u32 n], .agg #[.int .u64 mp, .int .u32 ml]] w fun e w' => e = .returned (.bool (rseB c n mp ml T)) ∧ ∃ M', TA B p M' (rseF c n mp ml T) w' ∧ Kept M w w' ∧ ∀ i, M' i → M i ∨ w.heap.size ≤ i
  first : ∀ {B p : Nat} {M : Nat → Prop} {T : Tb} {w : World} (lo hi : List UInt8) (ap aq : Int) (but : List (Int × Int)) (v : Value), TA B p M T w → T.length < 10000 → TsAt w.heap.size v but w → Calls Try.prog 17 #[.pointer (some ⟨p, 0, none⟩), .string (bs lo), .string (bs hi), .agg #[.int .u64 ap, .int .u32 aq], v] w fun e w' => e = .returned (fsV (firstF lo hi ap aq but T)) ∧ Below w.heap.size w w'
  of : ∀ {B p : Nat} {M : Nat → Prop} {T : Tb} {w : World} (k : List UInt8), TA B p M T w → T.length < 10000 → Calls Try.prog 19 #[.pointer (some ⟨p, 0, none⟩), .string (bs k)] w fun e w' => e = .returned (ofV k (getF k T)) ∧ Below w.heap.size w w'
  by_ : ∀ {B p : Nat} {M : Nat → Prop} {T : Tb} {w : World} (c n : Int), TA B p M T w → T.length < 10000 → Calls Try.prog 21 #[.pointer (some ⟨p, 0, none⟩), .agg #[.int .u32 c, .int .u32 n]] w fun e w' => ∃ v', e = .returned v' ∧ IsAt w'.heap.size v' (byF c n T) w' ∧ (∀ k, v'.ownBlock = some k → M k ∨ w.heap.size ≤ k) ∧ Below w.heap.size w w'
  all : ∀ {B p : Nat} {M : Nat → Prop} {T : Tb} {w : World}, TA B p M T w → T.length < 10000 → Calls Try.prog 23 #[.pointer (some ⟨p, 0, none⟩)] w fun e w' => ∃ v', e = .returned v' ∧ IsAt w'.heap.size v' T w' ∧ (∀ k, v'.ownBlock = some k → M k ∨ w.heap.size ≤ k) ∧ Below w.heap.size w w'
  lay0 : ∀ (c n sp sl mp ml : Int) (prim : List UInt8) (B : Nat) (L : List Wr) (v : Value) (w : World), WsAt B v L w → B ≤ w.heap.size → Calls Try.prog 10 #[.pointer none, .agg #[.int .u32 c, .int .u32 n], .agg #[.int .u64 sp, .int .u32 sl], .agg #[.int .u64 mp, .int .u32 ml], .string (bs prim), v] w fun e w' => e = .returned (.int .i64 1) ∧ Below w.heap.size w w'
  cut0 : ∀ (c n : Int) (w : World), Calls Try.prog 13 #[.pointer none, .agg #[.int .u32 c, .int .u32 n]] w fun e w' => ∃ ao cap, e = .returned (.slice ao 0 cap) ∧ Below w.heap.size w w'
  raise0 : ∀ (c n mp ml : Int) (w : World), Calls Try.prog 15 #[.pointer none, .agg #[.int .u32 c, .int .u32 n], .agg #[.int .u64 mp, .int .u32 ml]] w fun e w' => e = .returned (.bool false) ∧ Below w.heap.size w w'
  first0 : ∀ (lo hi : List UInt8) (ap aq : Int) (B : Nat) (but : List (Int × Int)) (v : Value) (w : World), TsAt B v but w → B ≤ w.heap.size → Calls Try.prog 17 #[.pointer none, .string (bs lo), .string (bs hi), .agg #[.int .u64 ap, .int .u32 aq], v] w fun e w' => e = .returned (fsV none) ∧ Below w.heap.size w w'
  of0 : ∀ (k : List UInt8) (w : World), Calls Try.prog 19 #[.pointer none, .string (bs k)] w fun e w' => e = .returned (ofV k none) ∧ Below w.heap.size w w'
  by0 : ∀ (c n : Int) (w : World), Calls Try.prog 21 #[.pointer none, .agg #[.int .u32 c, .int .u32 n]] w fun e w' => ∃ ao cap, e = .returned (.slice ao 0 cap) ∧ Below w.heap.size w w'
  all0 : ∀ w : World, Calls Try.prog 23 #[.pointer none] w fun e w' => ∃ ao cap, e = .returned (.slice ao 0 cap) ∧ Below w.heap.size w w'

variable {TA : Nat → Nat → (Nat → Prop) → Tb → World → Prop}

/-- All but F's blocks, from w's end on, may have turned. -/
def Kp (F : Nat → Prop) (w W W' : World) : Prop := Kept (fun i => ¬ F i ∧ w.heap.size ≤ i) W W'
theorem Kp.block {F : Nat → Prop} {w W W' : World} (h : Kp F w W W') {b : Nat} (hb : F b ∨ b < w.heap.size) {o : Obj} (ho : W.heap[b]? = some o) : W'.heap[b]? = some o := by
  rw [Kept.block h b (Array.getElem?_eq_some_iff.1 ho).1 (fun e => by rcases hb with hb | hb; exact e.1 hb; exact absurd e.2 (by omega))]
  exact ho
theorem Kp.trans {F : Nat → Prop} {w a b c : World} (h : Kp F w a b) (k : Kp F w b c) : Kp F w a c := Kept.trans h k (fun _ e => .inl e)
theorem Kp.of_below {F : Nat → Prop} {w W W' : World} (h : Below W.heap.size W W') : Kp F w W W' := Kept.of_below h
theorem Kp.mono {F G : Nat → Prop} {w W W' : World} (h : Kp F w W W') (hG : ∀ i, G i → F i) : Kp G w W W' := ⟨h.os, h.tape, h.output, h.size, fun k hk hn => Kept.block h k hk (fun e => hn ⟨fun g => e.1 (hG k g), e.2⟩)⟩
theorem Kp.rw_at {F : Nat → Prop} {w W W' : World} {sz n : Nat} {v : Value} {cs : List Value} (h : Kp F w W W') (hv : RwAt W.heap.size sz v n cs W) (hn : 0 < n → ∀ k, v.ownBlock = some k → k < w.heap.size ∨ F k) : RwAt W'.heap.size sz v n cs W' := by
  obtain ⟨ao, cap, rfl, h1, h2, h3, h4⟩ := hv
  refine ⟨ao, cap, rfl, h1, h2, h3, fun h0 => ?_⟩
  obtain ⟨b, off, rfl, h5, h6⟩ := h4 h0
  refine ⟨b, off, rfl, fun h9 => Nat.lt_of_lt_of_le (h5 h9) h.size, fun j u hj => ?_⟩
  have hn0 : 0 < n := by
    rcases Nat.eq_zero_or_pos n with e | e
    · have := (List.getElem?_eq_some_iff.1 hj).1
      rw [h1, e] at this
      omega
    · exact e
  refine Kept.cell h (h6 j u hj) (fun e => ?_)
  rcases hn hn0 b rfl with h9 | h9
  · exact absurd e.2 (by omega)
  · exact e.1 h9

/-- The program's table in a law that began at w; the blocks of F are the law's own, and no part of it. -/
structure Pz (TA : Nat → Nat → (Nat → Prop) → Tb → World → Prop) (w : World) (p : Nat) (T : Tb) (F : Nat → Prop) (W : World) : Prop where
  ta : ∃ B M, TA B p M T W ∧ w.heap.size ≤ B ∧ ∀ k, M k → ¬ F k
  fl : ∀ k, F k → k < W.heap.size
  len : T.length < 9000
  bel : Below w.heap.size w W
theorem Pz.on (I : Ifl TA) {w W W' : World} {p : Nat} {T : Tb} {F : Nat → Prop} (h : Pz TA w p T F W) (hb : Below W.heap.size W W') : Pz TA w p T F W' := by
  obtain ⟨B, M, hm, hB⟩ := h.ta
  exact ⟨⟨B, M, I.keep hm (Kept.of_below (F := fun _ => False) hb) (fun _ _ h => h), hB⟩, fun k hk => Nat.lt_of_lt_of_le (h.fl k hk) hb.size, h.len, h.bel.trans (hb.mono h.bel.size)⟩
theorem Pz.ok (I : Ifl TA) {w W : World} {p : Nat} {T : Tb} {F : Nat → Prop} (h : Pz TA w p T F W) : TOk T := by
  obtain ⟨B, M, hm, _⟩ := h.ta
  exact I.ok hm
/-- What was made anew is the law's own. -/
theorem Pz.more (I : Ifl TA) {w W W' : World} {p : Nat} {T : Tb} {F G : Nat → Prop} (h : Pz TA w p T F W) (hb : Below W.heap.size W W') (hG : ∀ k, G k → F k ∨ (W.heap.size ≤ k ∧ k < W'.heap.size)) : Pz TA w p T G W' := by
  obtain ⟨B, M, hm, hB, hM⟩ := h.ta
  refine ⟨⟨B, M, I.keep hm (Kept.of_below (F := fun _ => False) hb) (fun _ _ h => h), hB, fun k hk hg => ?_⟩, fun k hk => ?_, h.len, h.bel.trans (hb.mono h.bel.size)⟩
  · rcases hG k hg with e | e
    · exact hM k hk e
    · have := (I.lt hm k hk).2
      omega
  · rcases hG k hk with e | e
    · exact Nat.lt_of_lt_of_le (h.fl k e) hb.size
    · exact e.2
theorem Pz.less {w W : World} {p : Nat} {T : Tb} {F G : Nat → Prop} (h : Pz TA w p T F W) (hG : ∀ k, G k → F k) : Pz TA w p T G W := by
  obtain ⟨B, M, hm, hB, hM⟩ := h.ta
  exact ⟨⟨B, M, hm, hB, fun k hk hg => hM k hk (hG k hg)⟩, fun k hk => h.fl k (hG k hk), h.len, h.bel⟩
/-- The law's own blocks may turn. -/
theorem Pz.own (I : Ifl TA) {w W W' : World} {p : Nat} {T : Tb} {F : Nat → Prop} (h : Pz TA w p T F W) (hk : Kept F W W') (hF : ∀ k, F k → w.heap.size ≤ k) : Pz TA w p T F W' := by
  obtain ⟨B, M, hm, hB, hM⟩ := h.ta
  exact ⟨⟨B, M, I.keep hm hk hM, hB, hM⟩, fun k hk' => Nat.lt_of_lt_of_le (h.fl k hk') hk.size, h.len, h.bel.trans (hk.below h.bel.size hF)⟩
theorem pz_kp {w W W' : World} {F M : Nat → Prop} {B : Nat} (hk : Kept M W W') (hB : w.heap.size ≤ B) (hM : ∀ k, M k → ¬ F k) (hl : ∀ k, M k → B ≤ k) : Kp F w W W' := ⟨hk.os, hk.tape, hk.output, hk.size, fun i hi hn => hk.block i hi (fun hm => hn ⟨hM i hm, Nat.le_trans hB (hl i hm)⟩)⟩
theorem pz_new (I : Ifl TA) {w W : World} {F : Nat → Prop} (h : Below w.heap.size w W) (hF : ∀ k, F k → k < W.heap.size) : Calls Try.prog 9 #[] W fun e w' => ∃ p, e = .returned (.pointer (some ⟨p, 0, none⟩)) ∧ Pz TA w p [] F w' ∧ Below W.heap.size W w' := by
  refine (I.new W).mono ?_
  rintro e w' ⟨p, M, rfl, hm, hb⟩
  refine ⟨p, rfl, ⟨⟨W.heap.size, M, hm, h.size, fun k hk hf => ?_⟩, fun k hk => Nat.lt_of_lt_of_le (hF k hk) hb.size, by simp, h.trans (hb.mono h.size)⟩, hb⟩
  have := (I.lt hm k hk).1
  have := hF k hf
  omega
theorem pz_post (I : Ifl TA) {w W W' : World} {p : Nat} {T T' : Tb} {F M M' : Nat → Prop} {B : Nat} (h : Pz TA w p T F W) (hm : TA B p M T W) (hB : w.heap.size ≤ B) (hM : ∀ k, M k → ¬ F k) (hm' : TA B p M' T' W') (hk : Kept M W W') (hn : ∀ i, M' i → M i ∨ W.heap.size ≤ i) (hl : T'.length < 9000) : Pz TA w p T' F W' ∧ Kp F w W W' := by
  refine ⟨⟨⟨B, M', hm', hB, fun k hk' hf => ?_⟩, fun k hk' => Nat.lt_of_lt_of_le (h.fl k hk') hk.size, hl, h.bel.trans (hk.below h.bel.size (fun i hi => Nat.le_trans hB (I.lt hm i hi).1))⟩, pz_kp hk hB hM (fun k hk => (I.lt hm k hk).1)⟩
  rcases hn k hk' with e | e
  · exact hM k e hf
  · have := h.fl k hf
    omega
theorem pz_lay (I : Ifl TA) {w W : World} {p : Nat} {T : Tb} {F : Nat → Prop} (c n sp sl mp ml : Int) (prim : List UInt8) (L : List Wr) (v : Value) (h : Pz TA w p T F W) (hl : T.length < 8900) (hv : WsAt W.heap.size v L W) (hn : 0 < L.length → ∀ k, v.ownBlock = some k → k < w.heap.size ∨ F k) (h0 : 0 ≤ mp ∧ 0 ≤ ml) : Calls Try.prog 10 #[.pointer (some ⟨p, 0, none⟩), .agg #[.int .u32 c, .int .u32 n], .agg #[.int .u64 sp, .int .u32 sl], .agg #[.int .u64 mp, .int .u32 ml], .string (bs prim), v] W fun e w' => e = .returned (.int .i64 (layF (rightB sp sl && rightB mp ml && kOk prim) c n sp sl mp ml prim L T).2) ∧ Pz TA w p (layF (rightB sp sl && rightB mp ml && kOk prim) c n sp sl mp ml prim L T).1 F w' ∧ Kp F w W w' := by
  obtain ⟨B, M, hm, hB, hM⟩ := h.ta
  refine (I.lay c n sp sl mp ml prim L v hm (by omega) hv (fun h0 k hk hmk => ?_) h0).mono ?_
  · rcases hn h0 k hk with e | e
    · have := (I.lt hm k hmk).1
      omega
    · exact hM k hmk e
  rintro e w' ⟨rfl, M', hm', hk, hn'⟩
  exact ⟨rfl, pz_post I h hm hB hM hm' hk hn' (by have := len_lay (I.ok hm) (rightB sp sl && rightB mp ml && kOk prim) c n sp sl mp ml prim L; omega)⟩
theorem pz_cut (I : Ifl TA) {w W : World} {p : Nat} {T : Tb} {F : Nat → Prop} (c n : Int) (h : Pz TA w p T F W) : Calls Try.prog 13 #[.pointer (some ⟨p, 0, none⟩), .agg #[.int .u32 c, .int .u32 n]] W fun e w' => ∃ v', e = .returned v' ∧ IsAt w'.heap.size v' (byF c n T) w' ∧ (∀ k, v'.ownBlock = some k → ¬ F k ∧ w.heap.size ≤ k) ∧ Pz TA w p (restF c n T) F w' ∧ Kp F w W w' := by
  obtain ⟨B, M, hm, hB, hM⟩ := h.ta
  have := h.len
  refine (I.cut c n hm (by omega)).mono ?_
  rintro e w' ⟨v', M', rfl, hi, hv, hm', hk, hn⟩
  refine ⟨v', rfl, hi, fun k hk' => ?_, pz_post I h hm hB hM hm' hk hn (by have := len_rest c n T; omega)⟩
  rcases hv k hk' with e | e
  · exact ⟨hM k e, Nat.le_trans hB (I.lt hm k e).1⟩
  · exact ⟨fun hf => by have := h.fl k hf; omega, Nat.le_trans h.bel.size e⟩
theorem rse_len (c n mp ml : Int) (T : Tb) : (rseF c n mp ml T).length = T.length := by
  unfold rseF
  split
  · exact len_raise c n mp ml T
  · rfl
theorem pz_raise (I : Ifl TA) {w W : World} {p : Nat} {T : Tb} {F : Nat → Prop} (c n mp ml : Int) (h : Pz TA w p T F W) (h0 : 0 ≤ mp ∧ 0 ≤ ml) : Calls Try.prog 15 #[.pointer (some ⟨p, 0, none⟩), .agg #[.int .u32 c, .int .u32 n], .agg #[.int .u64 mp, .int .u32 ml]] W fun e w' => e = .returned (.bool (rseB c n mp ml T)) ∧ Pz TA w p (rseF c n mp ml T) F w' ∧ Kp F w W w' := by
  obtain ⟨B, M, hm, hB, hM⟩ := h.ta
  have := h.len
  refine (I.raise c n mp ml hm (by omega) h0).mono ?_
  rintro e w' ⟨rfl, M', hm', hk, hn⟩
  exact ⟨rfl, pz_post I h hm hB hM hm' hk hn (by rw [rse_len]; omega)⟩
theorem pz_first (I : Ifl TA) {w W : World} {p : Nat} {T : Tb} {F : Nat → Prop} (lo hi : List UInt8) (ap aq : Int) (but : List (Int × Int)) (v : Value) (h : Pz TA w p T F W) (hv : TsAt W.heap.size v but W) : Calls Try.prog 17 #[.pointer (some ⟨p, 0, none⟩), .string (bs lo), .string (bs hi), .agg #[.int .u64 ap, .int .u32 aq], v] W fun e w' => e = .returned (fsV (firstF lo hi ap aq but T)) ∧ Pz TA w p T F w' ∧ Below W.heap.size W w' := by
  obtain ⟨B, M, hm, _⟩ := h.ta
  refine (I.first lo hi ap aq but v hm (by have := h.len; omega) hv).mono ?_
  rintro e w' ⟨rfl, hb⟩
  exact ⟨rfl, h.on I hb, hb⟩
theorem pz_of (I : Ifl TA) {w W : World} {p : Nat} {T : Tb} {F : Nat → Prop} (k : List UInt8) (h : Pz TA w p T F W) : Calls Try.prog 19 #[.pointer (some ⟨p, 0, none⟩), .string (bs k)] W fun e w' => e = .returned (ofV k (getF k T)) ∧ Pz TA w p T F w' ∧ Below W.heap.size W w' := by
  obtain ⟨B, M, hm, _⟩ := h.ta
  refine (I.of k hm (by have := h.len; omega)).mono ?_
  rintro e w' ⟨rfl, hb⟩
  exact ⟨rfl, h.on I hb, hb⟩
theorem pz_row {I : Ifl TA} {w W : World} {p B : Nat} {T : Tb} {F M : Nat → Prop} {v' : Value} (h : Pz TA w p T F W) (hm : TA B p M T W) (hB : w.heap.size ≤ B) (hM : ∀ k, M k → ¬ F k) (hv : ∀ k, v'.ownBlock = some k → M k ∨ W.heap.size ≤ k) : ∀ k, v'.ownBlock = some k → ¬ F k ∧ w.heap.size ≤ k := fun k hk' => by
  rcases hv k hk' with e | e
  · exact ⟨hM k e, Nat.le_trans hB (I.lt hm k e).1⟩
  · exact ⟨fun hf => by have := h.fl k hf; omega, Nat.le_trans h.bel.size e⟩
theorem pz_by (I : Ifl TA) {w W : World} {p : Nat} {T : Tb} {F : Nat → Prop} (c n : Int) (h : Pz TA w p T F W) : Calls Try.prog 21 #[.pointer (some ⟨p, 0, none⟩), .agg #[.int .u32 c, .int .u32 n]] W fun e w' => ∃ v', e = .returned v' ∧ IsAt w'.heap.size v' (byF c n T) w' ∧ (∀ k, v'.ownBlock = some k → ¬ F k ∧ w.heap.size ≤ k) ∧ Pz TA w p T F w' ∧ Below W.heap.size W w' := by
  obtain ⟨B, M, hm, hB, hM⟩ := h.ta
  refine (I.by_ c n hm (by have := h.len; omega)).mono ?_
  rintro e w' ⟨v', rfl, hi, hv, hb⟩
  exact ⟨v', rfl, hi, pz_row (I := I) h hm hB hM hv, h.on I hb, hb⟩
theorem pz_all (I : Ifl TA) {w W : World} {p : Nat} {T : Tb} {F : Nat → Prop} (h : Pz TA w p T F W) : Calls Try.prog 23 #[.pointer (some ⟨p, 0, none⟩)] W fun e w' => ∃ v', e = .returned v' ∧ IsAt w'.heap.size v' T w' ∧ (∀ k, v'.ownBlock = some k → ¬ F k ∧ w.heap.size ≤ k) ∧ Pz TA w p T F w' ∧ Below W.heap.size W w' := by
  obtain ⟨B, M, hm, hB, hM⟩ := h.ta
  refine (I.all hm (by have := h.len; omega)).mono ?_
  rintro e w' ⟨v', rfl, hi, hv, hb⟩
  exact ⟨v', rfl, hi, pz_row (I := I) h hm hB hM hv, h.on I hb, hb⟩
end Go.Proofs.Ytknfkpnicjellaa
