/-
  What the laws ask of the program's post, whatever it is made of.
-/
import Derived.Test.YtfpckkkicjndlaaProg
import Derived.Test.YtfpckkkicjndlaaPl
import Derived.Test.YtfpckkkicjndlaaGr
import Derived.Test.YtfpckkkicjndlaaOb
namespace Go.Proofs.Ytfpckkkicjndlaa
open Go.RowKit

def txc (t : Tx) : List Value := [.string (bs t)]
theorem txc_len (t : Tx) : (txc t).length = 1 := rfl
theorem txc_one : ∀ t, ∀ u ∈ txc t, u.oneCell' = true := fun t u hu => by
  simp only [txc, List.mem_cons, List.not_mem_nil, or_false] at hu
  rcases hu with rfl
  rfl
/-- Texts at a slice. -/
def KsAt (B : Nat) (v : Value) (L : Kq) (w : World) : Prop := RwAt B 1 v L.length (rowC txc L) w
theorem KsAt.el {B : Nat} {ao : Option Addr} {cap : Nat} {L : Kq} {w : World} (h : KsAt B (.slice ao L.length cap) L w) {i : Nat} (hi : i < L.length) : ∃ b off, ao = some ⟨b, off, none⟩ ∧ w.cell? ⟨b, off + i, none⟩ = some (.string (bs (L.getD i []))) := by
  obtain ⟨b, off, e, hc⟩ := rowC_el txc_len ([] : Tx) (by omega) rfl h hi
  have := hc 0 _ (by omega) rfl
  exact ⟨b, off, e, by simpa using this⟩
theorem KsAt.shape {B : Nat} {v : Value} {L : Kq} {w : World} (h : KsAt B v L w) : ∃ ao cap, v = .slice ao L.length cap ∧ L.length ≤ cap ∧ cap ≤ 9223372036854775807 := by
  obtain ⟨ao, cap, e, _, h1, h2, _⟩ := h
  exact ⟨ao, cap, e, h1, h2⟩
theorem KsAt.on {B : Nat} {v : Value} {L : Kq} {w w' : World} (h : KsAt B v L w) (hb : Below B w w') : KsAt B v L w' := RwAt.on h hb
def Rg (x : Int) : Prop := -9223372036854775808 ≤ x ∧ x ≤ 9223372036854775807
/-- PA B p M K w: the program's post behind the pointer p has K under way; what it writes anew lies in the blocks of M, all from B on. -/
structure Ifo (PA : Nat → Nat → (Nat → Prop) → Kq → World → Prop) : Prop where
  lt : ∀ {B p : Nat} {M : Nat → Prop} {K : Kq} {w : World}, PA B p M K w → ∀ k, M k → B ≤ k ∧ k < w.heap.size
  keep : ∀ {B p : Nat} {M G : Nat → Prop} {K : Kq} {w w' : World}, PA B p M K w → Kept G w w' → (∀ k, M k → ¬ G k) → PA B p M K w'
  ok : ∀ {B p : Nat} {M : Nat → Prop} {K : Kq} {w : World}, PA B p M K w → K.length ≤ 200
  new : ∀ w : World, Calls Try.prog 7 #[] w fun e w' => ∃ p M, e = .returned (.pointer (some ⟨p, 0, none⟩)) ∧ PA w.heap.size p M [] w' ∧ Below w.heap.size w w'
  send : ∀ {B p : Nat} {M : Nat → Prop} {K : Kq} {w : World} (s : Tx), PA B p M K w → Calls Try.prog 8 #[.pointer (some ⟨p, 0, none⟩), .string (bs s)] w fun e w' => e = .returned (.bool (sendB K)) ∧ ∃ M', PA B p M' (sendF s K) w' ∧ Kept M w w' ∧ ∀ i, M' i → M i ∨ w.heap.size ≤ i
  take : ∀ {B p : Nat} {M : Nat → Prop} {K : Kq} {w : World} (x : Int), PA B p M K w → Rg x → Calls Try.prog 10 #[.pointer (some ⟨p, 0, none⟩), .int .i64 x] w fun e w' => e = .returned (.tuple #[.string (bs (atF x K)), .bool (someB K)]) ∧ ∃ M', PA B p M' (takeF x K) w' ∧ Kept M w w' ∧ ∀ i, M' i → M i ∨ w.heap.size ≤ i
  lose : ∀ {B p : Nat} {M : Nat → Prop} {K : Kq} {w : World} (x : Int), PA B p M K w → Rg x → Calls Try.prog 12 #[.pointer (some ⟨p, 0, none⟩), .int .i64 x] w fun e w' => e = .returned (.bool (someB K)) ∧ ∃ M', PA B p M' (takeF x K) w' ∧ Kept M w w' ∧ ∀ i, M' i → M i ∨ w.heap.size ≤ i
  doub : ∀ {B p : Nat} {M : Nat → Prop} {K : Kq} {w : World} (x : Int), PA B p M K w → Rg x → Calls Try.prog 13 #[.pointer (some ⟨p, 0, none⟩), .int .i64 x] w fun e w' => e = .returned (.bool (doubB K)) ∧ ∃ M', PA B p M' (doubF x K) w' ∧ Kept M w w' ∧ ∀ i, M' i → M i ∨ w.heap.size ≤ i
  all : ∀ {B p : Nat} {M : Nat → Prop} {K : Kq} {w : World}, PA B p M K w → Calls Try.prog 16 #[.pointer (some ⟨p, 0, none⟩)] w fun e w' => ∃ v', e = .returned v' ∧ KsAt w'.heap.size v' K w' ∧ (∀ k, v'.ownBlock = some k → w.heap.size ≤ k) ∧ Below w.heap.size w w'
  send0 : ∀ (s : Tx) (w : World), Calls Try.prog 8 #[.pointer none, .string (bs s)] w fun e w' => e = .returned (.bool false) ∧ Below w.heap.size w w'
  take0 : ∀ (x : Int) (w : World), Rg x → Calls Try.prog 10 #[.pointer none, .int .i64 x] w fun e w' => e = .returned (.tuple #[.string (bs []), .bool false]) ∧ Below w.heap.size w w'
  lose0 : ∀ (x : Int) (w : World), Rg x → Calls Try.prog 12 #[.pointer none, .int .i64 x] w fun e w' => e = .returned (.bool false) ∧ Below w.heap.size w w'
  doub0 : ∀ (x : Int) (w : World), Rg x → Calls Try.prog 13 #[.pointer none, .int .i64 x] w fun e w' => e = .returned (.bool false) ∧ Below w.heap.size w w'
  all0 : ∀ w : World, Calls Try.prog 16 #[.pointer none] w fun e w' => ∃ ao cap, e = .returned (.slice ao 0 cap) ∧ Below w.heap.size w w'

variable {PA : Nat → Nat → (Nat → Prop) → Kq → World → Prop}

/-- All but F's blocks, from w's end on, may have turned. -/
def Kp (F : Nat → Prop) (w W W' : World) : Prop := Kept (fun i => ¬ F i ∧ w.heap.size ≤ i) W W'
theorem Kp.block {F : Nat → Prop} {w W W' : World} (h : Kp F w W W') {b : Nat} (hb : F b ∨ b < w.heap.size) {o : Obj} (ho : W.heap[b]? = some o) : W'.heap[b]? = some o := by
  rw [Kept.block h b (Array.getElem?_eq_some_iff.1 ho).1 (fun e => by rcases hb with hb | hb; exact e.1 hb; exact absurd e.2 (by omega))]
  exact ho
theorem Kp.trans {F : Nat → Prop} {w a b c : World} (h : Kp F w a b) (k : Kp F w b c) : Kp F w a c := Kept.trans h k (fun _ e => .inl e)
theorem Kp.of_below {F : Nat → Prop} {w W W' : World} (h : Below W.heap.size W W') : Kp F w W W' := Kept.of_below h
/-- The program's post in a law that began at w; the blocks of F are the law's own, and no part of it. -/
structure Pz (PA : Nat → Nat → (Nat → Prop) → Kq → World → Prop) (w : World) (p : Nat) (K : Kq) (F : Nat → Prop) (W : World) : Prop where
  ta : ∃ B M, PA B p M K W ∧ w.heap.size ≤ B ∧ ∀ k, M k → ¬ F k
  fl : ∀ k, F k → k < W.heap.size
  bel : Below w.heap.size w W
theorem Pz.on (I : Ifo PA) {w W W' : World} {p : Nat} {K : Kq} {F : Nat → Prop} (h : Pz PA w p K F W) (hb : Below W.heap.size W W') : Pz PA w p K F W' := by
  obtain ⟨B, M, hm, hB⟩ := h.ta
  exact ⟨⟨B, M, I.keep hm (Kept.of_below (F := fun _ => False) hb) (fun _ _ h => h), hB⟩, fun k hk => Nat.lt_of_lt_of_le (h.fl k hk) hb.size, h.bel.trans (hb.mono h.bel.size)⟩
theorem Pz.ok (I : Ifo PA) {w W : World} {p : Nat} {K : Kq} {F : Nat → Prop} (h : Pz PA w p K F W) : K.length ≤ 200 := by
  obtain ⟨B, M, hm, _⟩ := h.ta
  exact I.ok hm
/-- What was made anew is the law's own. -/
theorem Pz.more (I : Ifo PA) {w W W' : World} {p : Nat} {K : Kq} {F G : Nat → Prop} (h : Pz PA w p K F W) (hb : Below W.heap.size W W') (hG : ∀ k, G k → F k ∨ (W.heap.size ≤ k ∧ k < W'.heap.size)) : Pz PA w p K G W' := by
  obtain ⟨B, M, hm, hB, hM⟩ := h.ta
  refine ⟨⟨B, M, I.keep hm (Kept.of_below (F := fun _ => False) hb) (fun _ _ h => h), hB, fun k hk hg => ?_⟩, fun k hk => ?_, h.bel.trans (hb.mono h.bel.size)⟩
  · rcases hG k hg with e | e
    · exact hM k hk e
    · have := (I.lt hm k hk).2
      omega
  · rcases hG k hk with e | e
    · exact Nat.lt_of_lt_of_le (h.fl k e) hb.size
    · exact e.2
theorem Pz.less {w W : World} {p : Nat} {K : Kq} {F G : Nat → Prop} (h : Pz PA w p K F W) (hG : ∀ k, G k → F k) : Pz PA w p K G W := by
  obtain ⟨B, M, hm, hB, hM⟩ := h.ta
  exact ⟨⟨B, M, hm, hB, fun k hk hg => hM k hk (hG k hg)⟩, fun k hk => h.fl k (hG k hk), h.bel⟩
/-- The law's own blocks may turn. -/
theorem Pz.own (I : Ifo PA) {w W W' : World} {p : Nat} {K : Kq} {F : Nat → Prop} (h : Pz PA w p K F W) (hk : Kept F W W') (hF : ∀ k, F k → w.heap.size ≤ k) : Pz PA w p K F W' := by
  obtain ⟨B, M, hm, hB, hM⟩ := h.ta
  exact ⟨⟨B, M, I.keep hm hk hM, hB, hM⟩, fun k hk' => Nat.lt_of_lt_of_le (h.fl k hk') hk.size, h.bel.trans (hk.below h.bel.size hF)⟩
theorem pz_kp {w W W' : World} {F M : Nat → Prop} {B : Nat} (hk : Kept M W W') (hB : w.heap.size ≤ B) (hM : ∀ k, M k → ¬ F k) (hl : ∀ k, M k → B ≤ k) : Kp F w W W' := ⟨hk.os, hk.tape, hk.output, hk.size, fun i hi hn => hk.block i hi (fun hm => hn ⟨hM i hm, Nat.le_trans hB (hl i hm)⟩)⟩
theorem pz_new (I : Ifo PA) {w W : World} {F : Nat → Prop} (h : Below w.heap.size w W) (hF : ∀ k, F k → k < W.heap.size) : Calls Try.prog 7 #[] W fun e w' => ∃ p, e = .returned (.pointer (some ⟨p, 0, none⟩)) ∧ Pz PA w p [] F w' ∧ Below W.heap.size W w' := by
  refine (I.new W).mono ?_
  rintro e w' ⟨p, M, rfl, hm, hb⟩
  refine ⟨p, rfl, ⟨⟨W.heap.size, M, hm, h.size, fun k hk hf => ?_⟩, fun k hk => Nat.lt_of_lt_of_le (hF k hk) hb.size, h.trans (hb.mono h.size)⟩, hb⟩
  have := (I.lt hm k hk).1
  have := hF k hf
  omega
theorem pz_post (I : Ifo PA) {w W W' : World} {p : Nat} {K K' : Kq} {F M M' : Nat → Prop} {B : Nat} (h : Pz PA w p K F W) (hm : PA B p M K W) (hB : w.heap.size ≤ B) (hM : ∀ k, M k → ¬ F k) (hm' : PA B p M' K' W') (hk : Kept M W W') (hn : ∀ i, M' i → M i ∨ W.heap.size ≤ i) : Pz PA w p K' F W' ∧ Kp F w W W' := by
  refine ⟨⟨⟨B, M', hm', hB, fun k hk' hf => ?_⟩, fun k hk' => Nat.lt_of_lt_of_le (h.fl k hk') hk.size, h.bel.trans (hk.below h.bel.size (fun i hi => Nat.le_trans hB (I.lt hm i hi).1))⟩, pz_kp hk hB hM (fun k hk => (I.lt hm k hk).1)⟩
  rcases hn k hk' with e | e
  · exact hM k e hf
  · have := h.fl k hf
    omega
section
variable {w W : World} {p : Nat} {K : Kq} {F : Nat → Prop}
theorem pz_send (I : Ifo PA) (s : Tx) (h : Pz PA w p K F W) : Calls Try.prog 8 #[.pointer (some ⟨p, 0, none⟩), .string (bs s)] W fun e w' => e = .returned (.bool (sendB K)) ∧ Pz PA w p (sendF s K) F w' ∧ Kp F w W w' := by
  obtain ⟨B, M, hm, hB, hM⟩ := h.ta
  refine (I.send s hm).mono ?_
  rintro e w' ⟨rfl, M', hm', hk, hn⟩
  exact ⟨rfl, pz_post I h hm hB hM hm' hk hn⟩
theorem pz_take (I : Ifo PA) (x : Int) (hx : Rg x) (h : Pz PA w p K F W) : Calls Try.prog 10 #[.pointer (some ⟨p, 0, none⟩), .int .i64 x] W fun e w' => e = .returned (.tuple #[.string (bs (atF x K)), .bool (someB K)]) ∧ Pz PA w p (takeF x K) F w' ∧ Kp F w W w' := by
  obtain ⟨B, M, hm, hB, hM⟩ := h.ta
  refine (I.take x hm hx).mono ?_
  rintro e w' ⟨rfl, M', hm', hk, hn⟩
  exact ⟨rfl, pz_post I h hm hB hM hm' hk hn⟩
theorem pz_lose (I : Ifo PA) (x : Int) (hx : Rg x) (h : Pz PA w p K F W) : Calls Try.prog 12 #[.pointer (some ⟨p, 0, none⟩), .int .i64 x] W fun e w' => e = .returned (.bool (someB K)) ∧ Pz PA w p (takeF x K) F w' ∧ Kp F w W w' := by
  obtain ⟨B, M, hm, hB, hM⟩ := h.ta
  refine (I.lose x hm hx).mono ?_
  rintro e w' ⟨rfl, M', hm', hk, hn⟩
  exact ⟨rfl, pz_post I h hm hB hM hm' hk hn⟩
theorem pz_doub (I : Ifo PA) (x : Int) (hx : Rg x) (h : Pz PA w p K F W) : Calls Try.prog 13 #[.pointer (some ⟨p, 0, none⟩), .int .i64 x] W fun e w' => e = .returned (.bool (doubB K)) ∧ Pz PA w p (doubF x K) F w' ∧ Kp F w W w' := by
  obtain ⟨B, M, hm, hB, hM⟩ := h.ta
  refine (I.doub x hm hx).mono ?_
  rintro e w' ⟨rfl, M', hm', hk, hn⟩
  exact ⟨rfl, pz_post I h hm hB hM hm' hk hn⟩
theorem pz_all (I : Ifo PA) (h : Pz PA w p K F W) : Calls Try.prog 16 #[.pointer (some ⟨p, 0, none⟩)] W fun e w' => ∃ v', e = .returned v' ∧ KsAt w'.heap.size v' K w' ∧ (∀ k, v'.ownBlock = some k → W.heap.size ≤ k) ∧ Pz PA w p K F w' ∧ Below W.heap.size W w' := by
  obtain ⟨B, M, hm, hB, hM⟩ := h.ta
  refine (I.all hm).mono ?_
  rintro e w' ⟨v', rfl, hi, hv, hb⟩
  exact ⟨v', rfl, hi, hv, h.on I hb, hb⟩
end
end Go.Proofs.Ytfpckkkicjndlaa
