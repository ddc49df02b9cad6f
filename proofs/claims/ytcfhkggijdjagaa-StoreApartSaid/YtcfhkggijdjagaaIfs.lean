/-
  What the laws ask of the program's store, whatever it is made of.
-/
import Derived.Test.YtcfhkggijdjagaaRsame
import Derived.Test.YtcfhkggijdjagaaRprune
import Derived.Test.YtcfhkggijdjagaaCCalls
namespace Go.Proofs.Ytcfhkggijdjagaa
open Go.RowKit

/-- SA B p M S w: the program's store behind the pointer p has S; what it writes anew lies in the blocks of M, all from B on. -/
structure Ifs (SA : Nat → Nat → (Nat → Prop) → Sk → World → Prop) : Prop where
  lt : ∀ {B p : Nat} {M : Nat → Prop} {S : Sk} {w : World}, SA B p M S w → ∀ k, M k → B ≤ k ∧ k < w.heap.size
  nov : ∀ {B p : Nat} {M : Nat → Prop} {S : Sk} {w : World}, SA B p M S w → ∀ k, M k → NoVe w k
  keep : ∀ {B p : Nat} {M G : Nat → Prop} {S : Sk} {w w' : World}, SA B p M S w → Kept G w w' → (∀ k, M k → ¬ G k) → (∀ k, G k → NoVe w k) → SA B p M S w'
  sok : ∀ {B p : Nat} {M : Nat → Prop} {S : Sk} {w : World}, SA B p M S w → SOk S
  new : ∀ w : World, Calls Try.prog 10 #[] w fun e w' => ∃ p M, e = .returned (.pointer (some ⟨p, 0, none⟩)) ∧ SA w.heap.size p M [] w' ∧ Below w.heap.size w w'
  put : ∀ {B p : Nat} {M : Nat → Prop} {S : Sk} {w : World} (k : List UInt8) (x : Ve), SA B p M S w → totS S < 10000 → Calls Try.prog 11 #[.pointer (some ⟨p, 0, none⟩), .string (bs k), veV x] w fun e w' => e = .returned (.int .i64 (putS k x S).2) ∧ ∃ M', SA B p M' (putS k x S).1 w' ∧ Kept M w w' ∧ ∀ i, M' i → M i ∨ w.heap.size ≤ i
  prune : ∀ {B p : Nat} {M : Nat → Prop} {S : Sk} {w : World} (t u : Int), SA B p M S w → totS S < 10000 → Calls Try.prog 13 #[.pointer (some ⟨p, 0, none⟩), .agg #[.int .u64 t, .int .u32 u]] w fun e w' => e = .returned (.int .i64 (goneS t u S)) ∧ ∃ M', SA B p M' (pruneS t u S) w' ∧ Kept M w w' ∧ ∀ i, M' i → M i ∨ w.heap.size ≤ i
  get : ∀ {B p : Nat} {M : Nat → Prop} {S : Sk} {w : World} (k : List UInt8) (t u : Int), SA B p M S w → totS S < 10000 → Calls Try.prog 15 #[.pointer (some ⟨p, 0, none⟩), .string (bs k), .agg #[.int .u64 t, .int .u32 u]] w fun e w' => e = .returned (.tuple #[.string (bs (getV (seeF (chainF k S) t u)).1), .bool (getV (seeF (chainF k S) t u)).2]) ∧ Below w.heap.size w w'
  newest : ∀ {B p : Nat} {M : Nat → Prop} {S : Sk} {w : World} (k : List UInt8), SA B p M S w → totS S < 10000 → Calls Try.prog 17 #[.pointer (some ⟨p, 0, none⟩), .string (bs k)] w fun e w' => e = .returned (.agg #[.int .u64 (newF (chainF k S)).1, .int .u32 (newF (chainF k S)).2]) ∧ Below w.heap.size w w'
  count : ∀ {B p : Nat} {M : Nat → Prop} {S : Sk} {w : World} (k : List UInt8), SA B p M S w → totS S < 10000 → Calls Try.prog 19 #[.pointer (some ⟨p, 0, none⟩), .string (bs k)] w fun e w' => e = .returned (.int .i64 (chainF k S).length) ∧ Below w.heap.size w w'
  scan : ∀ {B p : Nat} {M : Nat → Prop} {S : Sk} {w : World} (lo hi : List UInt8) (t u limit : Int), SA B p M S w → totS S < 10000 → Calls Try.prog 22 #[.pointer (some ⟨p, 0, none⟩), .string (bs lo), .string (bs hi), .agg #[.int .u64 t, .int .u32 u], .int .i64 limit] w fun e w' => ∃ v', e = .returned v' ∧ w'.ownsRow w.heap.size 59 2 v' (scanS lo hi t u limit S).length (prc (scanS lo hi t u limit S)) ∧ Below w.heap.size w w'
  items : ∀ {B p : Nat} {M : Nat → Prop} {S : Sk} {w : World}, SA B p M S w → totS S < 10000 → Calls Try.prog 25 #[.pointer (some ⟨p, 0, none⟩)] w fun e w' => ∃ v' L, e = .returned v' ∧ ItAt v' L S w' ∧ Below w.heap.size w w'
  put0 : ∀ (k : List UInt8) (x : Ve) (w : World), Calls Try.prog 11 #[.pointer none, .string (bs k), veV x] w fun e w' => e = .returned (.int .i64 1) ∧ Below w.heap.size w w'
  prune0 : ∀ (t u : Int) (w : World), Calls Try.prog 13 #[.pointer none, .agg #[.int .u64 t, .int .u32 u]] w fun e w' => e = .returned (.int .i64 0) ∧ Below w.heap.size w w'
  get0 : ∀ (k : List UInt8) (t u : Int) (w : World), Calls Try.prog 15 #[.pointer none, .string (bs k), .agg #[.int .u64 t, .int .u32 u]] w fun e w' => e = .returned (.tuple #[.string ⟨#[]⟩, .bool false]) ∧ Below w.heap.size w w'
  newest0 : ∀ (k : List UInt8) (w : World), Calls Try.prog 17 #[.pointer none, .string (bs k)] w fun e w' => e = .returned (.agg #[.int .u64 0, .int .u32 0]) ∧ Below w.heap.size w w'
  count0 : ∀ (k : List UInt8) (w : World), Calls Try.prog 19 #[.pointer none, .string (bs k)] w fun e w' => e = .returned (.int .i64 0) ∧ Below w.heap.size w w'
  scan0 : ∀ (lo hi : List UInt8) (t u limit : Int) (w : World), Calls Try.prog 22 #[.pointer none, .string (bs lo), .string (bs hi), .agg #[.int .u64 t, .int .u32 u], .int .i64 limit] w fun e w' => ∃ ao cap, e = .returned (.slice ao 0 cap) ∧ Below w.heap.size w w'
  items0 : ∀ w : World, Calls Try.prog 25 #[.pointer none] w fun e w' => ∃ ao cap, e = .returned (.slice ao 0 cap) ∧ Below w.heap.size w w'

variable {SA : Nat → Nat → (Nat → Prop) → Sk → World → Prop}

/-- The program's store in a law that began at w: nothing that was there has turned. -/
structure Pw (SA : Nat → Nat → (Nat → Prop) → Sk → World → Prop) (w : World) (p : Nat) (S : Sk) (W : World) : Prop where
  sa : ∃ B M, SA B p M S W ∧ w.heap.size ≤ B
  tot : totS S < 10000
  bel : Below w.heap.size w W
theorem Pw.on (I : Ifs SA) {w W W' : World} {p : Nat} {S : Sk} (h : Pw SA w p S W) (hb : Below W.heap.size W W') : Pw SA w p S W' := by
  obtain ⟨B, M, hm, hB⟩ := h.sa
  exact ⟨⟨B, M, I.keep hm (Kept.of_below (F := fun _ => False) hb) (fun _ _ h => h) (fun _ h => h.elim), hB⟩, h.tot, h.bel.trans (hb.mono h.bel.size)⟩
theorem Pw.sok (I : Ifs SA) {w W : World} {p : Nat} {S : Sk} (h : Pw SA w p S W) : SOk S := by
  obtain ⟨B, M, hm, hB⟩ := h.sa
  exact I.sok hm
theorem pw_new (I : Ifs SA) {w W : World} (h : Below w.heap.size w W) : Calls Try.prog 10 #[] W fun e w' => ∃ p, e = .returned (.pointer (some ⟨p, 0, none⟩)) ∧ Pw SA w p [] w' := by
  refine (I.new W).mono ?_
  rintro e w' ⟨p, M, rfl, hm, hb⟩
  exact ⟨p, rfl, ⟨W.heap.size, M, hm, h.size⟩, by decide, h.trans (hb.mono h.size)⟩
theorem pw_put (I : Ifs SA) {w W : World} {p : Nat} {S : Sk} (k : List UInt8) (x : Ve) (h : Pw SA w p S W) (ht : totS S < 9000) : Calls Try.prog 11 #[.pointer (some ⟨p, 0, none⟩), .string (bs k), veV x] W fun e w' => e = .returned (.int .i64 (putS k x S).2) ∧ Pw SA w p (putS k x S).1 w' := by
  obtain ⟨B, M, hm, hB⟩ := h.sa
  refine (I.put k x hm h.tot).mono ?_
  rintro e w' ⟨rfl, M', hm', hk, _⟩
  exact ⟨rfl, ⟨B, M', hm', hB⟩, by have := tot_put (I.sok hm) k x; omega, h.bel.trans (hk.below h.bel.size (fun i hi => Nat.le_trans hB (I.lt hm i hi).1))⟩
theorem pw_prune (I : Ifs SA) {w W : World} {p : Nat} {S : Sk} (t u : Int) (h : Pw SA w p S W) : Calls Try.prog 13 #[.pointer (some ⟨p, 0, none⟩), .agg #[.int .u64 t, .int .u32 u]] W fun e w' => e = .returned (.int .i64 (goneS t u S)) ∧ Pw SA w p (pruneS t u S) w' := by
  obtain ⟨B, M, hm, hB⟩ := h.sa
  refine (I.prune t u hm h.tot).mono ?_
  rintro e w' ⟨rfl, M', hm', hk, _⟩
  exact ⟨rfl, ⟨B, M', hm', hB⟩, by have := tot_prune t u (I.sok hm).all; have := h.tot; omega, h.bel.trans (hk.below h.bel.size (fun i hi => Nat.le_trans hB (I.lt hm i hi).1))⟩
theorem pw_get (I : Ifs SA) {w W : World} {p : Nat} {S : Sk} (k : List UInt8) (t u : Int) (h : Pw SA w p S W) : Calls Try.prog 15 #[.pointer (some ⟨p, 0, none⟩), .string (bs k), .agg #[.int .u64 t, .int .u32 u]] W fun e w' => e = .returned (.tuple #[.string (bs (getV (seeF (chainF k S) t u)).1), .bool (getV (seeF (chainF k S) t u)).2]) ∧ Pw SA w p S w' ∧ Below W.heap.size W w' := by
  obtain ⟨B, M, hm, hB⟩ := h.sa
  refine (I.get k t u hm h.tot).mono ?_
  rintro e w' ⟨rfl, hb⟩
  exact ⟨rfl, h.on I hb, hb⟩
theorem pw_newest (I : Ifs SA) {w W : World} {p : Nat} {S : Sk} (k : List UInt8) (h : Pw SA w p S W) : Calls Try.prog 17 #[.pointer (some ⟨p, 0, none⟩), .string (bs k)] W fun e w' => e = .returned (.agg #[.int .u64 (newF (chainF k S)).1, .int .u32 (newF (chainF k S)).2]) ∧ Pw SA w p S w' ∧ Below W.heap.size W w' := by
  obtain ⟨B, M, hm, hB⟩ := h.sa
  refine (I.newest k hm h.tot).mono ?_
  rintro e w' ⟨rfl, hb⟩
  exact ⟨rfl, h.on I hb, hb⟩
theorem pw_count (I : Ifs SA) {w W : World} {p : Nat} {S : Sk} (k : List UInt8) (h : Pw SA w p S W) : Calls Try.prog 19 #[.pointer (some ⟨p, 0, none⟩), .string (bs k)] W fun e w' => e = .returned (.int .i64 (chainF k S).length) ∧ Pw SA w p S w' ∧ Below W.heap.size W w' := by
  obtain ⟨B, M, hm, hB⟩ := h.sa
  refine (I.count k hm h.tot).mono ?_
  rintro e w' ⟨rfl, hb⟩
  exact ⟨rfl, h.on I hb, hb⟩
theorem pw_scan (I : Ifs SA) {w W : World} {p : Nat} {S : Sk} (lo hi : List UInt8) (t u limit : Int) (h : Pw SA w p S W) : Calls Try.prog 22 #[.pointer (some ⟨p, 0, none⟩), .string (bs lo), .string (bs hi), .agg #[.int .u64 t, .int .u32 u], .int .i64 limit] W fun e w' => ∃ v', e = .returned v' ∧ w'.ownsRow W.heap.size 59 2 v' (scanS lo hi t u limit S).length (prc (scanS lo hi t u limit S)) ∧ Pw SA w p S w' ∧ Below W.heap.size W w' := by
  obtain ⟨B, M, hm, hB⟩ := h.sa
  refine (I.scan lo hi t u limit hm h.tot).mono ?_
  rintro e w' ⟨v', rfl, ho, hb⟩
  exact ⟨v', rfl, ho, h.on I hb, hb⟩
theorem pw_items (I : Ifs SA) {w W : World} {p : Nat} {S : Sk} (h : Pw SA w p S W) : Calls Try.prog 25 #[.pointer (some ⟨p, 0, none⟩)] W fun e w' => ∃ v' L, e = .returned v' ∧ ItAt v' L S w' ∧ Pw SA w p S w' ∧ Below W.heap.size W w' := by
  obtain ⟨B, M, hm, hB⟩ := h.sa
  refine (I.items hm h.tot).mono ?_
  rintro e w' ⟨v', L, rfl, hi, hb⟩
  exact ⟨v', L, rfl, hi, h.on I hb, hb⟩
end Go.Proofs.Ytcfhkggijdjagaa
