/-
  Two of the program's stores, apart from each other; blocks of the law's own.
-/
import Derived.Test.YtcfhkggijdjagaaNow
namespace Go.Proofs.Ytcfhkggijdjagaa
open Go.RowKit
variable {SA : Nat → Nat → (Nat → Prop) → Sk → World → Prop}

theorem pb_new (I : Ifs SA) {w W : World} {Bx : List Nat} (h : Below w.heap.size w W) (hx : ∀ b ∈ Bx, b < W.heap.size) : Calls Try.prog 10 #[] W fun e w' => ∃ p, e = .returned (.pointer (some ⟨p, 0, none⟩)) ∧ Pb SA w p [] Bx w' ∧ Below W.heap.size W w' := by
  refine (I.new W).mono ?_
  rintro e w' ⟨p, M, rfl, hm, hb⟩
  exact ⟨p, rfl, ⟨⟨W.heap.size, M, hm, h.size, fun b hb' => ⟨fun hmb => by have := (I.lt hm b hmb).1; have := hx b hb'; omega, Nat.lt_of_lt_of_le (hx b hb') hb.size⟩⟩, by decide, h.trans (hb.mono h.size)⟩, hb⟩
structure P2 (SA : Nat → Nat → (Nat → Prop) → Sk → World → Prop) (w : World) (p : Nat) (S : Sk) (q : Nat) (T : Sk) (Bx : List Nat) (W : World) : Prop where
  sa : ∃ B M C N, SA B p M S W ∧ SA C q N T W ∧ w.heap.size ≤ B ∧ w.heap.size ≤ C ∧ (∀ k, M k → ¬ N k) ∧ ∀ b ∈ Bx, ¬ M b ∧ ¬ N b ∧ b < W.heap.size
  ts : totS S < 10000
  tt : totS T < 10000
  bel : Below w.heap.size w W
theorem P2.one {w W : World} {p q : Nat} {S T : Sk} {Bx : List Nat} (h : P2 SA w p S q T Bx W) : Pw SA w p S W := by
  obtain ⟨B, M, C, N, h1, h2, h3, h4, h5, h6⟩ := h.sa
  exact ⟨⟨B, M, h1, h3⟩, h.ts, h.bel⟩
theorem P2.two {w W : World} {p q : Nat} {S T : Sk} {Bx : List Nat} (h : P2 SA w p S q T Bx W) : Pw SA w q T W := by
  obtain ⟨B, M, C, N, h1, h2, h3, h4, h5, h6⟩ := h.sa
  exact ⟨⟨C, N, h2, h4⟩, h.tt, h.bel⟩
theorem P2.on (I : Ifs SA) {w W W' : World} {p q : Nat} {S T : Sk} {Bx : List Nat} (h : P2 SA w p S q T Bx W) (hb : Below W.heap.size W W') : P2 SA w p S q T Bx W' := by
  obtain ⟨B, M, C, N, h1, h2, h3, h4, h5, h6⟩ := h.sa
  have hk : Kept (fun _ => False) W W' := Kept.of_below hb
  exact ⟨⟨B, M, C, N, I.keep h1 hk (fun _ _ h => h) (fun _ h => h.elim), I.keep h2 hk (fun _ _ h => h) (fun _ h => h.elim), h3, h4, h5, fun b hb' => ⟨(h6 b hb').1, (h6 b hb').2.1, Nat.lt_of_lt_of_le (h6 b hb').2.2 hb.size⟩⟩, h.ts, h.tt, h.bel.trans (hb.mono h.bel.size)⟩
theorem P2.dr (I : Ifs SA) {w W : World} {p q : Nat} {S T : Sk} {Bx : List Nat} (h : P2 SA w p S q T Bx W) : P2 SA w p S q T Bx W.drew := h.on I (Below.refl _ _).drew
theorem P2.box (I : Ifs SA) {w W : World} {p q : Nat} {S T : Sk} {Bx : List Nat} (h : P2 SA w p S q T Bx W) (o : Obj) : P2 SA w p S q T (W.heap.size :: Bx) (W.alloc o) := by
  obtain ⟨B, M, C, N, h1, h2, h3, h4, h5, h6⟩ := h.sa
  have hk : Kept (fun _ => False) W (W.alloc o) := Kept.of_below (al o)
  refine ⟨⟨B, M, C, N, I.keep h1 hk (fun _ _ h => h) (fun _ h => h.elim), I.keep h2 hk (fun _ _ h => h) (fun _ h => h.elim), h3, h4, h5, fun b hb => ?_⟩, h.ts, h.tt, (h.on I (al o)).bel⟩
  rcases List.mem_cons.1 hb with rfl | hb
  · exact ⟨fun hm => by have := (I.lt h1 _ hm).2; omega, fun hm => by have := (I.lt h2 _ hm).2; omega, by simp⟩
  · exact ⟨(h6 b hb).1, (h6 b hb).2.1, Nat.lt_of_lt_of_le (h6 b hb).2.2 (al o).size⟩
theorem P2.drop {w W : World} {p q : Nat} {S T : Sk} {Bx Bx' : List Nat} (h : P2 SA w p S q T Bx W) (hs : ∀ b ∈ Bx', b ∈ Bx) : P2 SA w p S q T Bx' W := by
  obtain ⟨B, M, C, N, h1, h2, h3, h4, h5, h6⟩ := h.sa
  exact ⟨⟨B, M, C, N, h1, h2, h3, h4, h5, fun b hb => h6 b (hs b hb)⟩, h.ts, h.tt, h.bel⟩
/-- A second store beside the first. -/
theorem Pb.join (I : Ifs SA) {w W W' : World} {p q : Nat} {S T : Sk} {Bx : List Nat} (h : Pb SA w p S Bx W) (h2 : Pw SA W q T W') : P2 SA w p S q T Bx W' := by
  obtain ⟨B, M, hm, hB, hx⟩ := h.sa
  obtain ⟨C, N, hn, hC⟩ := h2.sa
  exact ⟨⟨B, M, C, N, I.keep hm (Kept.of_below (F := fun _ => False) h2.bel) (fun _ _ h => h) (fun _ h => h.elim), hn, hB, Nat.le_trans h.bel.size hC, fun k h1 h3 => by have := (I.lt hm k h1).2; have := (I.lt hn k h3).1; omega, fun b hb => ⟨(hx b hb).1, fun h3 => by have := (hx b hb).2; have := (I.lt hn b h3).1; omega, Nat.lt_of_lt_of_le (hx b hb).2 h2.bel.size⟩⟩, h.tot, h2.tot, h.bel.trans (h2.bel.mono h.bel.size)⟩
theorem p2_put1 (I : Ifs SA) {w W : World} {p q : Nat} {S T : Sk} {Bx : List Nat} (k : List UInt8) (x : Ve) (h : P2 SA w p S q T Bx W) (ht : totS S < 9000) : Calls Try.prog 11 #[.pointer (some ⟨p, 0, none⟩), .string (bs k), veV x] W fun e w' => e = .returned (.int .i64 (putS k x S).2) ∧ P2 SA w p (putS k x S).1 q T Bx w' ∧ ∀ b ∈ Bx, w'.heap[b]? = W.heap[b]? := by
  obtain ⟨B, M, C, N, h1, h2, h3, h4, h5, h6⟩ := h.sa
  refine (I.put k x h1 h.ts).mono ?_
  rintro e w' ⟨rfl, M', hm', hk, hn⟩
  refine ⟨rfl, ⟨⟨B, M', C, N, hm', I.keep h2 hk (fun i hi hm => h5 i hm hi) (I.nov h1), h3, h4, fun i hi hN => ?_, fun b hb => ⟨fun hmb => ?_, (h6 b hb).2.1, Nat.lt_of_lt_of_le (h6 b hb).2.2 hk.size⟩⟩, by have := tot_put (I.sok h1) k x; omega, h.tt, h.bel.trans (hk.below h.bel.size (fun i hi => Nat.le_trans h3 (I.lt h1 i hi).1))⟩, fun b hb => hk.block b (h6 b hb).2.2 (h6 b hb).1⟩
  · rcases hn i hi with e | e
    · exact h5 i e hN
    · have := (I.lt h2 i hN).2; omega
  · rcases hn b hmb with e | e
    · exact (h6 b hb).1 e
    · have := (h6 b hb).2.2; omega
theorem P2.swap {w W : World} {p q : Nat} {S T : Sk} {Bx : List Nat} (h : P2 SA w p S q T Bx W) : P2 SA w q T p S Bx W := by
  obtain ⟨B, M, C, N, h1, h2, h3, h4, h5, h6⟩ := h.sa
  exact ⟨⟨C, N, B, M, h2, h1, h4, h3, fun k hN hM => h5 k hM hN, fun b hb => ⟨(h6 b hb).2.1, (h6 b hb).1, (h6 b hb).2.2⟩⟩, h.tt, h.ts, h.bel⟩
theorem p2_put2 (I : Ifs SA) {w W : World} {p q : Nat} {S T : Sk} {Bx : List Nat} (k : List UInt8) (x : Ve) (h : P2 SA w p S q T Bx W) (ht : totS T < 9000) : Calls Try.prog 11 #[.pointer (some ⟨q, 0, none⟩), .string (bs k), veV x] W fun e w' => e = .returned (.int .i64 (putS k x T).2) ∧ P2 SA w p S q (putS k x T).1 Bx w' ∧ ∀ b ∈ Bx, w'.heap[b]? = W.heap[b]? := by
  refine (p2_put1 I k x h.swap ht).mono ?_
  rintro e w' ⟨rfl, h1, h2⟩
  exact ⟨rfl, h1.swap, h2⟩
theorem p2_prune2 (I : Ifs SA) {w W : World} {p q : Nat} {S T : Sk} {Bx : List Nat} (t u : Int) (h : P2 SA w p S q T Bx W) : Calls Try.prog 13 #[.pointer (some ⟨q, 0, none⟩), .agg #[.int .u64 t, .int .u32 u]] W fun e w' => e = .returned (.int .i64 (goneS t u T)) ∧ P2 SA w p S q (pruneS t u T) Bx w' ∧ ∀ b ∈ Bx, w'.heap[b]? = W.heap[b]? := by
  obtain ⟨C, N, B, M, h2, h1, h4, h3, h5, h6⟩ := h.sa
  refine (I.prune t u h1 h.tt).mono ?_
  rintro e w' ⟨rfl, M', hm', hk, hn⟩
  refine ⟨rfl, ⟨⟨C, N, B, M', I.keep h2 hk (fun i hi hm => h5 i hi hm) (I.nov h1), hm', h4, h3, fun i hN hi => ?_, fun b hb => ⟨(h6 b hb).1, fun hmb => ?_, Nat.lt_of_lt_of_le (h6 b hb).2.2 hk.size⟩⟩, h.ts, by have := tot_prune t u (I.sok h1).all; have := h.tt; omega, h.bel.trans (hk.below h.bel.size (fun i hi => Nat.le_trans h3 (I.lt h1 i hi).1))⟩, fun b hb => hk.block b (h6 b hb).2.2 (h6 b hb).2.1⟩
  · rcases hn i hi with e | e
    · exact h5 i hN e
    · have := (I.lt h2 i hN).2; omega
  · rcases hn b hmb with e | e
    · exact (h6 b hb).2.1 e
    · have := (h6 b hb).2.2; omega

theorem put_same {S T : Sk} {k : List UInt8} (v : Ve) (h : chainF k S = chainF k T) : (putS k v S).2 = (putS k v T).2 := by
  unfold putS
  rw [h]
  split
  · split <;> rfl
  · rfl
theorem apart_put {S T : Sk} (hS : SOk S) (hT : SOk T) {key : List UInt8} (v : Ve) (h : chainF key S = chainF key T) : chainF key (putS key v S).1 = chainF key (putS key v T).1 := by
  rw [chain_put hS, chain_put hT, put_same v h, h]
theorem apart_other {S : Sk} (hS : SOk S) {k key : List UInt8} (v : Ve) (h : ¬ k = key) : chainF key (putS k v S).1 = chainF key S := by
  rw [chain_put hS, if_neg (fun e => h e.1)]
end Go.Proofs.Ytcfhkggijdjagaa
