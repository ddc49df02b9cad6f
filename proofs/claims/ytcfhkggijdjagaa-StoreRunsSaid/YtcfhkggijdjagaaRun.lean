/-
  The program's store and the document's, apart from each other; the walk of StoreRuns.
-/
import Derived.Test.YtcfhkggijdjagaaApart
namespace Go.Proofs.Ytcfhkggijdjagaa
open Go.RowKit
variable {SA : Nat → Nat → (Nat → Prop) → Sk → World → Prop}

theorem RsAt.lt {B rb : Nat} {F : Nat → Prop} {S : Sk} {w : World} (h : RsAt B rb F S w) : ∀ k, F k → B ≤ k ∧ k < w.heap.size := by
  obtain ⟨sl, L, h1, rfl⟩ := h
  exact fun k hk => h1.ref.lt hk
theorem RsAt.kept {B rb : Nat} {F G : Nat → Prop} {S : Sk} {w w' : World} (h : RsAt B rb F S w) (hk : Kept G w w') (hF : ∀ k, F k → ¬ G k) (hG : ∀ k, G k → NoVe w k) : RsAt B rb F S w' := by
  obtain ⟨sl, L, h1, rfl⟩ := h
  exact ⟨sl, L, h1.kept hk hF hG, rfl⟩
theorem RsAt.rb {B rb : Nat} {F : Nat → Prop} {S : Sk} {w : World} (h : RsAt B rb F S w) : F rb ∧ NoVe w rb := by
  obtain ⟨sl, L, h1, rfl⟩ := h
  exact ⟨.inl rfl, h1.ref.noVe⟩
theorem RsAt.sok {B rb : Nat} {F : Nat → Prop} {S : Sk} {w : World} (h : RsAt B rb F S w) : SOk S := by
  obtain ⟨sl, L, h1, rfl⟩ := h
  exact h1.sok
theorem RsAt.new (w : World) : RsAt w.heap.size w.heap.size (foot w.heap.size (.slice none 0 0)) [] (w.alloc (.cells #[.slice none 0 0] 29)) :=
  ⟨.slice none 0 0, [], ⟨⟨heap_alloc_new w _, own_nil _ _ _ _, Nat.le_refl _, by simp [Value.ownBlock], List.Pairwise.nil⟩, trivial, SOk.nil⟩, rfl⟩
structure P3 (SA : Nat → Nat → (Nat → Prop) → Sk → World → Prop) (w : World) (p rb : Nat) (S T : Sk) (Bx : List Nat) (W : World) : Prop where
  ex : ∃ B M C F, SA B p M S W ∧ RsAt C rb F T W ∧ w.heap.size ≤ B ∧ w.heap.size ≤ C ∧ (∀ k, M k → ¬ F k) ∧ ∀ b ∈ Bx, ¬ M b ∧ ¬ F b ∧ b < W.heap.size
  ts : totS S < 1000
  tt : totS T < 1000
  bel : Below w.heap.size w W
theorem P3.pw {w W : World} {p rb : Nat} {S T : Sk} {Bx : List Nat} (h : P3 SA w p rb S T Bx W) : Pw SA w p S W := by
  obtain ⟨B, M, C, F, h1, h2, h3, h4, h5, h6⟩ := h.ex
  exact ⟨⟨B, M, h1, h3⟩, by have := h.ts; omega, h.bel⟩
theorem P3.rs {w W : World} {p rb : Nat} {S T : Sk} {Bx : List Nat} (h : P3 SA w p rb S T Bx W) : ∃ C F, RsAt C rb F T W := by
  obtain ⟨B, M, C, F, h1, h2, h3, h4, h5, h6⟩ := h.ex
  exact ⟨C, F, h2⟩
theorem P3.on (I : Ifs SA) {w W W' : World} {p rb : Nat} {S T : Sk} {Bx : List Nat} (h : P3 SA w p rb S T Bx W) (hb : Below W.heap.size W W') : P3 SA w p rb S T Bx W' := by
  obtain ⟨B, M, C, F, h1, h2, h3, h4, h5, h6⟩ := h.ex
  exact ⟨⟨B, M, C, F, I.keep h1 (Kept.of_below (F := fun _ => False) hb) (fun _ _ h => h) (fun _ h => h.elim), h2.on hb, h3, h4, h5, fun b hb' => ⟨(h6 b hb').1, (h6 b hb').2.1, Nat.lt_of_lt_of_le (h6 b hb').2.2 hb.size⟩⟩, h.ts, h.tt, h.bel.trans (hb.mono h.bel.size)⟩
theorem P3.box (I : Ifs SA) {w W : World} {p rb : Nat} {S T : Sk} {Bx : List Nat} (h : P3 SA w p rb S T Bx W) (o : Obj) : P3 SA w p rb S T (W.heap.size :: Bx) (W.alloc o) := by
  have hon := h.on I (al o)
  obtain ⟨B, M, C, F, h1, h2, h3, h4, h5, h6⟩ := h.ex
  refine ⟨⟨B, M, C, F, I.keep h1 (Kept.of_below (F := fun _ => False) (al o)) (fun _ _ h => h) (fun _ h => h.elim), h2.on (al o), h3, h4, h5, fun b hb => ?_⟩, h.ts, h.tt, hon.bel⟩
  rcases List.mem_cons.1 hb with rfl | hb
  · exact ⟨fun hm => by have := (I.lt h1 _ hm).2; omega, fun hm => by have := (h2.lt _ hm).2; omega, by simp⟩
  · exact ⟨(h6 b hb).1, (h6 b hb).2.1, Nat.lt_of_lt_of_le (h6 b hb).2.2 (al o).size⟩
theorem P3.drop {w W : World} {p rb : Nat} {S T : Sk} {Bx : List Nat} (h : P3 SA w p rb S T Bx W) : P3 SA w p rb S T [] W := by
  obtain ⟨B, M, C, F, h1, h2, h3, h4, h5, h6⟩ := h.ex
  exact ⟨⟨B, M, C, F, h1, h2, h3, h4, h5, fun b hb => by cases hb⟩, h.ts, h.tt, h.bel⟩
theorem p3_new (I : Ifs SA) {w W : World} {p : Nat} (h : Pw SA w p [] W) : P3 SA w p W.heap.size [] [] [] (W.alloc (.cells #[.slice none 0 0] 29)) := by
  obtain ⟨B, M, hm, hB⟩ := h.sa
  refine ⟨⟨B, M, W.heap.size, _, I.keep hm (Kept.of_below (F := fun _ => False) (al _)) (fun _ _ h => h) (fun _ h => h.elim), RsAt.new W, hB, h.bel.size, fun k hk hf => ?_, fun b hb => by cases hb⟩, by decide, by decide, (h.on I (al _)).bel⟩
  have h1 := (I.lt hm k hk).2
  rcases hf with e | e
  · omega
  · simp [Value.ownBlock] at e
theorem p3_put1 (I : Ifs SA) {w W : World} {p rb : Nat} {S T : Sk} {Bx : List Nat} (k : List UInt8) (x : Ve) (h : P3 SA w p rb S T Bx W) (ht : totS S < 900) : Calls Try.prog 11 #[.pointer (some ⟨p, 0, none⟩), .string (bs k), veV x] W fun e w' => e = .returned (.int .i64 (putS k x S).2) ∧ P3 SA w p rb (putS k x S).1 T Bx w' ∧ ∀ b ∈ Bx, w'.heap[b]? = W.heap[b]? := by
  obtain ⟨B, M, C, F, h1, h2, h3, h4, h5, h6⟩ := h.ex
  refine (I.put k x h1 (by omega)).mono ?_
  rintro e w' ⟨rfl, M', hm', hk, hn⟩
  refine ⟨rfl, ⟨⟨B, M', C, F, hm', h2.kept hk (fun i hi hm => h5 i hm hi) (I.nov h1), h3, h4, fun i hi hN => ?_, fun b hb => ⟨fun hmb => ?_, (h6 b hb).2.1, Nat.lt_of_lt_of_le (h6 b hb).2.2 hk.size⟩⟩, by have := tot_put (I.sok h1) k x; omega, h.tt, h.bel.trans (hk.below h.bel.size (fun i hi => Nat.le_trans h3 (I.lt h1 i hi).1))⟩, fun b hb => hk.block b (h6 b hb).2.2 (h6 b hb).1⟩
  · rcases hn i hi with e | e
    · exact h5 i e hN
    · have := (h2.lt i hN).2; omega
  · rcases hn b hmb with e | e
    · exact (h6 b hb).1 e
    · have := (h6 b hb).2.2; omega
theorem p3_prune1 (I : Ifs SA) {w W : World} {p rb : Nat} {S T : Sk} {Bx : List Nat} (t u : Int) (h : P3 SA w p rb S T Bx W) : Calls Try.prog 13 #[.pointer (some ⟨p, 0, none⟩), .agg #[.int .u64 t, .int .u32 u]] W fun e w' => e = .returned (.int .i64 (goneS t u S)) ∧ P3 SA w p rb (pruneS t u S) T Bx w' ∧ ∀ b ∈ Bx, w'.heap[b]? = W.heap[b]? := by
  have hts := h.ts
  obtain ⟨B, M, C, F, h1, h2, h3, h4, h5, h6⟩ := h.ex
  refine (I.prune t u h1 (by omega)).mono ?_
  rintro e w' ⟨rfl, M', hm', hk, hn⟩
  refine ⟨rfl, ⟨⟨B, M', C, F, hm', h2.kept hk (fun i hi hm => h5 i hm hi) (I.nov h1), h3, h4, fun i hi hN => ?_, fun b hb => ⟨fun hmb => ?_, (h6 b hb).2.1, Nat.lt_of_lt_of_le (h6 b hb).2.2 hk.size⟩⟩, by have := tot_prune t u (I.sok h1).all; omega, h.tt, h.bel.trans (hk.below h.bel.size (fun i hi => Nat.le_trans h3 (I.lt h1 i hi).1))⟩, fun b hb => hk.block b (h6 b hb).2.2 (h6 b hb).1⟩
  · rcases hn i hi with e | e
    · exact h5 i e hN
    · have := (h2.lt i hN).2; omega
  · rcases hn b hmb with e | e
    · exact (h6 b hb).1 e
    · have := (h6 b hb).2.2; omega
theorem p3_put2 (I : Ifs SA) {w W : World} {p rb : Nat} {S T : Sk} {Bx : List Nat} (k : List UInt8) (x : Ve) (h : P3 SA w p rb S T Bx W) (ht : totS T < 900) : Calls Try.prog 12 #[.pointer (some ⟨rb, 0, none⟩), .string (bs k), veV x] W fun e w' => e = .returned (.int .i64 (putS k x T).2) ∧ P3 SA w p rb S (putS k x T).1 Bx w' ∧ ∀ b ∈ Bx, w'.heap[b]? = W.heap[b]? := by
  obtain ⟨B, M, C, F, h1, h2, h3, h4, h5, h6⟩ := h.ex
  refine (put12 C rb F T k x W h2 (by have := len_tot h2.sok.all; omega)).mono ?_
  rintro e w' ⟨rfl, F', hm', hk, hn⟩
  have hrb : ∀ b, ¬ F b → ¬ b = rb := fun b hb e => hb (e ▸ h2.rb.1)
  refine ⟨rfl, ⟨⟨B, M, C, F', I.keep h1 hk (fun i hi e => h5 i hi (e ▸ h2.rb.1)) (fun i e => e ▸ h2.rb.2), hm', h3, h4, fun i hi hN => ?_, fun b hb => ⟨(h6 b hb).1, fun hmb => ?_, Nat.lt_of_lt_of_le (h6 b hb).2.2 hk.size⟩⟩, h.ts, by have := tot_put h2.sok k x; omega, h.bel.trans (hk.below h.bel.size (fun i hi => Nat.le_trans h4 (h2.lt i (hi ▸ h2.rb.1)).1))⟩, fun b hb => hk.block b (h6 b hb).2.2 (hrb b (h6 b hb).2.1)⟩
  · rcases hn i hN with e | e
    · exact h5 i hi e
    · have := (I.lt h1 i hi).2; omega
  · rcases hn b hmb with e | e
    · exact (h6 b hb).2.1 e
    · have := (h6 b hb).2.2; omega
theorem p3_prune2 (I : Ifs SA) {w W : World} {p rb : Nat} {S T : Sk} {Bx : List Nat} (t u : Int) (h : P3 SA w p rb S T Bx W) : Calls Try.prog 14 #[.pointer (some ⟨rb, 0, none⟩), .agg #[.int .u64 t, .int .u32 u]] W fun e w' => e = .returned (.int .i64 (goneS t u T)) ∧ P3 SA w p rb S (pruneS t u T) Bx w' ∧ ∀ b ∈ Bx, w'.heap[b]? = W.heap[b]? := by
  have htt := h.tt
  obtain ⟨B, M, C, F, h1, h2, h3, h4, h5, h6⟩ := h.ex
  refine (prune14 C rb F T t u W h2 (by have := len_tot h2.sok.all; omega) (by omega)).mono ?_
  rintro e w' ⟨rfl, F', hm', hk, hn⟩
  have hrb : ∀ b, ¬ F b → ¬ b = rb := fun b hb e => hb (e ▸ h2.rb.1)
  refine ⟨rfl, ⟨⟨B, M, C, F', I.keep h1 hk (fun i hi e => h5 i hi (e ▸ h2.rb.1)) (fun i e => e ▸ h2.rb.2), hm', h3, h4, fun i hi hN => ?_, fun b hb => ⟨(h6 b hb).1, fun hmb => ?_, Nat.lt_of_lt_of_le (h6 b hb).2.2 hk.size⟩⟩, h.ts, by have := tot_prune t u h2.sok.all; omega, h.bel.trans (hk.below h.bel.size (fun i hi => Nat.le_trans h4 (h2.lt i (hi ▸ h2.rb.1)).1))⟩, fun b hb => hk.block b (h6 b hb).2.2 (hrb b (h6 b hb).2.1)⟩
  · rcases hn i hN with e | e
    · exact h5 i hi e
    · have := (I.lt h1 i hi).2; omega
  · rcases hn b hmb with e | e
    · exact (h6 b hb).2.1 e
    · have := (h6 b hb).2.2; omega
/-- Both stores, and the act's box. -/
structure Pq (SA : Nat → Nat → (Nat → Prop) → Sk → World → Prop) (w : World) (p rb : Nat) (S T : Sk) (Z : Nat) (a : Ac) (W : World) : Prop where
  p3 : P3 SA w p rb S T [Z] W
  z : W.heap[Z]? = some (.cells #[.int .i64 a.what, .int .i64 a.limit, .string (bs a.key), .string (bs a.til), .int .u64 a.v.p, .int .u32 a.v.l, .int .u32 a.v.c, .int .u32 a.v.n, .string (bs a.v.val), .bool a.v.dead] 39 (0, 0))
theorem P3.act (I : Ifs SA) {w W : World} {p rb : Nat} {S T : Sk} (h : P3 SA w p rb S T [] W) (a : Ac) : Pq SA w p rb S T W.heap.size a (W.alloc (.cells #[.int .i64 a.what, .int .i64 a.limit, .string (bs a.key), .string (bs a.til), .int .u64 a.v.p, .int .u32 a.v.l, .int .u32 a.v.c, .int .u32 a.v.n, .string (bs a.v.val), .bool a.v.dead] 39)) :=
  ⟨h.box I _, heap_alloc_new W _⟩
theorem Pq.on (I : Ifs SA) {w W W' : World} {p rb Z : Nat} {S T : Sk} {a : Ac} (h : Pq SA w p rb S T Z a W) (hb : Below W.heap.size W W') : Pq SA w p rb S T Z a W' := ⟨h.p3.on I hb, by rw [hb.block Z (Array.getElem?_eq_some_iff.1 h.z).1]; exact h.z⟩
theorem Pq.dr (I : Ifs SA) {w W : World} {p rb Z : Nat} {S T : Sk} {a : Ac} (h : Pq SA w p rb S T Z a W) : Pq SA w p rb S T Z a W.drew := h.on I (Below.refl _ _).drew
theorem Pq.ten {w W : World} {p rb Z : Nat} {S T : Sk} {a : Ac} (h : Pq SA w p rb S T Z a W) : W.cell? ⟨Z, 0, none⟩ = some (.int .i64 a.what) ∧ W.cell? ⟨Z, 1, none⟩ = some (.int .i64 a.limit) ∧ W.cell? ⟨Z, 2, none⟩ = some (.string (bs a.key)) ∧ W.cell? ⟨Z, 3, none⟩ = some (.string (bs a.til)) ∧ W.cell? ⟨Z, 4, none⟩ = some (.int .u64 a.v.p) ∧ W.cell? ⟨Z, 5, none⟩ = some (.int .u32 a.v.l) ∧ W.cell? ⟨Z, 6, none⟩ = some (.int .u32 a.v.c) ∧ W.cell? ⟨Z, 7, none⟩ = some (.int .u32 a.v.n) ∧ W.cell? ⟨Z, 8, none⟩ = some (.string (bs a.v.val)) ∧ W.cell? ⟨Z, 9, none⟩ = some (.bool a.v.dead) :=
  ⟨block_cell h.z rfl, block_cell h.z rfl, block_cell h.z rfl, block_cell h.z rfl, block_cell h.z rfl, block_cell h.z rfl, block_cell h.z rfl, block_cell h.z rfl, block_cell h.z rfl, block_cell h.z rfl⟩
theorem pq_put1 (I : Ifs SA) {w W : World} {p rb Z : Nat} {S T : Sk} {a : Ac} (k : List UInt8) (x : Ve) (h : Pq SA w p rb S T Z a W) (ht : totS S < 900) : Calls Try.prog 11 #[.pointer (some ⟨p, 0, none⟩), .string (bs k), veV x] W fun e w' => e = .returned (.int .i64 (putS k x S).2) ∧ Pq SA w p rb (putS k x S).1 T Z a w' := by
  refine (p3_put1 I k x h.p3 ht).mono ?_
  rintro e w' ⟨rfl, h1, h2⟩
  exact ⟨rfl, h1, by rw [h2 Z (by simp)]; exact h.z⟩
theorem pq_put2 (I : Ifs SA) {w W : World} {p rb Z : Nat} {S T : Sk} {a : Ac} (k : List UInt8) (x : Ve) (h : Pq SA w p rb S T Z a W) (ht : totS T < 900) : Calls Try.prog 12 #[.pointer (some ⟨rb, 0, none⟩), .string (bs k), veV x] W fun e w' => e = .returned (.int .i64 (putS k x T).2) ∧ Pq SA w p rb S (putS k x T).1 Z a w' := by
  refine (p3_put2 I k x h.p3 ht).mono ?_
  rintro e w' ⟨rfl, h1, h2⟩
  exact ⟨rfl, h1, by rw [h2 Z (by simp)]; exact h.z⟩
theorem pq_prune1 (I : Ifs SA) {w W : World} {p rb Z : Nat} {S T : Sk} {a : Ac} (t u : Int) (h : Pq SA w p rb S T Z a W) : Calls Try.prog 13 #[.pointer (some ⟨p, 0, none⟩), .agg #[.int .u64 t, .int .u32 u]] W fun e w' => e = .returned (.int .i64 (goneS t u S)) ∧ Pq SA w p rb (pruneS t u S) T Z a w' := by
  refine (p3_prune1 I t u h.p3).mono ?_
  rintro e w' ⟨rfl, h1, h2⟩
  exact ⟨rfl, h1, by rw [h2 Z (by simp)]; exact h.z⟩
theorem pq_prune2 (I : Ifs SA) {w W : World} {p rb Z : Nat} {S T : Sk} {a : Ac} (t u : Int) (h : Pq SA w p rb S T Z a W) : Calls Try.prog 14 #[.pointer (some ⟨rb, 0, none⟩), .agg #[.int .u64 t, .int .u32 u]] W fun e w' => e = .returned (.int .i64 (goneS t u T)) ∧ Pq SA w p rb S (pruneS t u T) Z a w' := by
  refine (p3_prune2 I t u h.p3).mono ?_
  rintro e w' ⟨rfl, h1, h2⟩
  exact ⟨rfl, h1, by rw [h2 Z (by simp)]; exact h.z⟩
theorem pq_get1 (I : Ifs SA) {w W : World} {p rb Z : Nat} {S T : Sk} {a : Ac} (k : List UInt8) (t u : Int) (h : Pq SA w p rb S T Z a W) : Calls Try.prog 15 #[.pointer (some ⟨p, 0, none⟩), .string (bs k), .agg #[.int .u64 t, .int .u32 u]] W fun e w' => e = .returned (.tuple #[.string (bs (getV (seeF (chainF k S) t u)).1), .bool (getV (seeF (chainF k S) t u)).2]) ∧ Pq SA w p rb S T Z a w' := by
  refine (pw_get I k t u h.p3.pw).mono ?_
  rintro e w' ⟨rfl, _, hb⟩
  exact ⟨rfl, h.on I hb⟩
theorem pq_get2 (I : Ifs SA) {w W : World} {p rb Z : Nat} {S T : Sk} {a : Ac} (k : List UInt8) (t u : Int) (h : Pq SA w p rb S T Z a W) : Calls Try.prog 16 #[.pointer (some ⟨rb, 0, none⟩), .string (bs k), .agg #[.int .u64 t, .int .u32 u]] W fun e w' => e = .returned (.tuple #[.string (bs (getV (seeF (chainF k T) t u)).1), .bool (getV (seeF (chainF k T) t u)).2]) ∧ Pq SA w p rb S T Z a w' := by
  obtain ⟨C, F, h2⟩ := h.p3.rs
  refine (get16 C rb F T k t u W h2).mono ?_
  rintro e w' ⟨rfl, hb⟩
  exact ⟨rfl, h.on I hb⟩
theorem pq_newest1 (I : Ifs SA) {w W : World} {p rb Z : Nat} {S T : Sk} {a : Ac} (k : List UInt8) (h : Pq SA w p rb S T Z a W) : Calls Try.prog 17 #[.pointer (some ⟨p, 0, none⟩), .string (bs k)] W fun e w' => e = .returned (.agg #[.int .u64 (newF (chainF k S)).1, .int .u32 (newF (chainF k S)).2]) ∧ Pq SA w p rb S T Z a w' := by
  refine (pw_newest I k h.p3.pw).mono ?_
  rintro e w' ⟨rfl, _, hb⟩
  exact ⟨rfl, h.on I hb⟩
theorem pq_newest2 (I : Ifs SA) {w W : World} {p rb Z : Nat} {S T : Sk} {a : Ac} (k : List UInt8) (h : Pq SA w p rb S T Z a W) : Calls Try.prog 18 #[.pointer (some ⟨rb, 0, none⟩), .string (bs k)] W fun e w' => e = .returned (.agg #[.int .u64 (newF (chainF k T)).1, .int .u32 (newF (chainF k T)).2]) ∧ Pq SA w p rb S T Z a w' := by
  obtain ⟨C, F, h2⟩ := h.p3.rs
  refine (newest18 C rb F T k W h2).mono ?_
  rintro e w' ⟨rfl, hb⟩
  exact ⟨rfl, h.on I hb⟩
theorem pq_count1 (I : Ifs SA) {w W : World} {p rb Z : Nat} {S T : Sk} {a : Ac} (k : List UInt8) (h : Pq SA w p rb S T Z a W) : Calls Try.prog 19 #[.pointer (some ⟨p, 0, none⟩), .string (bs k)] W fun e w' => e = .returned (.int .i64 (chainF k S).length) ∧ Pq SA w p rb S T Z a w' := by
  refine (pw_count I k h.p3.pw).mono ?_
  rintro e w' ⟨rfl, _, hb⟩
  exact ⟨rfl, h.on I hb⟩
theorem pq_count2 {w W : World} {p rb Z : Nat} {S T : Sk} {a : Ac} (k : List UInt8) (h : Pq SA w p rb S T Z a W) : Calls Try.prog 20 #[.pointer (some ⟨rb, 0, none⟩), .string (bs k)] W fun e w' => e = .returned (.int .i64 (chainF k T).length) ∧ Pq SA w p rb S T Z a w' := by
  obtain ⟨C, F, h2⟩ := h.p3.rs
  refine (count20 C rb F T k W h2).mono ?_
  rintro e w' ⟨rfl, rfl⟩
  exact ⟨rfl, h⟩
theorem pq_scan1 (I : Ifs SA) {w W : World} {p rb Z : Nat} {S T : Sk} {a : Ac} (lo hi : List UInt8) (t u limit : Int) (h : Pq SA w p rb S T Z a W) : Calls Try.prog 22 #[.pointer (some ⟨p, 0, none⟩), .string (bs lo), .string (bs hi), .agg #[.int .u64 t, .int .u32 u], .int .i64 limit] W fun e w' => ∃ v', e = .returned v' ∧ PsAt w'.heap.size v' (scanS lo hi t u limit S) w' ∧ Pq SA w p rb S T Z a w' := by
  refine (pw_scan I lo hi t u limit h.p3.pw).mono ?_
  rintro e w' ⟨v', rfl, ho, _, hb⟩
  exact ⟨v', rfl, rw_own ho, h.on I hb⟩
theorem pq_scan2 (I : Ifs SA) {w W : World} {p rb Z : Nat} {S T : Sk} {a : Ac} (lo hi : List UInt8) (t u limit : Int) (P : List (List UInt8 × List UInt8)) (v : Value) (h : Pq SA w p rb S T Z a W) (hv : PsAt W.heap.size v P W) : Calls Try.prog 23 #[.pointer (some ⟨rb, 0, none⟩), .string (bs lo), .string (bs hi), .agg #[.int .u64 t, .int .u32 u], .int .i64 limit] W fun e w' => ∃ v', e = .returned v' ∧ PsAt w'.heap.size v P w' ∧ PsAt w'.heap.size v' (scanS lo hi t u limit T) w' ∧ Pq SA w p rb S T Z a w' := by
  obtain ⟨C, F, h2⟩ := h.p3.rs
  refine (scan23 C rb F T lo hi t u limit W h2).mono ?_
  rintro e w' ⟨v', rfl, ho, hb⟩
  exact ⟨v', rfl, (RwAt.on hv hb).le hb.size, rw_own ho, h.on I hb⟩
theorem pq_pairs (I : Ifs SA) {w W : World} {p rb Z : Nat} {S T : Sk} {a : Ac} {P : List (List UInt8 × List UInt8)} {v v' : Value} (h : Pq SA w p rb S T Z a W) (hv : PsAt W.heap.size v P W) (hv' : PsAt W.heap.size v' P W) : Calls Try.prog 21 #[v, v'] W fun e w' => e = .returned (.bool true) ∧ Pq SA w p rb S T Z a w' := by
  have := pairs21 _ _ P P v v' W hv hv'
  rw [beq_self_eq_true] at this
  refine this.mono ?_
  rintro e w' ⟨rfl, hb⟩
  exact ⟨rfl, h.on I hb⟩
/-- The document's list, where its box says it lies. -/
theorem P3.list {w W : World} {p rb : Nat} {S T : Sk} {Bx : List Nat} (h : P3 SA w p rb S T Bx W) : ∃ ao n cap L, W.cell? ⟨rb, 0, none⟩ = some (.slice ao n cap) ∧ ItAt (.slice ao n cap) L T W := by
  obtain ⟨C, F, sl, L, h2, _⟩ := h.rs
  obtain ⟨ao, cap, rfl, _⟩ := h2.ref.shape
  exact ⟨ao, _, cap, L, h2.ref.cell, rw_own h2.ref.row, h2.chs⟩
theorem run_neq33 (p l q m : Int) (w : World) : (binOp .neq 33 (.agg #[.int .u64 p, .int .u32 l]) (.agg #[.int .u64 q, .int .u32 m])).run Try.prog w = .ok (.bool (!eqB p l q m)) w := by
  by_cases h : p = q <;> by_cases h2 : l = m <;> simp [go_sem, eqB, h, h2]
end Go.Proofs.Ytcfhkggijdjagaa
