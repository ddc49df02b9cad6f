/-
  The walk of OrderRuns over what the laws ask of the program's map.
-/
import Derived.Test.YtogkgibneddngaaIfc
namespace Go.Proofs.Ytogkgibneddngaa
open Go.RowKit
variable {MA : Nat → Nat → (Nat → Prop) → Kv → World → Prop}

structure Ac where
  what : Int
  v : Int
  limit : Int
  key : List UInt8
  til : List UInt8
def da : Ac := ⟨0, 0, 0, [], []⟩
def acv (a : Ac) : List Value := [.int .i64 a.what, .int .i64 a.v, .int .i64 a.limit, .string (bs a.key), .string (bs a.til)]
def acc : List Ac → List Value
  | [] => []
  | a :: r => acv a ++ acc r
theorem acc_length (L : List Ac) : (acc L).length = L.length * 5 := by
  induction L with
  | nil => rfl
  | cons a L ih => simp [acc, acv, ih]; omega
theorem acc_get : ∀ (L : List Ac) (i j : Nat), i < L.length → j < 5 → (acc L)[i * 5 + j]? = (acv (L.getD i da))[j]?
  | [], i, _, h, _ => absurd h (by simp)
  | a :: r, 0, j, _, hj => by
    simp only [acc, Nat.zero_mul, Nat.zero_add]
    rw [List.getElem?_append_left (by simp [acv]; omega)]
    rfl
  | a :: r, i + 1, j, h, hj => by
    simp only [acc]
    rw [List.getElem?_append_right (by simp [acv]; omega), show (acv a).length = 5 from rfl, show (i + 1) * 5 + j - 5 = i * 5 + j from by omega, acc_get r i j (by simpa using h) hj]
    rfl
def AcsAt (B : Nat) (v : Value) (L : List Ac) (w : World) : Prop := RwAt B 5 v L.length (acc L) w
theorem AcsAt.el {B : Nat} {ao : Option Addr} {cap : Nat} {L : List Ac} {w : World} (h : AcsAt B (.slice ao L.length cap) L w) {i : Nat} (hi : i < L.length) : ∃ b off, ao = some ⟨b, off, none⟩ ∧ b < B ∧ w.cell? ⟨b, off + i * 5, none⟩ = some (.int .i64 (L.getD i da).what) ∧ w.cell? ⟨b, off + i * 5 + 1, none⟩ = some (.int .i64 (L.getD i da).v) ∧
    w.cell? ⟨b, off + i * 5 + 2, none⟩ = some (.int .i64 (L.getD i da).limit) ∧ w.cell? ⟨b, off + i * 5 + 3, none⟩ = some (.string (bs (L.getD i da).key)) ∧ w.cell? ⟨b, off + i * 5 + 4, none⟩ = some (.string (bs (L.getD i da).til)) := by
  obtain ⟨b, off, e, hb, hc⟩ := RwAt.cellAt h (j := i * 5) (by rw [acc_length]; omega)
  refine ⟨b, off, e, hb, ?_, ?_, ?_, ?_, ?_⟩
  · exact hc (i * 5) _ (by have := acc_get L i 0 hi (by omega); rw [Nat.add_zero] at this; rw [this]; rfl)
  · rw [Nat.add_assoc]; exact hc _ _ (by rw [acc_get L i 1 hi (by omega)]; rfl)
  · rw [Nat.add_assoc]; exact hc _ _ (by rw [acc_get L i 2 hi (by omega)]; rfl)
  · rw [Nat.add_assoc]; exact hc _ _ (by rw [acc_get L i 3 hi (by omega)]; rfl)
  · rw [Nat.add_assoc]; exact hc _ _ (by rw [acc_get L i 4 hi (by omega)]; rfl)

/-- Both maps, apart from each other. -/
structure P0 (MA : Nat → Nat → (Nat → Prop) → Kv → World → Prop) (w : World) (p rb : Nat) (L M : Kv) (W : World) : Prop where
  ex : ∃ B F B2 sl, MA B p F L W ∧ w.heap.size ≤ B ∧ RefAt B2 rb sl M W ∧ w.heap.size ≤ B2 ∧ ∀ k, F k → ¬ foot rb sl k
  bel : Below w.heap.size w W
/-- And the act in its box. -/
structure Pr (MA : Nat → Nat → (Nat → Prop) → Kv → World → Prop) (w : World) (p rb xb : Nat) (A : Ac) (L M : Kv) (W : World) : Prop where
  ex : ∃ B F B2 sl, MA B p F L W ∧ w.heap.size ≤ B ∧ RefAt B2 rb sl M W ∧ w.heap.size ≤ B2 ∧ (∀ k, F k → ¬ foot rb sl k) ∧ ¬ F xb ∧ ¬ foot rb sl xb
  box : W.heap[xb]? = some (.cells #[.int .i64 A.what, .int .i64 A.v, .int .i64 A.limit, .string (bs A.key), .string (bs A.til)] 31 (0, 0))
  bel : Below w.heap.size w W
theorem Pr.out {w W : World} {p rb xb : Nat} {A : Ac} {L M : Kv} (h : Pr MA w p rb xb A L M W) : P0 MA w p rb L M W := by
  obtain ⟨B, F, B2, sl, h1, h2, h3, h4, h5, _⟩ := h.ex
  exact ⟨⟨B, F, B2, sl, h1, h2, h3, h4, h5⟩, h.bel⟩
theorem P0.on (I : Ifc MA) {w W W' : World} {p rb : Nat} {L M : Kv} (h : P0 MA w p rb L M W) (hb : Below W.heap.size W W') : P0 MA w p rb L M W' := by
  obtain ⟨B, F, B2, sl, h1, h2, h3, h4, h5⟩ := h.ex
  exact ⟨⟨B, F, B2, sl, I.keep h1 (Kept.of_below (F := fun _ => False) hb) (fun _ _ h => h), h2, h3.on hb, h4, h5⟩, h.bel.trans (hb.mono h.bel.size)⟩
theorem Pr.on (I : Ifc MA) {w W W' : World} {p rb xb : Nat} {A : Ac} {L M : Kv} (h : Pr MA w p rb xb A L M W) (hb : Below W.heap.size W W') : Pr MA w p rb xb A L M W' := by
  obtain ⟨B, F, B2, sl, h1, h2, h3, h4, h5⟩ := h.ex
  exact ⟨⟨B, F, B2, sl, I.keep h1 (Kept.of_below (F := fun _ => False) hb) (fun _ _ h => h), h2, h3.on hb, h4, h5⟩, by rw [hb.block xb (Array.getElem?_eq_some_iff.1 h.box).1]; exact h.box, h.bel.trans (hb.mono h.bel.size)⟩
theorem P0.boxed (I : Ifc MA) {w W : World} {p rb : Nat} {L M : Kv} (h : P0 MA w p rb L M W) (A : Ac) : Pr MA w p rb W.heap.size A L M (W.alloc (.cells #[.int .i64 A.what, .int .i64 A.v, .int .i64 A.limit, .string (bs A.key), .string (bs A.til)] 31)) := by
  have h' := h.on I (al (.cells #[.int .i64 A.what, .int .i64 A.v, .int .i64 A.limit, .string (bs A.key), .string (bs A.til)] 31))
  obtain ⟨B, F, B2, sl, h1, h2, h3, h4, h5⟩ := h.ex
  have k := Kept.of_below (F := fun _ => False) (al (W := W) (.cells #[.int .i64 A.what, .int .i64 A.v, .int .i64 A.limit, .string (bs A.key), .string (bs A.til)] 31))
  exact ⟨⟨B, F, B2, sl, I.keep h1 k (fun _ _ h => h), h2, h3.on (al _), h4, h5, fun hf => by have := (I.lt h1 _ hf).2; omega, fun hf => by have := (h3.lt hf).2; omega⟩, heap_alloc_new W _, h'.bel⟩
theorem Pr.five {w W : World} {p rb xb : Nat} {A : Ac} {L M : Kv} (h : Pr MA w p rb xb A L M W) : W.cell? ⟨xb, 0, none⟩ = some (.int .i64 A.what) ∧ W.cell? ⟨xb, 1, none⟩ = some (.int .i64 A.v) ∧ W.cell? ⟨xb, 2, none⟩ = some (.int .i64 A.limit) ∧ W.cell? ⟨xb, 3, none⟩ = some (.string (bs A.key)) ∧ W.cell? ⟨xb, 4, none⟩ = some (.string (bs A.til)) := by
  have hb := h.box
  refine ⟨?_, ?_, ?_, ?_, ?_⟩ <;> (unfold World.cell?; rw [hb]; rfl)

/-- A step of the program's map. -/
theorem Pr.one {w W W' : World} {p rb xb : Nat} {A : Ac} {L L' M : Kv} (I : Ifc MA) (h : Pr MA w p rb xb A L M W) {B : Nat} {F : Nat → Prop} {B2 : Nat} {sl : Value} (h1 : MA B p F L W) (h2 : w.heap.size ≤ B) (h3 : RefAt B2 rb sl M W) (h4 : w.heap.size ≤ B2) (h5 : ∀ k, F k → ¬ foot rb sl k) (h6 : ¬ F xb) (h7 : ¬ foot rb sl xb)
    {F' : Nat → Prop} (hm : MA B p F' L' W') (hk : Kept F W W') (hf : ∀ i, F' i → F i ∨ W.heap.size ≤ i) : Pr MA w p rb xb A L' M W' := by
  have hxb : xb < W.heap.size := (Array.getElem?_eq_some_iff.1 h.box).1
  refine ⟨⟨B, F', B2, sl, hm, h2, h3.kept hk (fun k hk1 hk2 => h5 k hk2 hk1), h4, fun k hk1 hk2 => ?_, fun hx => ?_, h7⟩, ?_, h.bel.trans (hk.below h.bel.size (fun i hi => Nat.le_trans h2 (I.lt h1 i hi).1))⟩
  · rcases hf k hk1 with hF | hF
    · exact h5 k hF hk2
    · have := (h3.lt hk2).2; omega
  · rcases hf xb hx with hF | hF
    · exact h6 hF
    · omega
  · rw [hk.block xb hxb h6]; exact h.box
/-- A step of the document's. -/
theorem Pr.other {w W W' : World} {p rb xb : Nat} {A : Ac} {L M M' : Kv} (I : Ifc MA) (h : Pr MA w p rb xb A L M W) {B : Nat} {F : Nat → Prop} {B2 : Nat} {sl sl' : Value} (h1 : MA B p F L W) (h2 : w.heap.size ≤ B) (h3 : RefAt B2 rb sl M W) (h4 : w.heap.size ≤ B2) (h5 : ∀ k, F k → ¬ foot rb sl k) (h6 : ¬ F xb) (h7 : ¬ foot rb sl xb)
    (hm : RefAt B2 rb sl' M' W') (hk : Kept (foot rb sl) W W') (hf : ∀ i, foot rb sl' i → foot rb sl i ∨ W.heap.size ≤ i) : Pr MA w p rb xb A L M' W' := by
  have hxb : xb < W.heap.size := (Array.getElem?_eq_some_iff.1 h.box).1
  refine ⟨⟨B, F, B2, sl', I.keep h1 hk h5, h2, hm, h4, fun k hk1 hk2 => ?_, h6, fun hx => ?_⟩, ?_, h.bel.trans (hk.below h.bel.size (fun i hi => Nat.le_trans h4 (h3.lt hi).1))⟩
  · rcases hf k hk2 with hF | hF
    · exact h5 k hk1 hF
    · have := (I.lt h1 k hk1).2; omega
  · rcases hf xb hx with hF | hF
    · exact h7 hF
    · omega
  · rw [hk.block xb hxb h7]; exact h.box

section
variable {w W : World} {p rb xb : Nat} {A : Ac} {L M : Kv}
theorem pr_set (I : Ifc MA) (h : Pr MA w p rb xb A L M W) (hl : L.length < 100000) (k : List UInt8) (v : Int) : Calls Try.prog 9 #[.pointer (some ⟨p, 0, none⟩), .string (bs k), .int .i64 v] W fun e w' => e = .returned (.tuple #[]) ∧ Pr MA w p rb xb A (setF k v L) M w' := by
  obtain ⟨B, F, B2, sl, h1, h2, h3, h4, h5, h6, h7⟩ := h.ex
  refine (I.set k v h1 hl).mono ?_
  rintro e w' ⟨rfl, F', hm, hk, hf⟩
  exact ⟨rfl, h.one I h1 h2 h3 h4 h5 h6 h7 hm hk hf⟩
theorem pr_set2 (I : Ifc MA) (h : Pr MA w p rb xb A L M W) (hl : M.length < 1000000) (k : List UInt8) (v : Int) : Calls Try.prog 10 #[.pointer (some ⟨rb, 0, none⟩), .string (bs k), .int .i64 v] W fun e w' => e = .returned (.tuple #[]) ∧ Pr MA w p rb xb A L (setF k v M) w' := by
  obtain ⟨B, F, B2, sl, h1, h2, h3, h4, h5, h6, h7⟩ := h.ex
  refine (refSet10 B2 rb sl M k v W h3 hl).mono ?_
  rintro e w' ⟨rfl, sl', hm, hk, hf⟩
  exact ⟨rfl, h.other I h1 h2 h3 h4 h5 h6 h7 hm hk hf⟩
theorem pr_cut (I : Ifc MA) (h : Pr MA w p rb xb A L M W) (hl : L.length < 100000) (k : List UInt8) : Calls Try.prog 11 #[.pointer (some ⟨p, 0, none⟩), .string (bs k)] W fun e w' => e = .returned (.bool (getF k L).isSome) ∧ Pr MA w p rb xb A (cutF k L) M w' := by
  obtain ⟨B, F, B2, sl, h1, h2, h3, h4, h5, h6, h7⟩ := h.ex
  refine (I.cut k h1 hl).mono ?_
  rintro e w' ⟨rfl, F', hm, hk, hf⟩
  exact ⟨rfl, h.one I h1 h2 h3 h4 h5 h6 h7 hm hk hf⟩
theorem pr_cut2 (I : Ifc MA) (h : Pr MA w p rb xb A L M W) (hl : M.length < 1000000) (k : List UInt8) : Calls Try.prog 12 #[.pointer (some ⟨rb, 0, none⟩), .string (bs k)] W fun e w' => e = .returned (.bool (getF k M).isSome) ∧ Pr MA w p rb xb A L (cutF k M) w' := by
  obtain ⟨B, F, B2, sl, h1, h2, h3, h4, h5, h6, h7⟩ := h.ex
  refine (refCut12 B2 rb sl M k W h3 hl).mono ?_
  rintro e w' ⟨rfl, sl', hm, hk, hf⟩
  exact ⟨rfl, h.other I h1 h2 h3 h4 h5 h6 h7 hm hk hf⟩
theorem pr_get (I : Ifc MA) (h : Pr MA w p rb xb A L M W) (hl : L.length < 100000) (k : List UInt8) : Calls Try.prog 13 #[.pointer (some ⟨p, 0, none⟩), .string (bs k)] W fun e w' => e = .returned (.tuple #[.int .i64 ((getF k L).getD 0), .bool (getF k L).isSome]) ∧ Pr MA w p rb xb A L M w' := by
  obtain ⟨B, F, B2, sl, h1, _⟩ := h.ex
  refine (I.get k h1 hl).mono ?_
  rintro e w' ⟨rfl, hb⟩
  exact ⟨rfl, h.on I hb⟩
theorem pr_get2 (I : Ifc MA) (h : Pr MA w p rb xb A L M W) (k : List UInt8) : Calls Try.prog 14 #[.pointer (some ⟨rb, 0, none⟩), .string (bs k)] W fun e w' => e = .returned (.tuple #[.int .i64 ((getF k M).getD 0), .bool (getF k M).isSome]) ∧ Pr MA w p rb xb A L M w' := by
  obtain ⟨B, F, B2, sl, h1, h2, h3, _⟩ := h.ex
  refine (refGet14 B2 rb sl M k W h3).mono ?_
  rintro e w' ⟨rfl, hb⟩
  exact ⟨rfl, h.on I hb⟩
theorem pr_len (I : Ifc MA) (h : Pr MA w p rb xb A L M W) (hl : L.length < 100000) : Calls Try.prog 15 #[.pointer (some ⟨p, 0, none⟩)] W fun e w' => e = .returned (.int .i64 L.length) ∧ Pr MA w p rb xb A L M w' := by
  obtain ⟨B, F, B2, sl, h1, _⟩ := h.ex
  refine (I.len h1 hl).mono ?_
  rintro e w' ⟨rfl, hb⟩
  exact ⟨rfl, h.on I hb⟩
theorem P0.list (h : P0 MA w p rb L M W) : ∃ ao cap, W.cell? ⟨rb, 0, none⟩ = some (.slice ao M.length cap) := by
  obtain ⟨B, F, B2, sl, h1, h2, h3, _⟩ := h.ex
  obtain ⟨ao, cap, rfl, _⟩ := h3.shape
  exact ⟨ao, cap, h3.cell⟩
theorem p0_keys (I : Ifc MA) (h : P0 MA w p rb L M W) (hl : L.length < 100000) (lo hi : List UInt8) (limit : Int) : Calls Try.prog 17 #[.pointer (some ⟨p, 0, none⟩), .string (bs lo), .string (bs hi), .int .i64 limit] W fun e w' => ∃ v', e = .returned v' ∧ KsAt w'.heap.size v' (keysF lo hi limit L) w' ∧ Below W.heap.size W w' := by
  obtain ⟨B, F, B2, sl, h1, _⟩ := h.ex
  refine (I.keys lo hi limit h1 hl).mono ?_
  rintro e w' ⟨v', rfl, ho, hb⟩
  exact ⟨v', rfl, rw_own ho, hb⟩
theorem p0_keys2 (h : P0 MA w p rb L M W) (hl : M.length < 1000000) (lo hi : List UInt8) (limit : Int) : Calls Try.prog 18 #[.pointer (some ⟨rb, 0, none⟩), .string (bs lo), .string (bs hi), .int .i64 limit] W fun e w' => ∃ v', e = .returned v' ∧ KsAt w'.heap.size v' (keysF lo hi limit M) w' ∧ Below W.heap.size W w' := by
  obtain ⟨B, F, B2, sl, h1, h2, h3, _⟩ := h.ex
  exact refKeys18 B2 rb sl M lo hi limit W h3 hl
end
theorem p0_new {w W : World} {p : Nat} (I : Ifc MA) (h : Mw MA w p [] W) : P0 MA w p W.heap.size [] [] (W.alloc (.cells #[.slice none 0 0] 29)) := by
  obtain ⟨B, F, hm, hB⟩ := h.ma
  have k := Kept.of_below (F := fun _ => False) (al (W := W) (.cells #[.slice none 0 0] 29))
  refine ⟨⟨B, F, W.heap.size, .slice none 0 0, I.keep hm k (fun _ _ h => h), hB, ⟨heap_alloc_new W _, own_nil _ _ _ _, Nat.le_refl _, by simp [Value.ownBlock], List.Pairwise.nil⟩, h.bel.size, fun i hi hf => ?_⟩, (h.on I (al _)).bel⟩
  rcases hf with rfl | hf
  · have := (I.lt hm _ hi).2; omega
  · simp [Value.ownBlock] at hf
end Go.Proofs.Ytogkgibneddngaa
