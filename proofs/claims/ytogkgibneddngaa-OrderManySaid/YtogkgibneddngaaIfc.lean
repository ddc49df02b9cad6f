/-
  What the laws ask of the program's map, whatever it is made of; awake and OrderNothing over that.
-/
import Derived.Test.YtogkgibneddngaaKs
namespace Go.Proofs.Ytogkgibneddngaa
open Go.RowKit

/-- MA B p F L w: the program's map behind the pointer p has L; its blocks are those of F, all from B on. -/
structure Ifc (MA : Nat → Nat → (Nat → Prop) → Kv → World → Prop) : Prop where
  lt : ∀ {B p : Nat} {F : Nat → Prop} {L : Kv} {w : World}, MA B p F L w → ∀ k, F k → B ≤ k ∧ k < w.heap.size
  keep : ∀ {B p : Nat} {F G : Nat → Prop} {L : Kv} {w w' : World}, MA B p F L w → Kept G w w' → (∀ k, F k → ¬ G k) → MA B p F L w'
  srt : ∀ {B p : Nat} {F : Nat → Prop} {L : Kv} {w : World}, MA B p F L w → Srt L
  new : ∀ w : World, Calls Try.prog 8 #[] w fun e w' => ∃ p F, e = .returned (.pointer (some ⟨p, 0, none⟩)) ∧ MA w.heap.size p F [] w' ∧ Below w.heap.size w w'
  set : ∀ {B p : Nat} {F : Nat → Prop} {L : Kv} {w : World} (k : List UInt8) (v : Int), MA B p F L w → L.length < 100000 → Calls Try.prog 9 #[.pointer (some ⟨p, 0, none⟩), .string (bs k), .int .i64 v] w fun e w' => e = .returned (.tuple #[]) ∧ ∃ F', MA B p F' (setF k v L) w' ∧ Kept F w w' ∧ ∀ i, F' i → F i ∨ w.heap.size ≤ i
  cut : ∀ {B p : Nat} {F : Nat → Prop} {L : Kv} {w : World} (k : List UInt8), MA B p F L w → L.length < 100000 → Calls Try.prog 11 #[.pointer (some ⟨p, 0, none⟩), .string (bs k)] w fun e w' => e = .returned (.bool (getF k L).isSome) ∧ ∃ F', MA B p F' (cutF k L) w' ∧ Kept F w w' ∧ ∀ i, F' i → F i ∨ w.heap.size ≤ i
  get : ∀ {B p : Nat} {F : Nat → Prop} {L : Kv} {w : World} (k : List UInt8), MA B p F L w → L.length < 100000 → Calls Try.prog 13 #[.pointer (some ⟨p, 0, none⟩), .string (bs k)] w fun e w' => e = .returned (.tuple #[.int .i64 ((getF k L).getD 0), .bool (getF k L).isSome]) ∧ Below w.heap.size w w'
  len : ∀ {B p : Nat} {F : Nat → Prop} {L : Kv} {w : World}, MA B p F L w → L.length < 100000 → Calls Try.prog 15 #[.pointer (some ⟨p, 0, none⟩)] w fun e w' => e = .returned (.int .i64 L.length) ∧ Below w.heap.size w w'
  keys : ∀ {B p : Nat} {F : Nat → Prop} {L : Kv} {w : World} (lo hi : List UInt8) (limit : Int), MA B p F L w → L.length < 100000 → Calls Try.prog 17 #[.pointer (some ⟨p, 0, none⟩), .string (bs lo), .string (bs hi), .int .i64 limit] w fun e w' => ∃ v', e = .returned v' ∧ w'.ownsRow w.heap.size 9 1 v' (keysF lo hi limit L).length (kc (keysF lo hi limit L)) ∧ Below w.heap.size w w'
  set0 : ∀ (k : List UInt8) (v : Int) (w : World), Calls Try.prog 9 #[.pointer none, .string (bs k), .int .i64 v] w fun e w' => e = .returned (.tuple #[]) ∧ Below w.heap.size w w'
  cut0 : ∀ (k : List UInt8) (w : World), Calls Try.prog 11 #[.pointer none, .string (bs k)] w fun e w' => e = .returned (.bool false) ∧ Below w.heap.size w w'
  get0 : ∀ (k : List UInt8) (w : World), Calls Try.prog 13 #[.pointer none, .string (bs k)] w fun e w' => e = .returned (.tuple #[.int .i64 0, .bool false]) ∧ Below w.heap.size w w'
  len0 : ∀ w : World, Calls Try.prog 15 #[.pointer none] w fun e w' => e = .returned (.int .i64 0) ∧ Below w.heap.size w w'
  keys0 : ∀ (lo hi : List UInt8) (limit : Int) (w : World), Calls Try.prog 17 #[.pointer none, .string (bs lo), .string (bs hi), .int .i64 limit] w fun e w' => ∃ ao cap, e = .returned (.slice ao 0 cap) ∧ Below w.heap.size w w'

variable {MA : Nat → Nat → (Nat → Prop) → Kv → World → Prop}

/-- The program's map in a law that began at w: nothing that was there has turned. -/
structure Mw (MA : Nat → Nat → (Nat → Prop) → Kv → World → Prop) (w : World) (p : Nat) (L : Kv) (W : World) : Prop where
  ma : ∃ B F, MA B p F L W ∧ w.heap.size ≤ B
  bel : Below w.heap.size w W
theorem Mw.on (I : Ifc MA) {w W W' : World} {p : Nat} {L : Kv} (h : Mw MA w p L W) (hb : Below W.heap.size W W') : Mw MA w p L W' := by
  obtain ⟨B, F, hm, hB⟩ := h.ma
  exact ⟨⟨B, F, I.keep hm (Kept.of_below (F := fun _ => False) hb) (fun _ _ h => h), hB⟩, h.bel.trans (hb.mono h.bel.size)⟩
theorem mw_new (I : Ifc MA) {w W : World} (h : Below w.heap.size w W) : Calls Try.prog 8 #[] W fun e w' => ∃ p, e = .returned (.pointer (some ⟨p, 0, none⟩)) ∧ Mw MA w p [] w' := by
  refine (I.new W).mono ?_
  rintro e w' ⟨p, F, rfl, hm, hb⟩
  exact ⟨p, rfl, ⟨W.heap.size, F, hm, h.size⟩, h.trans (hb.mono h.size)⟩
theorem mw_set (I : Ifc MA) {w W : World} {p : Nat} {L : Kv} (k : List UInt8) (v : Int) (h : Mw MA w p L W) (hl : L.length < 100000) : Calls Try.prog 9 #[.pointer (some ⟨p, 0, none⟩), .string (bs k), .int .i64 v] W fun e w' => e = .returned (.tuple #[]) ∧ Mw MA w p (setF k v L) w' := by
  obtain ⟨B, F, hm, hB⟩ := h.ma
  refine (I.set k v hm hl).mono ?_
  rintro e w' ⟨rfl, F', hm', hk, _⟩
  exact ⟨rfl, ⟨B, F', hm', hB⟩, h.bel.trans (hk.below h.bel.size (fun i hi => Nat.le_trans hB (I.lt hm i hi).1))⟩
theorem mw_cut (I : Ifc MA) {w W : World} {p : Nat} {L : Kv} (k : List UInt8) (h : Mw MA w p L W) (hl : L.length < 100000) : Calls Try.prog 11 #[.pointer (some ⟨p, 0, none⟩), .string (bs k)] W fun e w' => e = .returned (.bool (getF k L).isSome) ∧ Mw MA w p (cutF k L) w' := by
  obtain ⟨B, F, hm, hB⟩ := h.ma
  refine (I.cut k hm hl).mono ?_
  rintro e w' ⟨rfl, F', hm', hk, _⟩
  exact ⟨rfl, ⟨B, F', hm', hB⟩, h.bel.trans (hk.below h.bel.size (fun i hi => Nat.le_trans hB (I.lt hm i hi).1))⟩
theorem mw_get (I : Ifc MA) {w W : World} {p : Nat} {L : Kv} (k : List UInt8) (h : Mw MA w p L W) (hl : L.length < 100000) : Calls Try.prog 13 #[.pointer (some ⟨p, 0, none⟩), .string (bs k)] W fun e w' => e = .returned (.tuple #[.int .i64 ((getF k L).getD 0), .bool (getF k L).isSome]) ∧ Mw MA w p L w' := by
  obtain ⟨B, F, hm, hB⟩ := h.ma
  refine (I.get k hm hl).mono ?_
  rintro e w' ⟨rfl, hb⟩
  exact ⟨rfl, h.on I hb⟩
theorem mw_len (I : Ifc MA) {w W : World} {p : Nat} {L : Kv} (h : Mw MA w p L W) (hl : L.length < 100000) : Calls Try.prog 15 #[.pointer (some ⟨p, 0, none⟩)] W fun e w' => e = .returned (.int .i64 L.length) ∧ Mw MA w p L w' := by
  obtain ⟨B, F, hm, hB⟩ := h.ma
  refine (I.len hm hl).mono ?_
  rintro e w' ⟨rfl, hb⟩
  exact ⟨rfl, h.on I hb⟩
theorem mw_keys (I : Ifc MA) {w W : World} {p : Nat} {L : Kv} (lo hi : List UInt8) (limit : Int) (h : Mw MA w p L W) (hl : L.length < 100000) : Calls Try.prog 17 #[.pointer (some ⟨p, 0, none⟩), .string (bs lo), .string (bs hi), .int .i64 limit] W fun e w' => ∃ v', e = .returned v' ∧ w'.ownsRow W.heap.size 9 1 v' (keysF lo hi limit L).length (kc (keysF lo hi limit L)) ∧ Mw MA w p L w' ∧ Below W.heap.size W w' := by
  obtain ⟨B, F, hm, hB⟩ := h.ma
  refine (I.keys lo hi limit hm hl).mono ?_
  rintro e w' ⟨v', rfl, ho, hb⟩
  exact ⟨v', rfl, ho, h.on I hb, hb⟩

set_option maxHeartbeats 3200000 in
set_option maxRecDepth 100000 in
theorem awake7 (I : Ifc MA) (w : World) : Calls Try.prog 7 #[] w fun e w' => e = .returned (.bool true) ∧ Below w.heap.size w w' := by
  have C1 : Hid (Calls Try.prog 8 #[] w fun e w' => ∃ p, e = .returned (.pointer (some ⟨p, 0, none⟩)) ∧ Mw MA w p [] w') := mw_new I (Below.refl _ _)
  have C2 : Hid (∀ p W, Mw MA w p [] W → Calls Try.prog 9 #[.pointer (some ⟨p, 0, none⟩), .string ⟨#[97]⟩, .int .i64 1] W fun e w' => e = .returned (.tuple #[]) ∧ Mw MA w p [([97], 1)] w') := fun p W h => mw_set I [97] 1 h (by decide)
  have C3 : Hid (∀ p W, Mw MA w p [([97], 1)] W → Calls Try.prog 9 #[.pointer (some ⟨p, 0, none⟩), .string ⟨#[99]⟩, .int .i64 3] W fun e w' => e = .returned (.tuple #[]) ∧ Mw MA w p [([97], 1), ([99], 3)] w') := fun p W h => mw_set I [99] 3 h (by decide)
  have C4 : Hid (∀ p W, Mw MA w p [([97], 1), ([99], 3)] W → Calls Try.prog 9 #[.pointer (some ⟨p, 0, none⟩), .string ⟨#[98]⟩, .int .i64 2] W fun e w' => e = .returned (.tuple #[]) ∧ Mw MA w p [([97], 1), ([98], 2), ([99], 3)] w') := fun p W h => mw_set I [98] 2 h (by decide)
  have C5 : Hid (∀ p W, Mw MA w p [([97], 1), ([98], 2), ([99], 3)] W → Calls Try.prog 17 #[.pointer (some ⟨p, 0, none⟩), .string ⟨#[]⟩, .string ⟨#[]⟩, .int .i64 9] W fun e w' => ∃ v', e = .returned v' ∧ w'.ownsRow W.heap.size 9 1 v' 3 (kc [[97], [98], [99]]) ∧ Mw MA w p [([97], 1), ([98], 2), ([99], 3)] w' ∧ Below W.heap.size W w') := fun p W h => mw_keys I [] [] 9 h (by decide)
  have C6 : Hid (∀ p W, Mw MA w p [([97], 1), ([98], 2), ([99], 3)] W → Calls Try.prog 13 #[.pointer (some ⟨p, 0, none⟩), .string ⟨#[98]⟩] W fun e w' => e = .returned (.tuple #[.int .i64 2, .bool true]) ∧ Below W.heap.size W w') := fun p W h => by
    obtain ⟨B, F, hm, hB⟩ := h.ma
    exact I.get [98] hm (by decide)
  have C7 : Hid (∀ p W, Mw MA w p [([97], 1), ([98], 2), ([99], 3)] W → Calls Try.prog 11 #[.pointer (some ⟨p, 0, none⟩), .string ⟨#[97]⟩] W fun e w' => e = .returned (.bool true) ∧ Mw MA w p [([98], 2), ([99], 3)] w') := fun p W h => mw_cut I [97] h (by decide)
  have C8 : Hid (∀ p W, Mw MA w p [([98], 2), ([99], 3)] W → Calls Try.prog 11 #[.pointer (some ⟨p, 0, none⟩), .string ⟨#[97]⟩] W fun e w' => e = .returned (.bool false) ∧ Mw MA w p [([98], 2), ([99], 3)] w') := fun p W h => mw_cut I [97] h (by decide)
  have C9 : Hid (∀ p W, Mw MA w p [([98], 2), ([99], 3)] W → Calls Try.prog 15 #[.pointer (some ⟨p, 0, none⟩)] W fun e w' => e = .returned (.int .i64 2) ∧ Mw MA w p [([98], 2), ([99], 3)] w') := fun p W h => mw_len I h (by decide)
  go_enter Try.func7, Try.ntmps7
  go_wp2_with fail
  refine C1.out.mono ?_
  rintro e w1 ⟨p, rfl, h1⟩
  have H1 : Hid _ := h1
  clear h1
  go_wp2_with fail
  refine (C2.out p _ H1.out).mono ?_
  rintro e w2 ⟨rfl, h2⟩
  have H2 : Hid _ := h2
  clear h2
  go_wp2_with fail
  refine (C3.out p _ H2.out).mono ?_
  rintro e w3 ⟨rfl, h3⟩
  have H3 : Hid _ := h3
  clear h3
  go_wp2_with fail
  refine (C4.out p _ H3.out).mono ?_
  rintro e w4 ⟨rfl, h4⟩
  have H4 : Hid _ := h4
  clear h4
  go_wp2_with fail
  refine (C5.out p _ H4.out).mono ?_
  rintro e w5 ⟨v5, rfl, ho5, h5, _⟩
  have H5 : Hid _ := h5
  have hk5 := rw_own ho5
  obtain ⟨sa, sc, rfl, _, hsc, _, hx⟩ := id hk5
  obtain ⟨b, off, rfl, _, hc⟩ := hx (by omega)
  have d0 := hc 0 _ rfl
  have d1 := hc 1 _ rfl
  have d2 := hc 2 _ rfl
  have HD : Hid (w5.cell? ⟨b, off + 0, none⟩ = some (.string (bs [97])) ∧ w5.cell? ⟨b, off + 1, none⟩ = some (.string (bs [98])) ∧ w5.cell? ⟨b, off + 2, none⟩ = some (.string (bs [99]))) := ⟨d0, d1, d2⟩
  clear h5 hk5 hc d0 d1 d2 hx ho5
  go_wp2_with fail
  refine (C6.out p _ H5.out).mono ?_
  rintro e w6 ⟨rfl, hb6⟩
  have H6 : Hid _ := H5.out.on I hb6
  have d0 : w6.cell? ⟨b, off, none⟩ = some (.string (bs [97])) := by rw [hb6.cell (p := ⟨b, off, none⟩) (World.block_lt_of_cell? _ _ HD.out.1)]; exact HD.out.1
  have d1 : w6.cell? ⟨b, off + 1, none⟩ = some (.string (bs [98])) := by rw [hb6.cell (p := ⟨b, off + 1, none⟩) (World.block_lt_of_cell? _ _ HD.out.2.1)]; exact HD.out.2.1
  have d2 : w6.cell? ⟨b, off + 2, none⟩ = some (.string (bs [99])) := by rw [hb6.cell (p := ⟨b, off + 2, none⟩) (World.block_lt_of_cell? _ _ HD.out.2.2)]; exact HD.out.2.2
  have l0 : (bs [97]).toList = [97] := bs_list _
  have l1 : (bs [98]).toList = [98] := bs_list _
  have l2 : (bs [99]).toList = [99] := bs_list _
  clear hb6 HD H5
  go_wp2_with fail
  refine (C7.out p _ H6.out).mono ?_
  rintro e w7 ⟨rfl, h7⟩
  have H7 : Hid _ := h7
  clear h7
  go_wp2_with fail
  refine (C8.out p _ H7.out).mono ?_
  rintro e w8 ⟨rfl, h8⟩
  have H8 : Hid _ := h8
  clear h8
  go_wp2_with fail
  refine (C9.out p _ H8.out).mono ?_
  rintro e w9 ⟨rfl, h9⟩
  have H9 : Hid _ := h9
  clear h9
  go_wp2_with fail
  go_ret
  exact ⟨rfl, H9.out.bel⟩

set_option maxHeartbeats 1600000 in
set_option maxRecDepth 100000 in
theorem nothing5 (I : Ifc MA) (k : List UInt8) (v : Int) (w : World) : Calls Try.prog 5 #[.string (bs k), .int .i64 v] w fun e w' => e = .returned (.bool true) ∧ Below w.heap.size w w' := by
  have CA : Hid (∀ W : World, 1 = 1 → Calls Try.prog 7 #[] W fun e w' => e = .returned (.bool true) ∧ Below W.heap.size W w') := fun W _ => awake7 I W
  have CS : Hid (∀ W : World, 1 = 1 → Calls Try.prog 9 #[.pointer none, .string (bs k), .int .i64 v] W fun e w' => e = .returned (.tuple #[]) ∧ Below W.heap.size W w') := fun W _ => I.set0 k v W
  have CG : Hid (∀ W : World, 1 = 1 → Calls Try.prog 13 #[.pointer none, .string (bs k)] W fun e w' => e = .returned (.tuple #[.int .i64 0, .bool false]) ∧ Below W.heap.size W w') := fun W _ => I.get0 k W
  have CC : Hid (∀ W : World, 1 = 1 → Calls Try.prog 11 #[.pointer none, .string (bs k)] W fun e w' => e = .returned (.bool false) ∧ Below W.heap.size W w') := fun W _ => I.cut0 k W
  have CL : Hid (∀ W : World, 1 = 1 → Calls Try.prog 15 #[.pointer none] W fun e w' => e = .returned (.int .i64 0) ∧ Below W.heap.size W w') := fun W _ => I.len0 W
  have CK : Hid (∀ W : World, 1 = 1 → Calls Try.prog 17 #[.pointer none, .string ⟨#[]⟩, .string ⟨#[]⟩, .int .i64 9] W fun e w' => ∃ ao cap, e = .returned (.slice ao 0 cap) ∧ Below W.heap.size W w') := fun W _ => I.keys0 [] [] 9 W
  go_enter Try.func5, Try.ntmps5
  go_wp2_with fail
  refine (CA.out _ (by trivial)).mono ?_
  rintro e w1 ⟨rfl, hb⟩
  have H1 : Hid _ := hb
  clear hb
  go_wp2_with fail
  refine (CS.out _ (by trivial)).mono ?_
  rintro e w2 ⟨rfl, hb⟩
  have H2 : Hid (Below w.heap.size w w2) := H1.out.trans (hb.mono H1.out.size)
  clear hb
  go_wp2_with fail
  refine (CG.out _ (by trivial)).mono ?_
  rintro e w3 ⟨rfl, hb⟩
  have H3 : Hid (Below w.heap.size w w3) := H2.out.trans (hb.mono H2.out.size)
  clear hb
  go_wp2_with fail
  refine (CC.out _ (by trivial)).mono ?_
  rintro e w4 ⟨rfl, hb⟩
  have H4 : Hid (Below w.heap.size w w4) := H3.out.trans (hb.mono H3.out.size)
  clear hb
  go_wp2_with fail
  refine (CL.out _ (by trivial)).mono ?_
  rintro e w5 ⟨rfl, hb⟩
  have H5 : Hid (Below w.heap.size w w5) := H4.out.trans (hb.mono H4.out.size)
  clear hb
  go_wp2_with fail
  refine (CK.out _ (by trivial)).mono ?_
  rintro e w6 ⟨ao, cap, rfl, hb⟩
  have H6 : Hid (Below w.heap.size w w6) := H5.out.trans (hb.mono H5.out.size)
  clear hb
  go_wp2_with fail
  go_ret
  exact ⟨rfl, H6.out⟩
end Go.Proofs.Ytogkgibneddngaa
