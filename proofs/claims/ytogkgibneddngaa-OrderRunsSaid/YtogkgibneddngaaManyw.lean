/-
  The walk of OrderMany over what the laws ask of the program's map.
-/
import Derived.Test.YtogkgibneddngaaIfc
import Derived.Laws.BytesArg
import Derived.StringKeys
namespace Go.Proofs.Ytogkgibneddngaa
open Go.RowKit Go.Sort Go.Maps Go.MapKept Go.ChangeMaps Go.WideMaps
variable {MA : Nat → Nat → (Nat → Prop) → Kv → World → Prop}

set_option maxHeartbeats 800000 in
theorem key19 (n : Int) (w : World) : Calls Try.prog 19 #[.int .u16 n] w fun e w' => ∃ kb : List UInt8, kb.length ≤ 1000 ∧ e = .returned (.string (bs kb)) ∧ Below w.heap.size w w' := by
  have hconv := run_convert_bytes_arg (P := Try.prog) (w.alloc (.cells #[.int .u8 (n / 256 % 256), .int .u8 (n % 256)] 5)) 59 5 Try.underlying59 Try.underlying5 w.heap.size 0 2 2 [n / 256 % 256, n % 256] rfl (fun i hi => by
    match i, hi with
    | 0, _ => simp [go_sem]
    | 1, _ => simp [go_sem]) 9 Try.underlying9
  have hs : (strOfNums [n / 256 % 256, n % 256]).data.toList.length ≤ 1000 := by simp [strOfNums]
  have he := bs_of (strOfNums [n / 256 % 256, n % 256])
  generalize strOfNums [n / 256 % 256, n % 256] = s at *
  have HS : Hid _ := hs
  have HE : Hid _ := he
  clear hs he
  go_enter Try.func19, Try.ntmps19
  go_wp2_with fail
  go_ret
  refine ⟨s.data.toList, HS.out, ?_, al _⟩
  rw [HE.out]
  rfl

theorem law9 : Keyed Try.prog 9 := string_keyed Try.underlying9
theorem zero3 (w : World) : (zeroValue 3).run Try.prog w = .ok (.int .i64 0) w := by kernel_rfl
theorem key_of (k : List UInt8) (h : k.length ≤ 1000) : keyOf Try.prog 9 (.string (bs k)) = some (.string k) := by
  have := keyOf_string_mk (P := Try.prog) Try.underlying9 (s := bs k) (by rw [bs_size]; unfold maxLen; omega)
  rw [bs_data] at this
  exact this

/-- The program's map, and the Go map beside it: they have the same. -/
structure My (MA : Nat → Nat → (Nat → Prop) → Kv → World → Prop) (w : World) (p hb : Nat) (L : Kv) (D : DataW Unit) (n : Nat) (W : World) : Prop where
  ma : ∃ B F, MA B p F L W ∧ w.heap.size ≤ B ∧ ¬ F hb
  own : W.ownsMap Try.prog 9 (plainElem Try.prog 3) hb n D
  bel : Below w.heap.size w W
  lo : w.heap.size ≤ hb
theorem owns_kept {w w' : World} {hb n : Nat} {D : DataW Unit} {F : Nat → Prop} (h : w.ownsMap Try.prog 9 (plainElem Try.prog 3) hb n D) (hk : Kept F w w') (hF : ¬ F hb) : w'.ownsMap Try.prog 9 (plainElem Try.prog 3) hb n D := by
  obtain ⟨es, clock, h1, r⟩ := h
  exact ⟨es, clock, by rw [hk.block hb (Array.getElem?_eq_some_iff.1 h1).1 hF]; exact h1, r⟩
theorem owns_lt {w : World} {hb n : Nat} {D : DataW Unit} (h : w.ownsMap Try.prog 9 (plainElem Try.prog 3) hb n D) : hb < w.heap.size := by
  obtain ⟨es, clock, h1, r⟩ := h
  exact (Array.getElem?_eq_some_iff.1 h1).1
theorem My.on (I : Ifc MA) {w W W' : World} {p hb n : Nat} {L : Kv} {D : DataW Unit} (h : My MA w p hb L D n W) (hbl : Below W.heap.size W W') : My MA w p hb L D n W' := by
  obtain ⟨B, F, h1, h2, h3⟩ := h.ma
  have k := Kept.of_below (F := fun _ => False) hbl
  exact ⟨⟨B, F, I.keep h1 k (fun _ _ h => h), h2, h3⟩, owns_kept h.own k (fun h => h), h.bel.trans (hbl.mono h.bel.size), h.lo⟩
/-- The Go map alone has turned. -/
theorem My.turn (I : Ifc MA) {w W W' : World} {p hb n n' : Nat} {L L' : Kv} {D D' : DataW Unit} (h : My MA w p hb L D n W) (hk : Kept (fun k => k = hb) W W') (ho : W'.ownsMap Try.prog 9 (plainElem Try.prog 3) hb n' D') (_hL : L = L') : My MA w p hb L D' n' W' := by
  obtain ⟨B, F, h1, h2, h3⟩ := h.ma
  exact ⟨⟨B, F, I.keep h1 hk (fun k hf e => h3 (e ▸ hf)), h2, h3⟩, ho, h.bel.trans (hk.below h.bel.size (fun i hi => by rw [hi]; exact h.lo)), h.lo⟩
theorem my_set (I : Ifc MA) {w W : World} {p hb n : Nat} {L : Kv} {D : DataW Unit} (k : List UInt8) (v : Int) (h : My MA w p hb L D n W) (hl : L.length < 100000) : Calls Try.prog 9 #[.pointer (some ⟨p, 0, none⟩), .string (bs k), .int .i64 v] W fun e w' => e = .returned (.tuple #[]) ∧ My MA w p hb (setF k v L) D n w' := by
  obtain ⟨B, F, h1, h2, h3⟩ := h.ma
  refine (I.set k v h1 hl).mono ?_
  rintro e w' ⟨rfl, F', hm, hk, hf⟩
  refine ⟨rfl, ⟨B, F', hm, h2, fun hx => ?_⟩, owns_kept h.own hk h3, h.bel.trans (hk.below h.bel.size (fun i hi => Nat.le_trans h2 (I.lt h1 i hi).1)), h.lo⟩
  rcases hf hb hx with hx | hx
  · exact h3 hx
  · have := owns_lt h.own; omega
theorem my_cut (I : Ifc MA) {w W : World} {p hb n : Nat} {L : Kv} {D : DataW Unit} (k : List UInt8) (h : My MA w p hb L D n W) (hl : L.length < 100000) : Calls Try.prog 11 #[.pointer (some ⟨p, 0, none⟩), .string (bs k)] W fun e w' => e = .returned (.bool (getF k L).isSome) ∧ My MA w p hb (cutF k L) D n w' := by
  obtain ⟨B, F, h1, h2, h3⟩ := h.ma
  refine (I.cut k h1 hl).mono ?_
  rintro e w' ⟨rfl, F', hm, hk, hf⟩
  refine ⟨rfl, ⟨B, F', hm, h2, fun hx => ?_⟩, owns_kept h.own hk h3, h.bel.trans (hk.below h.bel.size (fun i hi => Nat.le_trans h2 (I.lt h1 i hi).1)), h.lo⟩
  rcases hf hb hx with hx | hx
  · exact h3 hx
  · have := owns_lt h.own; omega
theorem my_get (I : Ifc MA) {w W : World} {p hb n : Nat} {L : Kv} {D : DataW Unit} (k : List UInt8) (h : My MA w p hb L D n W) (hl : L.length < 100000) : Calls Try.prog 13 #[.pointer (some ⟨p, 0, none⟩), .string (bs k)] W fun e w' => e = .returned (.tuple #[.int .i64 ((getF k L).getD 0), .bool (getF k L).isSome]) ∧ Below W.heap.size W w' := by
  obtain ⟨B, F, h1, h2, h3⟩ := h.ma
  exact I.get k h1 hl
theorem my_len (I : Ifc MA) {w W : World} {p hb n : Nat} {L : Kv} {D : DataW Unit} (h : My MA w p hb L D n W) (hl : L.length < 100000) : Calls Try.prog 15 #[.pointer (some ⟨p, 0, none⟩)] W fun e w' => e = .returned (.int .i64 L.length) ∧ Below W.heap.size W w' := by
  obtain ⟨B, F, h1, h2, h3⟩ := h.ma
  exact I.len h1 hl
theorem my_keys (I : Ifc MA) {w W : World} {p hb n : Nat} {L : Kv} {D : DataW Unit} (h : My MA w p hb L D n W) (hl : L.length < 5000) : Calls Try.prog 17 #[.pointer (some ⟨p, 0, none⟩), .string ⟨#[]⟩, .string ⟨#[]⟩, .int .i64 5000] W fun e w' => ∃ v', e = .returned v' ∧ KsAt w'.heap.size v' (L.map (·.1)) w' ∧ Below W.heap.size W w' := by
  obtain ⟨B, F, h1, h2, h3⟩ := h.ma
  refine (I.keys [] [] 5000 h1 (by omega)).mono ?_
  rintro e w' ⟨v', rfl, ho, hb⟩
  rw [keys_all (by omega)] at ho
  exact ⟨v', rfl, rw_own ho, hb⟩
theorem my_new (I : Ifc MA) {w W : World} {p : Nat} (h : Mw MA w p [] W) : My MA w p W.heap.size [] (.map []) 0 (W.alloc (.map #[] 0)) := by
  obtain ⟨B, F, hm, hB⟩ := h.ma
  have k := Kept.of_below (F := fun _ => False) (al (W := W) (.map #[] 0))
  exact ⟨⟨B, F, I.keep hm k (fun _ _ h => h), hB, fun hf => by have := (I.lt hm _ hf).2; omega⟩, World.ownsMap_made _ _ _ _, (h.on I (al _)).bel, h.bel.size⟩
theorem grown_turn {w w' : World} {hb : Nat} (h : w.grownBy w' (some hb)) : Kept (fun k => k = hb) w w' := ⟨h.os, h.tape, h.output, h.size, fun k hk hn => h.block k hk (fun e => hn (by simpa using e))⟩
end Go.Proofs.Ytogkgibneddngaa
