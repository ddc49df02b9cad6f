/-
  What the laws ask of the program's entries; awake.
-/
import Derived.Test.YtmgjlpgjjeknpaaRz
namespace Go.Proofs.Ytmgjlpgjjeknpaa
open Go.RowKit Go.Sort

/-- Numbers and texts as their types bound them. -/
structure EnOk (e : En) : Prop where
  rg : RgE e
  k : -9223372036854775808 ≤ e.k ∧ e.k ≤ 9223372036854775807
  sp : e.sp < 18446744073709551616 ∧ e.sl < 4294967296
  ap : e.ap < 18446744073709551616 ∧ e.al < 4294967296
  mp : e.mp < 18446744073709551616 ∧ e.ml < 4294967296
  prim : e.prim.length ≤ 140737488351232
  wl : e.ws.length ≤ 140737488351232
  ws : ∀ w ∈ e.ws, w.key.length ≤ 140737488351232 ∧ w.val.length ≤ 140737488351232
/-- What the laws ask of the program's Write, Right and Read. -/
structure Ife : Prop where
  wr : ∀ (e : En) (ao : Option Addr) (cp : Nat) (w : World), EnOk e → e.ws.length ≤ 100 → WsAt w.heap.size (.slice ao e.ws.length cp) e.ws w → Calls Try.prog 8 #[.agg #[.int .i64 e.k, .int .u32 (e.c : Int), .int .u32 (e.n : Int), .int .u64 (e.sp : Int), .int .u32 (e.sl : Int), .int .u64 (e.ap : Int), .int .u32 (e.al : Int), .int .u64 (e.mp : Int), .int .u32 (e.ml : Int), .string (bs e.prim), .int .u8 (e.pt : Int), .bool e.dn, .slice ao e.ws.length cp]] w fun r w' => r = .returned (.tuple #[.string (bs (writeE e).1), .int .i64 (writeE e).2]) ∧ Below w.heap.size w w'
  ri : ∀ (e : En) (ao : Option Addr) (cp : Nat) (w : World), EnOk e → e.ws.length ≤ 100 → WsAt w.heap.size (.slice ao e.ws.length cp) e.ws w → Calls Try.prog 10 #[.agg #[.int .i64 e.k, .int .u32 (e.c : Int), .int .u32 (e.n : Int), .int .u64 (e.sp : Int), .int .u32 (e.sl : Int), .int .u64 (e.ap : Int), .int .u32 (e.al : Int), .int .u64 (e.mp : Int), .int .u32 (e.ml : Int), .string (bs e.prim), .int .u8 (e.pt : Int), .bool e.dn, .slice ao e.ws.length cp]] w fun r w' => r = .returned (.bool (rightE e)) ∧ Below w.heap.size w w'
  rd : ∀ (s : List UInt8) (w : World), s.length < 4611686018427387904 → Calls Try.prog 11 #[.string (bs s)] w (RdPost s w)
theorem right7 : rightE (En.mk 7 1 2 0 0 0 0 0 0 [] 0 false []) = true := by decide
theorem form7 : formE (En.mk 7 1 2 0 0 0 0 0 0 [] 0 false []) = [7, 1, 2] := by decide
theorem write7 : writeE (En.mk 7 1 2 0 0 0 0 0 0 [] 0 false []) = ([7, 1, 2], 0) := by
  unfold writeE
  rw [if_pos right7, form7]
theorem rg7 : RgE (En.mk 7 1 2 0 0 0 0 0 0 [] 0 false []) := ⟨by decide, by decide, by decide⟩
theorem read7 : readE [7, 1, 2] = some (En.mk 7 1 2 0 0 0 0 0 0 [] 0 false []) := by
  rw [← form7]
  exact read_form right7 rg7
theorem bs7 : bs [7, 1, 2] = ⟨#[7, 1, 2]⟩ := rfl
theorem ok7 : EnOk (En.mk 7 1 2 0 0 0 0 0 0 [] 0 false []) := ⟨rg7, by decide, by decide, by decide, by decide, by decide, by decide, by simp⟩
set_option maxHeartbeats 800000 in
set_option maxRecDepth 100000 in
theorem awake7 (I : Ife) (w : World) : Calls Try.prog 7 #[] w fun e w' => e = .returned (.bool true) ∧ Below w.heap.size w w' := by
  have CW : Hid (1 = 1 → Calls Try.prog 8 #[.agg #[.int .i64 7, .int .u32 1, .int .u32 2, .int .u64 0, .int .u32 0, .int .u64 0, .int .u32 0, .int .u64 0, .int .u32 0, .string ⟨#[]⟩, .int .u8 0, .bool false, .slice none 0 0]] w fun r w' => r = .returned (.tuple #[.string ⟨#[7, 1, 2]⟩, .int .i64 0]) ∧ Below w.heap.size w w') := fun _ => by
    have := I.wr (En.mk 7 1 2 0 0 0 0 0 0 [] 0 false []) none 0 w ok7 (by simp) (RwAt.nil _ _ _)
    rw [write7] at this
    exact this
  have CR : Hid (∀ W : World, 1 = 1 → Calls Try.prog 11 #[.string ⟨#[7, 1, 2]⟩] W fun r w' => ∃ ao cp, r = .returned (.tuple #[.agg #[.int .i64 7, .int .u32 1, .int .u32 2, .int .u64 0, .int .u32 0, .int .u64 0, .int .u32 0, .int .u64 0, .int .u32 0, .string ⟨#[]⟩, .int .u8 0, .bool false, .slice ao 0 cp], .int .i64 0]) ∧ Below W.heap.size W w') := fun W _ => by
    refine (I.rd [7, 1, 2] W (by simp)).mono fun r w' h => ?_
    obtain ⟨hb, _, hs⟩ := h
    obtain ⟨ao, cp, hr, _⟩ := hs _ read7
    exact ⟨ao, cp, hr, hb⟩
  go_enter Try.func7, Try.ntmps7
  go_wp2_with fail
  refine (CW.out (by simp)).mono ?_
  rintro r w1 ⟨rfl, hb1⟩
  have H1 : Hid (Below w.heap.size w w1) := hb1
  clear hb1 CW
  go_wp2_with fail
  refine (CR.out _ (by trivial)).mono ?_
  rintro r w2 ⟨ao, cp, rfl, hb2⟩
  have H2 : Hid (Below w.heap.size w w2) := H1.out.trans (hb2.mono H1.out.size)
  clear hb2 CR H1
  go_wp2_with fail
  go_ret
  exact ⟨rfl, H2.out.alloc H2.out.size _⟩
end Go.Proofs.Ytmgjlpgjjeknpaa
