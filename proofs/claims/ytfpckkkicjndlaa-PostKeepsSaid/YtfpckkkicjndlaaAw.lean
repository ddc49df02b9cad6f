/-
  awake.
-/
import Derived.Test.YtfpckkkicjndlaaIf
namespace Go.Proofs.Ytfpckkkicjndlaa
open Go.RowKit Go.Sort
variable {PA : Nat → Nat → (Nat → Prop) → Kq → World → Prop}

def nF : Nat → Prop := fun _ => False
theorem wake1 : sendF [97] [] = [[97]] ∧ sendF [98] [[97]] = [[97], [98]] ∧ sendB [] = true ∧ sendB [[97]] = true ∧ atF (-1) [[97], [98]] = [98] ∧ someB [[97], [98]] = true ∧ takeF (-1) [[97], [98]] = [[97]] := by decide
set_option maxHeartbeats 800000 in
set_option maxRecDepth 100000 in
theorem awake6 (I : Ifo PA) (w : World) : Calls Try.prog 6 #[] w fun e w' => e = .returned (.bool true) ∧ Below w.heap.size w w' := by
  obtain ⟨k1, k2, k3, k4, k5, k6, k7⟩ := wake1
  have CN : Hid (1 = 1 → _) := fun _ => pz_new I (w := w) (W := w) (F := nF) (Below.refl _ _) (fun _ h => h.elim)
  go_enter Try.func6, Try.ntmps6
  go_wp2_with fail
  refine (CN.out (by trivial)).mono ?_
  rintro e w1 ⟨p, rfl, hp, hb1⟩
  have H1 : Hid (Pz PA w p [] nF w1) := hp
  clear hp hb1 CN
  have CA : Hid (1 = 1 → Calls Try.prog 8 #[.pointer (some ⟨p, 0, none⟩), .string ⟨#[97]⟩] w1 fun e w' => e = .returned (.bool true) ∧ Pz PA w p [[97]] nF w' ∧ Kp nF w w1 w') := fun _ => by
    have := pz_send I [97] H1.out
    rw [k1, k3] at this
    exact this
  go_wp2_with fail
  refine (CA.out (by trivial)).mono ?_
  rintro e w2 ⟨rfl, hp, -⟩
  have H2 : Hid (Pz PA w p [[97]] nF w2) := hp
  clear hp CA H1
  have CB : Hid (1 = 1 → Calls Try.prog 8 #[.pointer (some ⟨p, 0, none⟩), .string ⟨#[98]⟩] w2 fun e w' => e = .returned (.bool true) ∧ Pz PA w p [[97], [98]] nF w' ∧ Kp nF w w2 w') := fun _ => by
    have := pz_send I [98] H2.out
    rw [k2, k4] at this
    exact this
  go_wp2_with fail
  refine (CB.out (by trivial)).mono ?_
  rintro e w3 ⟨rfl, hp, -⟩
  have H3 : Hid (Pz PA w p [[97], [98]] nF w3) := hp
  clear hp CB H2
  have CT : Hid (1 = 1 → Calls Try.prog 10 #[.pointer (some ⟨p, 0, none⟩), .int .i64 (-1)] w3 fun e w' => e = .returned (.tuple #[.string ⟨#[98]⟩, .bool true]) ∧ Pz PA w p [[97]] nF w' ∧ Kp nF w w3 w') := fun _ => by
    have := pz_take I (-1) ⟨by decide, by decide⟩ H3.out
    rw [k5, k6, k7] at this
    exact this
  go_wp2_with fail
  refine (CT.out (by trivial)).mono ?_
  rintro e w4 ⟨rfl, hp, -⟩
  have H4 : Hid (Pz PA w p [[97]] nF w4) := hp
  clear hp CT H3
  go_wp2_with fail
  refine (pz_all I H4.out).mono ?_
  rintro e w5 ⟨v, rfl, hv, -, hp, -⟩
  have H5 : Hid (Below w.heap.size w w5) := hp.bel
  obtain ⟨ao, cap, rfl, -, -⟩ := hv.shape
  clear hp hv H4
  go_wp2_with fail
  go_ret
  exact ⟨rfl, H5.out⟩
end Go.Proofs.Ytfpckkkicjndlaa
