/-
  Contract of awake: it answers true, and turns no memory that was there.
-/
import Derived.Test.YtncjcipbkeljdaaNext
namespace Go.Proofs.Ytncjcipbkeljdaa
open Go.RowKit Go.Sort

set_option maxHeartbeats 800000 in
theorem awake9 (w : World) : Calls Try.prog 9 #[] w fun e w' => e = .returned (.bool true) ∧ Below w.heap.size w w' := by
  have h97 : (⟨#[97]⟩ : ByteArray) = bs [97] := rfl
  have h17 := fun w => wrap17 [97] w (by decide)
  have hfl : (frameOf [97]).length = 7 := by rw [frameOf_len]; rfl
  have h10 := fun w => next10 (frameOf [97] ++ [120]) w (by rw [List.length_append, hfl]; decide)
  rw [next_form [97] [120] (by decide), hfl] at h10
  have hbl : (bs (frameOf [97])).size = 7 := by rw [bs_size, hfl]
  have hadd : bs (frameOf [97]) ++ (⟨#[120]⟩ : ByteArray) = bs (frameOf [97] ++ [120]) := bs_append _ [120]
  have hs12 : ∀ w, Calls Try.prog 12 #[.string ⟨#[49, 50, 51, 52, 53, 54, 55, 56, 57]⟩] w fun e w' => e = .returned (.int .u32 3808858755) ∧ w = w' := fun w => by
    have := sum12 ⟨#[49, 50, 51, 52, 53, 54, 55, 56, 57]⟩ w (by decide)
    rw [show crc (⟨#[49, 50, 51, 52, 53, 54, 55, 56, 57]⟩ : ByteArray).data.toList = 3808858755 from crc_nine] at this
    exact this
  have teq : ((bs [97]).toList == [97]) = true := by rw [toList_list, bs_data]; decide
  have HS : Hid ((∀ w, 1 = 1 → Calls Try.prog 17 #[.string ⟨#[97]⟩] w fun e w' => e = .returned (.tuple #[.string (bs (frameOf [97])), .int .i64 0]) ∧ Below w.heap.size w w') ∧
    (∀ w, 1 = 1 → Calls Try.prog 10 #[.string (bs (frameOf [97] ++ [120]))] w fun e w' => e = .returned (.tuple #[.string (bs [97]), .int .i64 7, .int .i64 0]) ∧ Below w.heap.size w w') ∧
    (∀ w, 1 = 1 → Calls Try.prog 12 #[.string ⟨#[49, 50, 51, 52, 53, 54, 55, 56, 57]⟩] w fun e w' => e = .returned (.int .u32 3808858755) ∧ w = w')) := ⟨fun w _ => h17 w, fun w _ => h10 w, fun w _ => hs12 w⟩
  clear h17 h10 hs12 hfl h97
  generalize frameOf [97] ++ [120] = G at *
  generalize frameOf [97] = F at *
  go_enter Try.func9, Try.ntmps9
  go_wp2_with (first
    | (go_at_call 17; refine (HS.out.1 _ (by trivial)).mono ?_; rintro e w1 ⟨rfl, hb⟩; have HA : Hid (Below w.heap.size w w1) := hb; clear hb)
    | (go_at_call 10; refine (HS.out.2.1 _ (by trivial)).mono ?_; rintro e w2 ⟨rfl, hb⟩; have HB : Hid (Below w.heap.size w w2) := HA.out.trans (hb.mono HA.out.size); clear hb)
    | (go_at_call 12; refine (HS.out.2.2 _ (by trivial)).mono ?_; rintro e w3 ⟨rfl, rfl⟩))
  go_ret
  exact ⟨rfl, HB.out⟩

end Go.Proofs.Ytncjcipbkeljdaa
