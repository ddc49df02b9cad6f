/-
  Contracts of the document's forms of texts, flags and stamps.
-/
import Derived.Test.YtjjdmeemhgopbaaRefRd
import Derived.Lib.QuietBelow
namespace Go.Proofs.Ytjjdmeemhgopbaa
open Go.RowKit Go.Sort

set_option maxHeartbeats 400000 in
theorem refText13 (s : List UInt8) (w : World) (hs : s.length ≤ 140737488355328) :
    Calls Try.prog 83 #[.string (bs s)] w fun e w' => e = .returned (.string (bs (textForm s))) ∧ Below w.heap.size w w' := by
  have hbs := bs_size s
  have hnl : (bs (numForm s.length)).size = sz s.length := by rw [bs_size, numForm_length]
  have hz := sz_le (n := s.length) (by omega)
  have hadd : bs (numForm s.length) ++ bs s = bs (textForm s) := bs_append _ _
  go_enter Try.func83, Try.ntmps83
  go_wp2_with (go_at_call 58; refine (refNum11 s.length _ (by omega)).mono ?_; rintro e w1 ⟨rfl, hb⟩; have HB : Hid (Below w.heap.size w w1) := hb; clear hb)
  go_ret
  exact ⟨rfl, HB.out⟩

end Go.Proofs.Ytjjdmeemhgopbaa
