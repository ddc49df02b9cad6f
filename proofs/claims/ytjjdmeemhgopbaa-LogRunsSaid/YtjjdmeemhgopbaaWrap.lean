/-
  Contracts of frame.Wrap and of the document's: a payload's frame, or that it is too long.
-/
import Derived.Test.YtjjdmeemhgopbaaFrames
import Derived.Test.YtjjdmeemhgopbaaRefWr
namespace Go.Proofs.Ytjjdmeemhgopbaa
open Go.RowKit Go.Sort

theorem bs_mark (l : List UInt8) : (⟨#[215]⟩ : ByteArray) ++ bs l = bs (215 :: l) := bs_append [215] l

set_option maxHeartbeats 400000 in
theorem wrap17_more (p : List UInt8) (w : World) (hp : 16384 < p.length) (hp2 : p.length < 9223372036854775807) :
    Calls Try.prog 63 #[.string (bs p)] w fun e w' => e = .returned (.tuple #[.string (bs []), .int .i64 3]) ∧ w = w' := by
  have hs := bs_size p
  have h' : (16384 : Int) < p.length := by omega
  go_enter Try.func63, Try.ntmps63
  go_wp2
  go_ret2
  exact ⟨rfl, rfl⟩

set_option maxHeartbeats 800000 in
theorem wrap17 (p : List UInt8) (w : World) (hp : p.length ≤ 16384) :
    Calls Try.prog 63 #[.string (bs p)] w fun e w' => e = .returned (.tuple #[.string (bs (frameOf p)), .int .i64 0]) ∧ Below w.heap.size w w' := by
  have hs := bs_size p
  have h' : ¬ (16384 : Int) < p.length := by omega
  have hbl : (bs (textForm p)).size = sz p.length + p.length := by rw [bs_size, textForm_len]
  have hz := sz_small hp
  go_enter Try.func63, Try.ntmps63
  go_wp2_with fail
  obtain ⟨pb, hpb⟩ : ∃ pb, pb = w.heap.size := ⟨_, rfl⟩
  have hA := text12 pb [] (bs p) (w.alloc (.cells #[.slice none 0 0] 119)) (by rw [hpb]; exact wr_new w) (by simp; omega)
  rw [← hpb]
  refine hA.mono ?_
  clear hA
  rintro e w2 ⟨rfl, h1, k1⟩
  rw [List.nil_append, hs, bs_data] at h1
  have H1 : Hid (WrAt pb (textForm p) w2 ∧ Below w.heap.size w w2) := ⟨h1, ((Below.refl _ _).alloc (Nat.le_refl _) _).trans (k1.below.mono (by omega))⟩
  clear h1 k1 hpb
  have hm := bs_mark (textForm p)
  have hm2 : bs (215 :: textForm p) ++ bs (four (crc (textForm p))) = bs (frameOf p) := bs_append _ _
  have hml : (bs (215 :: textForm p)).size = sz p.length + p.length + 1 := by rw [bs_size, List.length_cons, textForm_len]
  have hfl : (bs (four (crc (textForm p)))).size = 4 := bs_size _
  have hsl : ∀ w, Calls Try.prog 82 #[.string (bs (textForm p))] w fun e w' => e = .returned (.string (bs (four (crc (textForm p))))) ∧ Below w.heap.size w w' := fun w => by
    have := seal23 (bs (textForm p)) w (by omega)
    rw [bs_data] at this
    exact this
  have HS : Hid (∀ w, 1 = 1 → Calls Try.prog 82 #[.string (bs (textForm p))] w fun e w' => e = .returned (.string (bs (four (crc (textForm p))))) ∧ Below w.heap.size w w') := fun w _ => hsl w
  clear hsl
  obtain ⟨G, hG⟩ : ∃ G, G = frameOf p := ⟨_, rfl⟩
  rw [← hG] at hm2
  have HG : Hid (G = frameOf p) := hG
  clear hG
  generalize four (crc (textForm p)) = F at *
  generalize textForm p = B at *
  go_wp2_with (first
    | (go_at_call 74; refine (bytes18 pb _ _ H1.out.1).mono ?_; rintro e w3 ⟨rfl, rfl⟩)
    | (go_at_call 82; refine (HS.out _ (by trivial)).mono ?_; rintro e w3 ⟨rfl, hb⟩; have HB : Hid (Below w.heap.size w w3) := H1.out.2.trans (hb.mono H1.out.2.size); clear hb))
  go_ret2
  rw [← HG.out]
  exact ⟨rfl, HB.out⟩

set_option maxHeartbeats 400000 in
theorem refWrap18_more (p : List UInt8) (w : World) (hp : 16384 < p.length) (hp2 : p.length < 9223372036854775807) :
    Calls Try.prog 65 #[.string (bs p)] w fun e w' => e = .returned (.tuple #[.string (bs []), .int .i64 3]) ∧ w = w' := by
  have hs := bs_size p
  have h' : (16384 : Int) < p.length := by omega
  go_enter Try.func65, Try.ntmps65
  go_wp2
  go_ret2
  exact ⟨rfl, rfl⟩

set_option maxHeartbeats 800000 in
theorem refWrap18 (p : List UInt8) (w : World) (hp : p.length ≤ 16384) :
    Calls Try.prog 65 #[.string (bs p)] w fun e w' => e = .returned (.tuple #[.string (bs (frameOf p)), .int .i64 0]) ∧ Below w.heap.size w w' := by
  have hs := bs_size p
  have h' : ¬ (16384 : Int) < p.length := by omega
  have hbl : (bs (textForm p)).size = sz p.length + p.length := by rw [bs_size, textForm_len]
  have hz := sz_small hp
  have hm := bs_mark (textForm p)
  have hm2 : bs (215 :: textForm p) ++ bs (four (crc (textForm p))) = bs (frameOf p) := bs_append _ _
  have hml : (bs (215 :: textForm p)).size = sz p.length + p.length + 1 := by rw [bs_size, List.length_cons, textForm_len]
  have hfl : (bs (four (crc (textForm p)))).size = 4 := bs_size _
  have hsl : ∀ w, Calls Try.prog 85 #[.string (bs (textForm p))] w fun e w' => e = .returned (.int .u32 (crc (textForm p))) ∧ w = w' := fun w => by
    have := refSum13 (bs (textForm p)) w (by omega)
    rw [bs_data] at this
    exact this
  have h28 := fun w => refFour28 (crc (textForm p)) w (crc_lt _)
  have h27 := fun w => refText13 p w (by omega)
  have HS : Hid ((∀ w, 1 = 1 → Calls Try.prog 85 #[.string (bs (textForm p))] w fun e w' => e = .returned (.int .u32 (crc (textForm p))) ∧ w = w') ∧
    (∀ w, 1 = 1 → Calls Try.prog 84 #[.int .u32 (crc (textForm p))] w fun e w' => e = .returned (.string (bs (four (crc (textForm p))))) ∧ Below w.heap.size w w') ∧
    (∀ w, 1 = 1 → Calls Try.prog 83 #[.string (bs p)] w fun e w' => e = .returned (.string (bs (textForm p))) ∧ Below w.heap.size w w')) := ⟨fun w _ => hsl w, fun w _ => h28 w, fun w _ => h27 w⟩
  clear hsl h28 h27
  generalize four (crc (textForm p)) = F at *
  generalize crc (textForm p) = X at *
  generalize textForm p = B at *
  generalize frameOf p = G at *
  go_enter Try.func65, Try.ntmps65
  go_wp2_with (first
    | (go_at_call 83; refine (HS.out.2.2 _ (by trivial)).mono ?_; rintro e w3 ⟨rfl, hb⟩; have HA : Hid (Below w.heap.size w w3) := hb; clear hb)
    | (go_at_call 85; refine (HS.out.1 _ (by trivial)).mono ?_; rintro e w4 ⟨rfl, rfl⟩)
    | (go_at_call 84; refine (HS.out.2.1 _ (by trivial)).mono ?_; rintro e w5 ⟨rfl, hb⟩; have HB : Hid (Below w.heap.size w w5) := HA.out.trans (hb.mono HA.out.size); clear hb))
  go_ret2
  exact ⟨rfl, HB.out⟩

end Go.Proofs.Ytjjdmeemhgopbaa
