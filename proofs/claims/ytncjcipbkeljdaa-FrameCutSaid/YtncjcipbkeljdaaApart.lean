/-
  The walk of FrameApart: of any two payloads it answers true, and turns no memory that was there.
-/
import Derived.Test.YtncjcipbkeljdaaWake
namespace Go.Proofs.Ytncjcipbkeljdaa
open Go.RowKit Go.Sort

theorem beq_bs {a b : List UInt8} (h : a = b) : ((bs a).toList == (bs b).toList) = true := by rw [toList_list, toList_list, bs_data, bs_data, h]; simp
theorem bne_bs {a b : List UInt8} (h : ¬ a = b) : ((bs a).toList == (bs b).toList) = false := by rw [toList_list, toList_list, bs_data, bs_data]; simpa using h

set_option maxHeartbeats 800000 in
theorem apart7 (a b : List UInt8) (w : World) (ha : a.length ≤ 140737488355328) (hb : b.length ≤ 140737488355328) :
    Calls Try.prog 7 #[.string (bs a), .string (bs b)] w fun e w' => e = .returned (.bool true) ∧ Below w.heap.size w w' := by
  have hsa := bs_size a
  have hsb := bs_size b
  by_cases hg : 5000 < a.length + b.length
  · have hg' : (5000 : Int) < (a.length : Int) + b.length := by omega
    go_enter Try.func7, Try.ntmps7
    go_wp2_with (go_at_call 9; refine (awake9 _).mono ?_; rintro e w1 ⟨rfl, hb⟩; have HB : Hid (Below w.heap.size w w1) := hb; clear hb)
    go_ret
    exact ⟨rfl, HB.out⟩
  · have hg' : ¬ (5000 : Int) < (a.length : Int) + b.length := by omega
    have ca := fun w => wrap17 a w (by omega)
    have cb := fun w => wrap17 b w (by omega)
    have hap := fun h => frame_apart (p := a) (q := b) (by omega) (by omega) h
    have hfa : (bs (frameOf a)).size = (frameOf a).length := bs_size _
    have hfb : (bs (frameOf b)).size = (frameOf b).length := bs_size _
    have hla : (frameOf a).length < 10000 := by rw [frameOf_len]; have := sz_small (n := a.length) (by omega); omega
    have hlb : (frameOf b).length < 10000 := by rw [frameOf_len]; have := sz_small (n := b.length) (by omega); omega
    have HC : Hid ((∀ w, 1 = 1 → Calls Try.prog 17 #[.string (bs a)] w fun e w' => e = .returned (.tuple #[.string (bs (frameOf a)), .int .i64 0]) ∧ Below w.heap.size w w') ∧ (∀ w, 1 = 1 → Calls Try.prog 17 #[.string (bs b)] w fun e w' => e = .returned (.tuple #[.string (bs (frameOf b)), .int .i64 0]) ∧ Below w.heap.size w w')) := ⟨fun w _ => ca w, fun w _ => cb w⟩
    clear ca cb
    by_cases hab : a = b
    · subst hab
      have teq := beq_bs (a := a) rfl
      have teq2 := beq_bs (a := frameOf a) rfl
      clear hap
      generalize frameOf a = F at *
      go_enter Try.func7, Try.ntmps7
      go_wp2_with (go_at_call 9; refine (awake9 _).mono ?_; rintro e w1 ⟨rfl, hb⟩; have HB : Hid (Below w.heap.size w w1) := hb; clear hb)
      refine (HC.out.1 _ (by trivial)).mono ?_
      rintro e w2 ⟨rfl, h1⟩
      have H2 : Hid (Below w.heap.size w w2) := HB.out.trans (h1.mono HB.out.size)
      clear h1
      go_wp2_with fail
      refine (HC.out.1 _ (by trivial)).mono ?_
      rintro e w3 ⟨rfl, h1⟩
      have H3 : Hid (Below w.heap.size w w3) := H2.out.trans (h1.mono H2.out.size)
      clear h1
      go_wp2
      go_ret
      exact ⟨rfl, H3.out⟩
    · have tne := bne_bs hab
      have tne2 := bne_bs (fun h => hab (hap h))
      clear hap hab
      generalize frameOf a = F at *
      generalize frameOf b = G at *
      obtain ⟨m, hm⟩ : ∃ m, m = min F.length G.length := ⟨_, rfl⟩
      have hmi : min (F.length : Int) (G.length : Int) = (m : Int) := by omega
      rw [← hm] at tne2
      have hmF : m ≤ (bs F).size := by omega
      have hmG : m ≤ (bs G).size := by omega
      have hmF' : m ≤ F.length := by omega
      have hmG' : m ≤ G.length := by omega
      rw [← bs_take, ← bs_take] at tne2
      clear hm
      go_enter Try.func7, Try.ntmps7
      go_wp2_with (go_at_call 9; refine (awake9 _).mono ?_; rintro e w1 ⟨rfl, hb⟩; have HB : Hid (Below w.heap.size w w1) := hb; clear hb)
      refine (HC.out.1 _ (by trivial)).mono ?_
      rintro e w2 ⟨rfl, h1⟩
      have H2 : Hid (Below w.heap.size w w2) := HB.out.trans (h1.mono HB.out.size)
      clear h1
      go_wp2_with fail
      refine (HC.out.2 _ (by trivial)).mono ?_
      rintro e w3 ⟨rfl, h1⟩
      have H3 : Hid (Below w.heap.size w w3) := H2.out.trans (h1.mono H2.out.size)
      clear h1
      go_wp2_with fail
      go_quiet (fail)
      go_wp2
      go_ret
      exact ⟨rfl, below_drewN H3.out _⟩

end Go.Proofs.Ytncjcipbkeljdaa
