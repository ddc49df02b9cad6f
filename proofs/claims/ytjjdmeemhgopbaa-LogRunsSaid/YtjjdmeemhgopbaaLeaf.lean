/-
  Contracts of the log's small functions: a frame of a kind; the frame with which bytes begin; the number that bytes are.
-/
import Derived.Test.YtjjdmeemhgopbaaLg
import Derived.Test.YtjjdmeemhgopbaaNext
import Derived.Test.YtjjdmeemhgopbaaBld
namespace Go.Proofs.Ytjjdmeemhgopbaa
open Go.RowKit Go.Sort

set_option maxHeartbeats 400000 in
theorem end89 (rb : Nat) (st : St) (w : World) (h : RdAt 144 rb st w) : Calls Try.prog 89 #[.pointer (some ⟨rb, 0, none⟩)] w fun e w' => e = .returned (.int .i64 (rdEnd st)) ∧ w = w' := by
  obtain ⟨l, e⟩ := st
  obtain ⟨c0, c1, f0, f1⟩ := two_cells h
  have H : Hid (RdAt 144 rb ⟨l, e⟩ w) := h
  clear h
  dsimp only at c0 c1
  by_cases he : e = 0
  · subst he
    cases l with
    | nil =>
      have hb := bs_nil_empty
      go_enter Try.func89, Try.ntmps89
      go_wp2_with (go_at_call 94; refine (err32 rb _ _ H.out).mono ?_; rintro e w1 ⟨rfl, rfl⟩)
      go_ret
      exact ⟨rfl, rfl⟩
    | cons b r =>
      have hb : (bs (b :: r)).toList.isEmpty = false := by rw [bs_empty]; rfl
      go_enter Try.func89, Try.ntmps89
      go_wp2_with (go_at_call 94; refine (err32 rb _ _ H.out).mono ?_; rintro e w1 ⟨rfl, rfl⟩)
      go_ret
      exact ⟨rfl, rfl⟩
  · have he' : ((e : Int) != 0) = true := by simp; omega
    go_enter Try.func89, Try.ntmps89
    go_wp2_with (go_at_call 94; refine (err32 rb _ _ H.out).mono ?_; rintro e w1 ⟨rfl, rfl⟩)
    go_ret
    exact ⟨by simp [rdEnd, he], rfl⟩

set_option maxHeartbeats 800000 in
theorem wrap40 (k : Nat) (r : List UInt8) (w : World) (hk : k < 256) (hr : r.length < 16384) :
    Calls Try.prog 40 #[.int .u8 k, .string (bs r)] w fun e w' => e = .returned (.string (bs (frameOf (UInt8.ofNat k :: r)))) ∧ Below w.heap.size w w' := by
  have hcv : (convert 64 9 (.slice (some ⟨w.heap.size, 0, none⟩) 1 1)).run Try.prog (w.alloc (.cells #[.int .u8 k] 5)) = .ok (.string (bs [UInt8.ofNat k])) (w.alloc (.cells #[.int .u8 k] 5)) := row_text (own_one w k k w.heap.size hk rfl (Nat.le_refl _))
  have hcat : bs [UInt8.ofNat k] ++ bs r = bs (UInt8.ofNat k :: r) := bs_append _ _
  have h1 : (bs [UInt8.ofNat k]).size = 1 := bs_size _
  have h2 : (bs r).size = r.length := bs_size _
  have HW : Hid (∀ w, 1 = 1 → Calls Try.prog 63 #[.string (bs (UInt8.ofNat k :: r))] w fun e w' => e = .returned (.tuple #[.string (bs (frameOf (UInt8.ofNat k :: r))), .int .i64 0]) ∧ Below w.heap.size w w') := fun w _ => wrap17 _ w (by rw [List.length_cons]; omega)
  generalize bs (frameOf (UInt8.ofNat k :: r)) = F at *
  generalize bs (UInt8.ofNat k :: r) = X at *
  generalize bs [UInt8.ofNat k] = K at *
  go_enter Try.func40, Try.ntmps40
  go_wp2_with (go_at_call 63; refine (HW.out _ (by trivial)).mono ?_; rintro e w2 ⟨rfl, hb⟩)
  go_ret
  exact ⟨rfl, ((Below.refl _ _).alloc (Nat.le_refl _) _).trans (hb.mono (by simp))⟩

/-- What next answers. -/
def nxVal (x : UInt8 × List UInt8 × Nat) : Value := .tuple #[.int .u8 x.1.toNat, .string (bs x.2.1), .int .i64 x.2.2]

set_option maxHeartbeats 800000 in
theorem next68 (l : List UInt8) (w : World) (hl : l.length < 9223372036854775807) :
    Calls Try.prog 68 #[.string (bs l)] w fun e w' => e = .returned (nxVal (nx l)) ∧ Below w.heap.size w w' := by
  have HN : Hid (∀ w, 1 = 1 → Calls Try.prog 86 #[.string (bs l)] w fun e w' => e = .returned (nextVal (rdNext l)) ∧ Below w.heap.size w w') := fun w _ => next10 l w hl
  obtain ⟨p, t, x, hf⟩ : ∃ p t x, rdNext l = (p, t, x) := ⟨_, _, _, rfl⟩
  have hnx : nx l = if x ≠ 0 ∨ p = [] then (0, [], 0) else (p.headD 0, p.tail, t) := by unfold nx; rw [hf]
  rw [hnx]
  rw [hf] at HN
  unfold nextVal at HN
  dsimp only at HN
  by_cases hx : x = 0
  · subst hx
    cases p with
    | nil =>
      rw [if_pos (.inr rfl)]
      have hb := bs_nil_empty
      clear hf hnx
      go_enter Try.func68, Try.ntmps68
      go_wp2_with (go_at_call 86; refine (HN.out _ (by trivial)).mono ?_; rintro e w2 ⟨rfl, hb2⟩)
      go_ret3
      exact ⟨rfl, hb2⟩
    | cons b r =>
      rw [if_neg (by simp)]
      have hb : (bs (b :: r)).toList.isEmpty = false := by rw [bs_empty]; rfl
      have hs : (bs (b :: r)).size = r.length + 1 := bs_size _
      have hg : (bs (b :: r)).data[0]? = some b := by simp [bs]
      have hd : (bs (b :: r)).extract 1 (r.length + 1) = bs r := by rw [← hs]; exact bs_drop (b :: r) 1
      have HD : Hid _ := hd
      clear hd hg
      clear hf hnx
      go_enter Try.func68, Try.ntmps68
      go_wp2_with (go_at_call 86; refine (HN.out _ (by trivial)).mono ?_; rintro e w2 ⟨rfl, hb2⟩)
      go_quiet (fail)
      go_wp2
      go_ret3
      refine ⟨?_, below_drewN hb2 _⟩
      show Ending.returned (.tuple #[.int .u8 ((bs (b :: r))[0].toNat : Int), .string ((bs (b :: r)).extract 1 (r.length + 1)), .int .i64 (t : Int)]) = _
      rw [HD.out]
      rfl
  · rw [if_pos (.inl hx)]
    have hx' : ((x : Int) != 0) = true := by simp; omega
    clear hf hnx
    go_enter Try.func68, Try.ntmps68
    go_wp2_with (go_at_call 86; refine (HN.out _ (by trivial)).mono ?_; rintro e w2 ⟨rfl, hb2⟩)
    go_ret3
    exact ⟨rfl, hb2⟩

/-- What number answers. -/
def numB (l : List UInt8) : Bool := decide (rdEnd (rdNum 18446744073709551615 ⟨l, 0⟩).2 = 0)
theorem numOf_yes {l : List UInt8} (h : numB l = true) : numOf l = some (rdNum 18446744073709551615 ⟨l, 0⟩).1 := by unfold numOf; rw [if_pos (of_decide_eq_true h)]
theorem numOf_no {l : List UInt8} (h : numB l = false) : numOf l = none := by unfold numOf; rw [if_neg (of_decide_eq_false h)]

set_option maxHeartbeats 800000 in
theorem number69 (l : List UInt8) (w : World) (hl : l.length < 9223372036854775807) :
    Calls Try.prog 69 #[.string (bs l)] w fun e w' => e = .returned (.tuple #[.int .u64 (rdNum 18446744073709551615 ⟨l, 0⟩).1, .bool (numB l)]) ∧ Below w.heap.size w w' := by
  have hn : numB l = decide (rdEnd (rdNum 18446744073709551615 ⟨l, 0⟩).2 = 0) := rfl
  rw [hn]
  clear hn
  have hl2 : (⟨l, 0⟩ : St).l.length < 9223372036854775808 := by show l.length < _; omega
  generalize hst : (⟨l, 0⟩ : St) = st at *
  obtain ⟨n, s1, hr⟩ : ∃ n s1, rdNum 18446744073709551615 st = (n, s1) := ⟨_, _, rfl⟩
  obtain ⟨x, hx⟩ : ∃ x, rdEnd s1 = x := ⟨_, rfl⟩
  rw [hr, hx]
  dsimp only
  obtain ⟨bx, hbx⟩ : ∃ bx, ((x : Int) == 0) = bx := ⟨_, rfl⟩
  have hbx2 : decide (x = 0) = bx := by rw [← hbx]; by_cases h : x = 0 <;> simp [h]
  rw [hbx2]
  clear hbx2
  obtain ⟨rb, hrb⟩ : ∃ rb, rb = w.heap.size := ⟨_, rfl⟩
  rw [← hrb]
  have HRB : Hid (rb = w.heap.size) := hrb
  clear hrb
  go_enter Try.func69, Try.ntmps69
  go_wp2_with fail
  refine (new19 l w).mono ?_
  rw [← HRB.out]
  rintro e w1 ⟨rfl, hR, hB⟩
  rw [hst] at hR
  go_wp2_with fail
  refine (num20 rb st 18446744073709551615 w1 hR hl2).mono ?_
  rw [hr]
  rintro e w2 ⟨rfl, hR2, hS⟩
  dsimp only at hR2 ⊢
  have HB : Hid (Below rb w w2) := hB.trans ⟨hS.os, hS.tape, hS.output, hS.size, fun k hk => hS.block k (by have := lt_of_block hR; omega) (by omega)⟩
  have HE : Hid (1 = 1 → Calls Try.prog 89 #[.pointer (some ⟨rb, 0, none⟩)] w2 fun e w' => e = .returned (.int .i64 x) ∧ w2 = w') := fun _ => hx ▸ end89 rb s1 w2 hR2
  clear hR hR2 hS hB hr hx hst
  go_wp2_with (go_at_call 89; refine (HE.out (by trivial)).mono ?_; rintro e w3 ⟨rfl, rfl⟩)
  go_ret2
  exact ⟨rfl, HB.out⟩

end Go.Proofs.Ytjjdmeemhgopbaa
