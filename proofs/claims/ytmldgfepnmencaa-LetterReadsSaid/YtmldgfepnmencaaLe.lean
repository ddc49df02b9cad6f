/-
  The program's Right: lists that are within their bounds.
-/
import Derived.Test.YtmldgfepnmencaaLd
namespace Go.Proofs.Ytmldgfepnmencaa
open Go.RowKit Go.Sort

set_option maxHeartbeats 1600000 in
set_option maxRecDepth 100000 in
theorem pairs54 (L : List Pr) (ao : Option Addr) (cap : Nat) (w : World) (hL : PsAt w.heap.size (.slice ao L.length cap) L w) :
    Calls Try.prog 54 #[.slice ao L.length cap] w fun e w' => e = .returned (.bool (decide (L.length ≤ 32) && L.all fun x => fitB x.key x.val)) ∧ Below w.heap.size w w' := by
  obtain ⟨hlc, hcm⟩ := hL.cap
  have hL9 : L.length < 9223372036854775808 := by omega
  by_cases hm : L.length ≤ 32
  · have hm' : ¬ (32 : Int) < L.length := by omega
    have H0 : Hid ((L.drop 0).all (fun x => fitB x.key x.val) = L.all fun x => fitB x.key x.val) := by show _ = _; rw [List.drop_zero]
    have HD : Hid (decide (L.length ≤ 32) = true) := by show _ = _; simp [hm]
    have HE : Hid (∀ W, Below w.heap.size w W → ∀ i, i < L.length → ∃ b off, ao = some ⟨b, off, none⟩ ∧ PtAt W b (off + i * 2) (L.getD i dp)) := fun W hW i hi => (hL.on hW).el hi
    obtain ⟨y, hy⟩ : ∃ y, (L.all fun x => fitB x.key x.val) = y := ⟨_, rfl⟩
    rw [hy] at H0 ⊢
    clear hL hlc hcm hy hm
    go_enter Try.func54, Try.ntmps54
    go_wp2_with fail
    go_loopw [10] (fun i wr => Below w.heap.size w wr ∧ ∃ m : Nat, m ≤ L.length ∧ i = .int .i64 m ∧ (L.drop m).all (fun x => fitB x.key x.val) = y) (fun i _ => L.length - (intOf i).toNat)
    case atStart => exact ⟨Below.refl _ _, 0, Nat.zero_le _, rfl, H0.out⟩
    case round =>
      obtain ⟨hbr, m, hm, rfl, hy⟩ := hrel
      have HBr : Hid (Below w.heap.size w wr) := hbr
      by_cases hml : m < L.length
      · obtain ⟨b, off, rfl, e0, e1⟩ := HE.out wr hbr m hml
        have hml' : (m : Int) < L.length := by omega
        have hm9 : ¬ (m : Int) < 0 := by omega
        have hst := all_step (P := fun x : Pr => fitB x.key x.val) (d := dp) hml
        rw [hy] at hst
        have HQ : Hid (m + 1 ≤ L.length) := hml
        generalize L.getD m dp = x at *
        have CF : Hid (∀ W, 1 = 1 → _) := fun W _ => fits53 x.key x.val W
        generalize fitB x.key x.val = z at CF hst
        clear hbr hy HE
        cases z
        · have hy1 : y = false := by rw [hst]; rfl
          subst hy1
          clear hst
          go_wp2_with fail
          refine (CF.out _ (by trivial)).mono ?_
          rintro e w1 ⟨rfl, rfl⟩
          go_wp2_with fail
          go_ret
          exact ⟨ret_bool (by rw [Bool.and_false]), HBr.out.alloc HBr.out.size _⟩
        · have HY : Hid ((L.drop (m + 1)).all (fun x => fitB x.key x.val) = y) := by show _ = _; rw [hst]; rfl
          clear hst
          go_wp2_with fail
          refine (CF.out _ (by trivial)).mono ?_
          rintro e w1 ⟨rfl, rfl⟩
          go_wp2_with fail
          go_roundw
          case rel => exact ⟨HBr.out.alloc HBr.out.size _, m + 1, HQ.out, by go_num, HY.out⟩
          case measure => simp [intOf]; omega
      · have hml' : ¬ (m : Int) < L.length := by omega
        have hy1 : y = true := by rw [← hy, List.drop_eq_nil_of_le (by omega)]; rfl
        subst hy1
        clear hy HE
        go_wp2_with fail
        go_ret
        exact ⟨ret_bool (by rw [HD.out]), HBr.out⟩
  · have hm' : (32 : Int) < L.length := by omega
    have HD : Hid (decide (L.length ≤ 32) = false) := by show _ = _; simp [hm]
    clear hL hlc hcm hm
    go_enter Try.func54, Try.ntmps54
    go_wp2_with fail
    go_ret
    exact ⟨ret_bool (by rw [HD.out, Bool.false_and]), Below.refl _ _⟩
set_option maxHeartbeats 1600000 in
set_option maxRecDepth 100000 in
theorem writes56 (L : List Wr) (ao : Option Addr) (cap : Nat) (w : World) (hL : WsAt w.heap.size (.slice ao L.length cap) L w) :
    Calls Try.prog 56 #[.slice ao L.length cap] w fun e w' => e = .returned (.bool (decide (L.length ≤ 16) && L.all fun x => fitB x.key x.val)) ∧ Below w.heap.size w w' := by
  obtain ⟨hlc, hcm⟩ := hL.cap
  have hL9 : L.length < 9223372036854775808 := by omega
  by_cases hm : L.length ≤ 16
  · have hm' : ¬ (16 : Int) < L.length := by omega
    have H0 : Hid ((L.drop 0).all (fun x => fitB x.key x.val) = L.all fun x => fitB x.key x.val) := by show _ = _; rw [List.drop_zero]
    have HD : Hid (decide (L.length ≤ 16) = true) := by show _ = _; simp [hm]
    have HE : Hid (∀ W, Below w.heap.size w W → ∀ i, i < L.length → ∃ b off, ao = some ⟨b, off, none⟩ ∧ WtAt W b (off + i * 3) (L.getD i dw)) := fun W hW i hi => (hL.on hW).el hi
    obtain ⟨y, hy⟩ : ∃ y, (L.all fun x => fitB x.key x.val) = y := ⟨_, rfl⟩
    rw [hy] at H0 ⊢
    clear hL hlc hcm hy hm
    go_enter Try.func56, Try.ntmps56
    go_wp2_with fail
    go_loopw [10] (fun i wr => Below w.heap.size w wr ∧ ∃ m : Nat, m ≤ L.length ∧ i = .int .i64 m ∧ (L.drop m).all (fun x => fitB x.key x.val) = y) (fun i _ => L.length - (intOf i).toNat)
    case atStart => exact ⟨Below.refl _ _, 0, Nat.zero_le _, rfl, H0.out⟩
    case round =>
      obtain ⟨hbr, m, hm, rfl, hy⟩ := hrel
      have HBr : Hid (Below w.heap.size w wr) := hbr
      by_cases hml : m < L.length
      · obtain ⟨b, off, rfl, e0, e1, e2⟩ := HE.out wr hbr m hml
        have hml' : (m : Int) < L.length := by omega
        have hm9 : ¬ (m : Int) < 0 := by omega
        have hst := all_step (P := fun x : Wr => fitB x.key x.val) (d := dw) hml
        rw [hy] at hst
        have HQ : Hid (m + 1 ≤ L.length) := hml
        generalize L.getD m dw = x at *
        have CF : Hid (∀ W, 1 = 1 → _) := fun W _ => fits53 x.key x.val W
        generalize fitB x.key x.val = z at CF hst
        clear hbr hy HE
        cases z
        · have hy1 : y = false := by rw [hst]; rfl
          subst hy1
          clear hst
          go_wp2_with fail
          refine (CF.out _ (by trivial)).mono ?_
          rintro e w1 ⟨rfl, rfl⟩
          go_wp2_with fail
          go_ret
          exact ⟨ret_bool (by rw [Bool.and_false]), HBr.out.alloc HBr.out.size _⟩
        · have HY : Hid ((L.drop (m + 1)).all (fun x => fitB x.key x.val) = y) := by show _ = _; rw [hst]; rfl
          clear hst
          go_wp2_with fail
          refine (CF.out _ (by trivial)).mono ?_
          rintro e w1 ⟨rfl, rfl⟩
          go_wp2_with fail
          go_roundw
          case rel => exact ⟨HBr.out.alloc HBr.out.size _, m + 1, HQ.out, by go_num, HY.out⟩
          case measure => simp [intOf]; omega
      · have hml' : ¬ (m : Int) < L.length := by omega
        have hy1 : y = true := by rw [← hy, List.drop_eq_nil_of_le (by omega)]; rfl
        subst hy1
        clear hy HE
        go_wp2_with fail
        go_ret
        exact ⟨ret_bool (by rw [HD.out]), HBr.out⟩
  · have hm' : (16 : Int) < L.length := by omega
    have HD : Hid (decide (L.length ≤ 16) = false) := by show _ = _; simp [hm]
    clear hL hlc hcm hm
    go_enter Try.func56, Try.ntmps56
    go_wp2_with fail
    go_ret
    exact ⟨ret_bool (by rw [HD.out, Bool.false_and]), Below.refl _ _⟩
end Go.Proofs.Ytmldgfepnmencaa
