/-
  The document's Walk, Key, Shard, Node.
-/
import Derived.Test.YtdiellljplcjfaaProg
import Derived.Test.YtdiellljplcjfaaPl
import Derived.Test.YtdiellljplcjfaaGr
namespace Go.Proofs.Ytdiellljplcjfaa
open Go.RowKit Go.Sort

theorem bs_get (l : List UInt8) (i : Nat) (h : i < l.length) (hx : i < (bs l).size) : (bs l)[i]'hx = l.getD i 0 := by
  show (bs l).data[i] = _
  simp [bs, List.getD, h]
theorem w64 {n : Int} (h0 : -9223372036854775808 ≤ n) (h1 : n ≤ 9223372036854775807) : wrap64 n = n := by
  unfold wrap64
  omega
theorem walk_take {l : List UInt8} {m : Nat} (h : m < l.length) : walkL (l.take (m + 1)) (0, 0) = stepW (walkL (l.take m) (0, 0)) (l.getD m 0) := by
  rw [List.take_succ_eq_append_getElem h, walk_snoc]
  congr 1
  simp [List.getD, h]
set_option maxHeartbeats 1600000 in
set_option maxRecDepth 100000 in
theorem walk9 (key : List UInt8) (w : World) : Calls Try.prog 9 #[.string (bs key)] w fun r w' => r = .returned (.tuple #[.int .i64 (walkF key).1, .int .i64 (walkF key).2]) ∧ w = w' := by
  have hsz : (bs key).size = key.length := bs_size key
  go_enter Try.func9, Try.ntmps9
  go_wp2_with fail
  go_loopw [4, 5, 6] (fun x y i wr => ∃ m : Nat, m ≤ 32 ∧ m ≤ key.length ∧ i = .int .i64 m ∧ x = .int .i64 (walkL (key.take m) (0, 0)).1 ∧ y = .int .i64 (walkL (key.take m) (0, 0)).2 ∧ w = wr) (fun _ _ i _ => 32 - (intOf i).toNat)
  case atStart => exact ⟨0, by omega, by omega, rfl, rfl, rfl, rfl⟩
  case round =>
    obtain ⟨m, h32, hk, rfl, rfl, rfl, rfl⟩ := hrel
    have hbd := walk_bound (key.take m) (0, 0) 0 (by decide) (by decide)
    have hlt : (key.take m).length = m := by rw [List.length_take]; omega
    rw [hlt] at hbd
    by_cases h1 : m < key.length
    · have hi : (m : Int) < key.length := by omega
      by_cases h2 : m < 32
      · have hj : (m : Int) < 32 := by omega
        have HS : Hid _ := walk_take h1
        have hb8 : (key.getD m 0).toNat < 256 := UInt8.toNat_lt _
        have hgt : Hid (∀ (b : UInt8) (h : m < (bs key).size), key.getD m 0 = b → (bs key)[m]'h = b) := fun b h e => by rw [← e]; exact bs_get key m h1 h
        have HM : Hid (m + 1 ≤ 32 ∧ m + 1 ≤ key.length) := ⟨h2, h1⟩
        have hb9 : ∀ h : m < (bs key).size, ((bs key)[m]'h).toNat < 256 := fun h => UInt8.toNat_lt _
        generalize walkL (key.take m) (0, 0) = p at HS hbd ⊢
        obtain ⟨px, py⟩ := p
        dsimp only at hbd ⊢
        go_wp2_with fail
        go_roundw
        case rel =>
          refine ⟨m + 1, HM.out.1, HM.out.2, by go_num, ?_, ?_, by first | trivial | rfl⟩
          · rw [HS.out, hgt.out _ _ rfl]
            unfold stepW
            dsimp only
            congr 1
            rw [w64 (n := ((key.getD m 0).toNat : Int)) (by omega) (by omega), w64 (n := -py + ((key.getD m 0).toNat : Int)) (by omega) (by omega), w64 (by omega) (by omega)]
          · rw [HS.out]
            rfl
        case measure => simp [intOf]; omega
      · have hj : ¬ (m : Int) < 32 := by omega
        have HW : Hid (walkF key = walkL (key.take m) (0, 0)) := by
          show _ = _
          unfold walkF
          rw [show m = 32 by omega]
        go_wp2_with fail
        go_ret2
        exact ⟨by rw [HW.out]; rfl, rfl⟩
    · have hi : ¬ (m : Int) < key.length := by omega
      have HW : Hid (walkF key = walkL (key.take m) (0, 0)) := by
        show _ = _
        unfold walkF
        rw [List.take_of_length_le (show key.length ≤ 32 by omega), List.take_of_length_le (show key.length ≤ m by omega)]
      go_wp2_with fail
      go_ret2
      exact ⟨by rw [HW.out]; rfl, rfl⟩
theorem key18 (key : List UInt8) (w : World) : Calls Try.prog 19 #[.string (bs key)] w fun r w' => r = .returned (.bool (keyB key)) ∧ w = w' := by
  have hsz : (bs key).size = key.length := bs_size key
  unfold keyB
  by_cases h1 : 1 ≤ key.length
  · by_cases h2 : key.length ≤ 32
    · have i1 : (1 : Int) ≤ key.length := by omega
      have i2 : (key.length : Int) ≤ 32 := by omega
      have HB : Hid ((decide (1 ≤ key.length) && decide (key.length ≤ 32)) = true) := by show _ = _; simp [h1, h2]
      clear h1 h2
      go_enter Try.func19, Try.ntmps19
      go_wp2_with fail
      go_ret
      exact ⟨by rw [HB.out]; rfl, rfl⟩
    · have i1 : (1 : Int) ≤ key.length := by omega
      have i2 : ¬ (key.length : Int) ≤ 32 := by omega
      have HB : Hid ((decide (1 ≤ key.length) && decide (key.length ≤ 32)) = false) := by show _ = _; simp [h2]
      clear h1 h2
      go_enter Try.func19, Try.ntmps19
      go_wp2_with fail
      go_ret
      exact ⟨by rw [HB.out]; rfl, rfl⟩
  · have i1 : ¬ (1 : Int) ≤ key.length := by omega
    have HB : Hid ((decide (1 ≤ key.length) && decide (key.length ≤ 32)) = false) := by show _ = _; simp [h1]
    clear h1
    go_enter Try.func19, Try.ntmps19
    go_wp2_with fail
    go_ret
    exact ⟨by rw [HB.out]; rfl, rfl⟩
set_option maxHeartbeats 1600000 in
set_option maxRecDepth 100000 in
theorem node14 (s n : Int) (w : World) : Calls Try.prog 14 #[.int .i64 s, .int .i64 n] w fun r w' => r = .returned (.tuple #[.int .i64 (nodeF s n).1, .int .i64 (nodeF s n).2]) ∧ w = w' := by
  by_cases h : 0 ≤ s ∧ s ≤ 7 ∧ 1 ≤ n ∧ n ≤ 4
  · obtain ⟨h1, h2, h3, h4⟩ := h
    have i1 : ¬ s < 0 := by omega
    have i2 : ¬ 7 < s := by omega
    have i3 : ¬ n < 1 := by omega
    have i4 : ¬ 4 < n := by omega
    have i5 : ¬ n = 0 := by omega
    have HN : Hid (nodeF s n = (s % n, 0)) := by
      show _ = _
      unfold nodeF
      rw [if_pos ⟨h1, h2, h3, h4⟩]
    rw [HN.out]
    clear h1 h2 h3 h4 HN
    go_enter Try.func14, Try.ntmps14
    go_wp2_with fail
    go_ret2
    exact ⟨rfl, rfl⟩
  · have HN : Hid (nodeF s n = (0, 1)) := by
      show _ = _
      unfold nodeF
      rw [if_neg h]
    rw [HN.out]
    clear HN
    by_cases i1 : s < 0
    · clear h
      go_enter Try.func14, Try.ntmps14
      go_wp2_with fail
      go_ret2
      exact ⟨rfl, rfl⟩
    by_cases i2 : 7 < s
    · clear h
      go_enter Try.func14, Try.ntmps14
      go_wp2_with fail
      go_ret2
      exact ⟨rfl, rfl⟩
    by_cases i3 : n < 1
    · clear h
      go_enter Try.func14, Try.ntmps14
      go_wp2_with fail
      go_ret2
      exact ⟨rfl, rfl⟩
    have i4 : 4 < n := by omega
    clear h
    go_enter Try.func14, Try.ntmps14
    go_wp2_with fail
    go_ret2
    exact ⟨rfl, rfl⟩
set_option maxHeartbeats 1600000 in
set_option maxRecDepth 100000 in
theorem shard12 (key : List UInt8) (n : Int) (w : World) : Calls Try.prog 12 #[.string (bs key), .int .i64 n] w fun r w' => r = .returned (.tuple #[.int .i64 (shardF key n).1, .int .i64 (shardF key n).2]) ∧ w = w' := by
  have C1 : Hid (1 = 1 → Calls Try.prog 19 #[.string (bs key)] w fun r w' => r = .returned (.bool (keyB key)) ∧ w = w') := fun _ => key18 key w
  have C2 : Hid (1 = 1 → Calls Try.prog 9 #[.string (bs key)] w fun r w' => r = .returned (.tuple #[.int .i64 (walkF key).1, .int .i64 (walkF key).2]) ∧ w = w') := fun _ => walk9 key w
  have hbd := walkF_bound key
  by_cases h : keyB key = true ∧ 1 ≤ n ∧ n ≤ 8
  · obtain ⟨h1, h2, h3⟩ := h
    have HN : Hid (shardF key n = ((3 * (walkF key).1 + 5 * (walkF key).2) % n, 0)) := by
      show _ = _
      unfold shardF
      rw [if_pos ⟨h1, h2, h3⟩]
    rw [HN.out]
    rw [h1] at C1
    generalize walkF key = p at *
    obtain ⟨x, y⟩ := p
    dsimp only at *
    have i1 : ¬ n < 1 := by omega
    have i2 : ¬ 8 < n := by omega
    have i3 : ¬ n = 0 := by omega
    have HQ : Hid _ := rem_up (3 * x + 5 * y) n h2
    have HB : Hid (-65536 ≤ 3 * x + 5 * y ∧ 3 * x + 5 * y ≤ 65536) := ⟨by omega, by omega⟩
    have e1 := w64 (n := 3 * x) (by omega) (by omega)
    have e2 := w64 (n := 5 * y) (by omega) (by omega)
    have e3 := w64 (n := 3 * x + 5 * y) (by omega) (by omega)
    clear h1 h3 HN
    by_cases hneg : (3 * x + 5 * y).tmod n < 0
    · have HE : Hid (wrap64 ((3 * x + 5 * y).tmod n + n) = (3 * x + 5 * y) % n) := by
        have := HQ.out
        rw [if_pos hneg] at this
        show _ = _
        have a1 := Int.emod_nonneg (3 * x + 5 * y) (show n ≠ 0 by omega)
        have a2 := Int.emod_lt_of_pos (3 * x + 5 * y) (show 0 < n by omega)
        rw [this]
        exact w64 (by omega) (by omega)
      go_enter Try.func12, Try.ntmps12
      go_wp2_with fail
      refine (C1.out (by trivial)).mono ?_
      rintro r wx ⟨rfl, rfl⟩
      go_wp2_with fail
      refine (C2.out (by trivial)).mono ?_
      rintro r wx ⟨rfl, rfl⟩
      go_wp2_with fail
      go_ret2
      exact ⟨by rw [← HE.out]; rfl, rfl⟩
    · have HE : Hid ((3 * x + 5 * y).tmod n = (3 * x + 5 * y) % n) := by
        have := HQ.out
        rw [if_neg hneg] at this
        exact this
      go_enter Try.func12, Try.ntmps12
      go_wp2_with fail
      refine (C1.out (by trivial)).mono ?_
      rintro r wx ⟨rfl, rfl⟩
      go_wp2_with fail
      refine (C2.out (by trivial)).mono ?_
      rintro r wx ⟨rfl, rfl⟩
      go_wp2_with fail
      go_ret2
      exact ⟨by rw [← HE.out]; rfl, rfl⟩
  · have HN : Hid (shardF key n = (0, 1)) := by
      show _ = _
      unfold shardF
      rw [if_neg h]
    rw [HN.out]
    clear HN C2
    generalize keyB key = kb at *
    cases kb
    · clear h
      go_enter Try.func12, Try.ntmps12
      go_wp2_with fail
      refine (C1.out (by trivial)).mono ?_
      rintro r wx ⟨rfl, rfl⟩
      go_wp2_with fail
      go_ret2
      exact ⟨rfl, rfl⟩
    by_cases i1 : n < 1
    · clear h
      go_enter Try.func12, Try.ntmps12
      go_wp2_with fail
      refine (C1.out (by trivial)).mono ?_
      rintro r wx ⟨rfl, rfl⟩
      go_wp2_with fail
      go_ret2
      exact ⟨rfl, rfl⟩
    have i2 : 8 < n := by
      have : ¬ (1 ≤ n ∧ n ≤ 8) := fun hh => h ⟨rfl, hh⟩
      omega
    clear h
    go_enter Try.func12, Try.ntmps12
    go_wp2_with fail
    refine (C1.out (by trivial)).mono ?_
    rintro r wx ⟨rfl, rfl⟩
    go_wp2_with fail
    go_ret2
    exact ⟨rfl, rfl⟩
end Go.Proofs.Ytdiellljplcjfaa
