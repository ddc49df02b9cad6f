/-
  PlaceOne and PlaceTells, walked.
-/
import Derived.Test.YtdiellljplcjfaaWa
namespace Go.Proofs.Ytdiellljplcjfaa
open Go.RowKit Go.Sort

theorem shard_one (key : List UInt8) : shardF key 1 = (0, if keyB key then 0 else 1) := by
  unfold shardF
  cases keyB key with
  | true => simp
  | false => simp
set_option maxHeartbeats 1600000 in
set_option maxRecDepth 100000 in
theorem one7 (I : Ifp) (key : List UInt8) (s n : Int) (w : World) (hk : key.length ≤ 140737488355328) (s0 : -9223372036854775808 ≤ s) (s1 : s ≤ 9223372036854775807) (n0 : -9223372036854775808 ≤ n) (n1 : n ≤ 9223372036854775807) : Calls Try.prog 7 #[.string (bs key), .int .i64 s, .int .i64 n] w fun e w' => e = .returned (.bool true) ∧ Below w.heap.size w w' := by
  have CA : Hid (1 = 1 → Calls Try.prog 8 #[] w fun e w' => e = .returned (.bool true) ∧ Below w.heap.size w w') := fun _ => awake8 I w
  have CS : Hid (∀ W : World, 1 = 1 → Calls Try.prog 11 #[.string (bs key), .int .i64 1] W fun r w' => r = .returned (.tuple #[.int .i64 0, .int .i64 (if keyB key then 0 else 1)]) ∧ Below W.heap.size W w') := fun W _ => by
    have := I.sh key 1 W (by omega) (by decide) (by decide)
    rw [shard_one] at this
    exact this
  have CN : Hid (∀ W : World, 1 = 1 → Calls Try.prog 13 #[.int .i64 s, .int .i64 n] W fun r w' => r = .returned (.tuple #[.int .i64 (nodeF s n).1, .int .i64 (nodeF s n).2]) ∧ Below W.heap.size W w') := fun W _ => I.nd s n W s0 s1 n0 n1
  have hsz : (bs key).size = key.length := bs_size key
  have HNC : Hid _ := node_code s n
  have hkb : keyB key = (decide (1 ≤ key.length) && decide (key.length ≤ 32)) := rfl
  generalize nodeF s n = q at *
  obtain ⟨m, c⟩ := q
  dsimp only at HNC CN
  clear s0 s1 n0 n1
  have K : ∀ kb : Bool, keyB key = kb → Calls Try.prog 7 #[.string (bs key), .int .i64 s, .int .i64 n] w fun e w' => e = .returned (.bool true) ∧ Below w.heap.size w w' := by
    intro kb hkk
    rw [hkk] at CS hkb
    have hu : (1 : Int) ≤ key.length ∧ (key.length : Int) ≤ 32 ∧ kb = true ∨ (¬ (1 : Int) ≤ key.length) ∧ kb = false ∨ (1 : Int) ≤ key.length ∧ (¬ (key.length : Int) ≤ 32) ∧ kb = false := by
      by_cases h1 : 1 ≤ key.length
      · by_cases h2 : key.length ≤ 32
        · exact .inl ⟨by omega, by omega, by rw [hkb]; simp [h1, h2]⟩
        · exact .inr (.inr ⟨by omega, by omega, by rw [hkb]; simp [h2]⟩)
      · exact .inr (.inl ⟨by omega, by rw [hkb]; simp [h1]⟩)
    clear hkb hkk hk
    rcases hu with ⟨h1, h2, rfl⟩ | ⟨h1, rfl⟩ | ⟨h1, h2, rfl⟩
    · simp only [if_true] at CS
      go_enter Try.func7, Try.ntmps7
      go_wp2_with fail
      refine (CA.out (by trivial)).mono ?_
      rintro r w1 ⟨rfl, hb1⟩
      have H1 : Hid (Below w.heap.size w w1) := hb1
      clear hb1 CA
      go_wp2_with fail
      refine (CS.out _ (by trivial)).mono ?_
      rintro r w2 ⟨rfl, hb2⟩
      have H2 : Hid (Below w.heap.size w w2) := H1.out.trans (hb2.mono H1.out.size)
      clear hb2 H1 CS
      go_wp2_with fail
      refine (CN.out _ (by trivial)).mono ?_
      rintro r w3 ⟨rfl, hb3⟩
      have H3 : Hid (Below w.heap.size w w3) := H2.out.trans (hb3.mono H2.out.size)
      clear hb3 H2 CN
      rcases HNC.out with ⟨h0, hm, g1, g2, g3, g4⟩ | h0
      · subst h0
        have m0 : 0 ≤ m := by rw [hm]; exact Int.emod_nonneg _ (by omega)
        have m1 : m < n := by rw [hm]; exact Int.emod_lt_of_pos _ (by omega)
        have d0 : ¬ n = 0 := by omega
        have e1 : wrap64 (s - m) = s - m := w64 (by omega) (by omega)
        have hle : m ≤ s := by rw [hm]; have := Int.mul_ediv_add_emod s n; have := Int.mul_nonneg (show 0 ≤ n by omega) (Int.ediv_nonneg g1 (show 0 ≤ n by omega)); omega
        have e2 : (s - m) % n = 0 := by rw [hm]; exact Int.emod_eq_zero_of_dvd (Int.dvd_self_sub_emod)
        have e3 : (s - m).tmod n = 0 := by rw [Int.tmod_eq_emod_of_nonneg (by omega)]; exact e2
        clear hm g1 g2 g4 HNC
        go_wp2_with fail
        go_ret
        exact ⟨rfl, H3.out⟩
      · obtain ⟨rfl, rfl⟩ : m = 0 ∧ c = 1 := by simpa using h0
        clear HNC h0
        go_wp2_with fail
        go_ret
        exact ⟨rfl, H3.out⟩
    · simp only [Bool.false_eq_true, if_false] at CS
      go_enter Try.func7, Try.ntmps7
      go_wp2_with fail
      refine (CA.out (by trivial)).mono ?_
      rintro r w1 ⟨rfl, hb1⟩
      have H1 : Hid (Below w.heap.size w w1) := hb1
      clear hb1 CA
      go_wp2_with fail
      refine (CS.out _ (by trivial)).mono ?_
      rintro r w2 ⟨rfl, hb2⟩
      have H2 : Hid (Below w.heap.size w w2) := H1.out.trans (hb2.mono H1.out.size)
      clear hb2 H1 CS
      go_wp2_with fail
      refine (CN.out _ (by trivial)).mono ?_
      rintro r w3 ⟨rfl, hb3⟩
      have H3 : Hid (Below w.heap.size w w3) := H2.out.trans (hb3.mono H2.out.size)
      clear hb3 H2 CN
      rcases HNC.out with ⟨h0, hm, g1, g2, g3, g4⟩ | h0
      · subst h0
        have m0 : 0 ≤ m := by rw [hm]; exact Int.emod_nonneg _ (by omega)
        have m1 : m < n := by rw [hm]; exact Int.emod_lt_of_pos _ (by omega)
        have d0 : ¬ n = 0 := by omega
        have e1 : wrap64 (s - m) = s - m := w64 (by omega) (by omega)
        have hle : m ≤ s := by rw [hm]; have := Int.mul_ediv_add_emod s n; have := Int.mul_nonneg (show 0 ≤ n by omega) (Int.ediv_nonneg g1 (show 0 ≤ n by omega)); omega
        have e2 : (s - m) % n = 0 := by rw [hm]; exact Int.emod_eq_zero_of_dvd (Int.dvd_self_sub_emod)
        have e3 : (s - m).tmod n = 0 := by rw [Int.tmod_eq_emod_of_nonneg (by omega)]; exact e2
        clear hm g1 g2 g4 HNC
        go_wp2_with fail
        go_ret
        exact ⟨rfl, H3.out⟩
      · obtain ⟨rfl, rfl⟩ : m = 0 ∧ c = 1 := by simpa using h0
        clear HNC h0
        go_wp2_with fail
        go_ret
        exact ⟨rfl, H3.out⟩
    · simp only [Bool.false_eq_true, if_false] at CS
      go_enter Try.func7, Try.ntmps7
      go_wp2_with fail
      refine (CA.out (by trivial)).mono ?_
      rintro r w1 ⟨rfl, hb1⟩
      have H1 : Hid (Below w.heap.size w w1) := hb1
      clear hb1 CA
      go_wp2_with fail
      refine (CS.out _ (by trivial)).mono ?_
      rintro r w2 ⟨rfl, hb2⟩
      have H2 : Hid (Below w.heap.size w w2) := H1.out.trans (hb2.mono H1.out.size)
      clear hb2 H1 CS
      go_wp2_with fail
      refine (CN.out _ (by trivial)).mono ?_
      rintro r w3 ⟨rfl, hb3⟩
      have H3 : Hid (Below w.heap.size w w3) := H2.out.trans (hb3.mono H2.out.size)
      clear hb3 H2 CN
      rcases HNC.out with ⟨h0, hm, g1, g2, g3, g4⟩ | h0
      · subst h0
        have m0 : 0 ≤ m := by rw [hm]; exact Int.emod_nonneg _ (by omega)
        have m1 : m < n := by rw [hm]; exact Int.emod_lt_of_pos _ (by omega)
        have d0 : ¬ n = 0 := by omega
        have e1 : wrap64 (s - m) = s - m := w64 (by omega) (by omega)
        have hle : m ≤ s := by rw [hm]; have := Int.mul_ediv_add_emod s n; have := Int.mul_nonneg (show 0 ≤ n by omega) (Int.ediv_nonneg g1 (show 0 ≤ n by omega)); omega
        have e2 : (s - m) % n = 0 := by rw [hm]; exact Int.emod_eq_zero_of_dvd (Int.dvd_self_sub_emod)
        have e3 : (s - m).tmod n = 0 := by rw [Int.tmod_eq_emod_of_nonneg (by omega)]; exact e2
        clear hm g1 g2 g4 HNC
        go_wp2_with fail
        go_ret
        exact ⟨rfl, H3.out⟩
      · obtain ⟨rfl, rfl⟩ : m = 0 ∧ c = 1 := by simpa using h0
        clear HNC h0
        go_wp2_with fail
        go_ret
        exact ⟨rfl, H3.out⟩
  exact K _ rfl
end Go.Proofs.Ytdiellljplcjfaa
