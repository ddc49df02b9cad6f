/-
  PlaceWalks, walked.
-/
import Derived.Test.YtdiellljplcjfaaIfp
namespace Go.Proofs.Ytdiellljplcjfaa
open Go.RowKit Go.Sort

theorem wk' (I : Ifp) (key : List UInt8) (w : World) (hl : key.length ≤ 281474976710656) : Calls Try.prog 10 #[.string (bs key)] w fun r w' => (∃ x y, r = .returned (.complex .f64 x y) ∧ Cw x y (walkF key)) ∧ Below w.heap.size w w' :=
  (I.wk key w hl).mono fun _ _ ⟨⟨x, y, h, h1, h2⟩, hb⟩ => ⟨⟨x, y, h, h1, h2⟩, hb⟩
theorem bs_cat (a b : List UInt8) : bs a ++ bs b = bs (a ++ b) := by
  apply ByteArray.ext
  simp [bs]
theorem rotN_bd (n k : Nat) : ∀ p : Int × Int, p.1.natAbs ≤ k → p.2.natAbs ≤ k → (rotN n p).1.natAbs ≤ k ∧ (rotN n p).2.natAbs ≤ k := by
  induction n with
  | zero => intro p h1 h2; exact ⟨h1, h2⟩
  | succ n ih => intro p h1 h2; exact ih (rot p) (by unfold rot; simp only; omega) (by unfold rot; simp only; omega)
set_option maxHeartbeats 1600000 in
set_option maxRecDepth 100000 in
theorem walks5 (I : Ifp) (a b : List UInt8) (w : World) (ha : a.length ≤ 140737488355328) (hb : b.length ≤ 140737488355328) : Calls Try.prog 5 #[.string (bs a), .string (bs b)] w fun e w' => e = .returned (.bool true) ∧ Below w.heap.size w w' := by
  have CA : Hid (1 = 1 → Calls Try.prog 8 #[] w fun e w' => e = .returned (.bool true) ∧ Below w.heap.size w w') := fun _ => awake8 I w
  have CW : Hid (∀ (key : List UInt8) (W : World), key.length ≤ 281474976710656 → Calls Try.prog 10 #[.string (bs key)] W fun r w' => (∃ x y, r = .returned (.complex .f64 x y) ∧ Cw x y (walkF key)) ∧ Below W.heap.size W w') := fun key W h => wk' I key W h
  have s1 : (bs a).size = a.length := bs_size a
  have s2 : (bs b).size = b.length := bs_size b
  by_cases hl : 32 < a.length + b.length
  · have hl1 : (32 : Int) < (a.length : Int) + (b.length : Int) := by omega
    go_enter Try.func5, Try.ntmps5
    go_wp2_with fail
    refine (CA.out (by trivial)).mono ?_
    rintro r w1 ⟨rfl, hb1⟩
    go_wp2_with fail
    go_ret
    exact ⟨rfl, hb1⟩
  · have hl1 : ¬ (32 : Int) < (a.length : Int) + (b.length : Int) := by omega
    have HW : Hid (walkF (a ++ b) = addP (rotN (b.length % 4) (walkF a)) (walkF b)) := by
      show _ = _
      rw [walkF_short (by rw [List.length_append]; omega), walkF_short (key := a) (by omega), walkF_short (key := b) (by omega), rotN_mod]
      exact walk_two a b
    have hcat := bs_cat a b
    have hsz : ¬ 9223372036854775807 < (bs a).size + (bs b).size := by rw [s1, s2]; omega
    have ba := walkF_bound a
    have bb := walkF_bound b
    have HBd : Hid (∀ n, (rotN n (walkF a)).1.natAbs ≤ 8192 ∧ (rotN n (walkF a)).2.natAbs ≤ 8192) := fun n => rotN_bd n 8192 _ ba.1 ba.2
    have HBb : Hid ((walkF b).1.natAbs ≤ 8192 ∧ (walkF b).2.natAbs ≤ 8192) := bb
    clear ba bb
    go_enter Try.func5, Try.ntmps5
    go_wp2_with fail
    refine (CA.out (by trivial)).mono ?_
    rintro r w1 ⟨rfl, hb1⟩
    have H1 : Hid (Below w.heap.size w w1) := hb1
    clear hb1 CA
    go_wp2_with fail
    refine (CW.out a _ (by omega)).mono ?_
    rintro r w2 ⟨⟨x, y, rfl, hc⟩, hb2⟩
    have H2 : Hid (Below w.heap.size w w2) := H1.out.trans (hb2.mono H1.out.size)
    have HC : Hid (Cw x y (walkF a)) := hc
    clear hb2 H1 hc
    go_wp2_with fail
    go_loopw [5, 19] (fun z i wr => ∃ (n : Nat) (x y : Nat), n ≤ b.length % 4 ∧ i = .int .i64 n ∧ z = .complex .f64 x y ∧ Hid (Cw x y (rotN n (walkF a))) ∧ w2 = wr) (fun _ i _ => b.length % 4 - (intOf i).toNat)
    case atStart => exact ⟨0, x, y, Nat.zero_le _, rfl, rfl, HC.out, rfl⟩
    case round =>
      obtain ⟨n, x, y, hn, rfl, rfl, HC, rfl⟩ := hrel
      obtain ⟨x', y', hm, HC'⟩ := turn_bits HC.out
      have e1 : ∀ W : World, (binOp .mul 26 (.complex .f64 x y) (.complex .f64 0 4607182418800017408)).run Try.prog W = .ok (.complex .f64 x' y') W := fun W => run_complex_mul W 26 _ _ _ _ _ _ hm
      rw [← rotN_succ] at HC'
      have HD : Hid (Cw x' y' (rotN (n + 1) (walkF a))) := HC'
      clear hm HC'
      by_cases hnl : n < b.length % 4
      · have hn1 : (n : Int) < (b.length : Int) % 4 := by omega
        have HN : Hid (n + 1 ≤ b.length % 4) := hnl
        go_wp2_with fail
        go_roundw
        case rel => exact ⟨n + 1, x', y', HN.out, by go_num, rfl, HD.out, by first | trivial | rfl⟩
        case measure => simp [intOf]; omega
      · have hn1 : ¬ (n : Int) < (b.length : Int) % 4 := by omega
        have hne : n = b.length % 4 := by omega
        have HE : Hid (Cw x y (rotN (b.length % 4) (walkF a))) := by rw [← hne]; exact HC.out
        clear HC HD e1
        go_wp2_with fail
        refine (CW.out (a ++ b) _ (by rw [List.length_append]; omega)).mono ?_
        rintro r w3 ⟨⟨x3, y3, rfl, hc3⟩, hb3⟩
        have H3 : Hid (Below w.heap.size w w3) := H2.out.trans (hb3.mono H2.out.size)
        have HC3 : Hid (Cw x3 y3 (walkF (a ++ b))) := hc3
        clear hb3 hc3 H2
        go_wp2_with fail
        refine (CW.out b _ (by omega)).mono ?_
        rintro r w4 ⟨⟨x4, y4, rfl, hc4⟩, hb4⟩
        have H4 : Hid (Below w.heap.size w w4) := H3.out.trans (hb4.mono H3.out.size)
        obtain ⟨x5, y5, hs, hc5⟩ := sum_bits HE.out hc4 (by have := HBd.out (b.length % 4); have := HBb.out; omega) (by have := HBd.out (b.length % 4); have := HBb.out; omega)
        rw [← HW.out] at hc5
        have e2 : ∀ W : World, (binOp .add 26 (.complex .f64 x y) (.complex .f64 x4 y4)).run Try.prog W = .ok (.complex .f64 x5 y5) W := fun W => run_complex_sum W .add (.inl rfl) 26 .f64 _ _ _ _ _ _ hs
        have e3 := run_ceq (P := Try.prog) 26 HC3.out hc5
        simp only [beq_self_eq_true, Bool.and_self] at e3
        clear hb4 hc4 hs hc5 H3 HE HC3
        go_wp2_with fail
        go_ret
        exact ⟨rfl, H4.out⟩
end Go.Proofs.Ytdiellljplcjfaa
