/-
  PlaceSteps, walked.
-/
import Derived.Test.YtdiellljplcjfaaTe
import Derived.Test.YtdiellljplcjfaaFn
import Derived.Laws.BytesArg
namespace Go.Proofs.Ytdiellljplcjfaa
open Go.RowKit Go.Sort

theorem strOf_bs (l : List UInt8) : strOfNums (l.map fun c => (c.toNat : Int)) = bs l := by
  unfold strOfNums bs
  congr 1
  simp [List.map_map, Function.comp_def]
theorem fresh_text {W : World} {g n : Nat} {l : List UInt8} {cs : Array Value} (h : W.heap[g]? = some (.cells cs 5 (0, 0))) (hn : l.length = n) (hc : ∀ i (hi : i < l.length), cs[i]? = some (.int .u8 (l[i].toNat : Int))) : (convert 44 9 (.slice (some ⟨g, 0, none⟩) n n)).run Try.prog W = .ok (.string (bs l)) W := by
  subst hn
  rw [run_convert_bytes_arg W 44 5 Try.underlying44 Try.underlying5 g 0 l.length l.length (l.map fun c => (c.toNat : Int)) (by simp) ?_ 9 Try.underlying9, strOf_bs]
  intro i hi
  simp only [Nat.zero_add]
  rw [block_cell h (hc i hi)]
  simp [hi]
theorem walkF_snoc {key : List UInt8} (h : key.length ≤ 28) (b : UInt8) : walkF (key ++ [b]) = stepW (walkF key) b := by
  rw [walkF_short (by rw [List.length_append]; simp; omega), walkF_short (key := key) (by omega), walk_snoc]
theorem walkF_four {key : List UInt8} (h : key.length ≤ 28) (l : List UInt8) (hl : l.length = 4) : walkF (key ++ l) = addP (walkF key) (walkF l) := by
  rw [walkF_short (by rw [List.length_append]; omega), walkF_short (key := key) (by omega), walkF_short (key := l) (by omega), walk_two, hl]
  exact congrArg (fun q => addP q _) (rot_four _)
set_option maxHeartbeats 1600000 in
set_option maxRecDepth 100000 in
theorem steps6 (I : Ifp) (key : List UInt8) (b : UInt8) (w : World) (hk : key.length ≤ 140737488355328) : Calls Try.prog 6 #[.string (bs key), .int .u8 (b.toNat : Int)] w fun e w' => e = .returned (.bool true) ∧ Below w.heap.size w w' := by
  have CA : Hid (1 = 1 → Calls Try.prog 8 #[] w fun e w' => e = .returned (.bool true) ∧ Below w.heap.size w w') := fun _ => awake8 I w
  have CW : Hid (∀ (key : List UInt8) (W : World), key.length ≤ 281474976710656 → Calls Try.prog 10 #[.string (bs key)] W fun r w' => (∃ x y, r = .returned (.complex .f64 x y) ∧ Cw x y (walkF key)) ∧ Below W.heap.size W w') := fun key W h => wk' I key W h
  have s1 : (bs key).size = key.length := bs_size key
  by_cases hl : 28 < key.length
  · have hl1 : (28 : Int) < key.length := by omega
    go_enter Try.func6, Try.ntmps6
    go_wp2_with fail
    refine (CA.out (by trivial)).mono ?_
    rintro r w1 ⟨rfl, hb1⟩
    go_wp2_with fail
    go_ret
    exact ⟨rfl, hb1⟩
  · have hl1 : ¬ (28 : Int) < key.length := by omega
    have HL : Hid (key.length ≤ 28) := by show _ ≤ _; omega
    have hb8 : b.toNat < 256 := UInt8.toNat_lt b
    have bd := walkF_bound key
    have c1 := bs_cat key [b]
    have c4 := bs_cat key [b, b, b, b]
    have z1 : ¬ 9223372036854775807 < (bs key).size + (bs [b]).size := by rw [s1, bs_size]; simp; omega
    have z4 : ¬ 9223372036854775807 < (bs key).size + (bs [b, b, b, b]).size := by rw [s1, bs_size]; simp; omega
    have F1 : Hid (∀ W : World, (convert 44 9 (.slice (some ⟨W.heap.size, 0, none⟩) 1 1)).run Try.prog (W.alloc (.cells #[.int .u8 (b.toNat : Int)] 5)) = .ok (.string (bs [b])) (W.alloc (.cells #[.int .u8 (b.toNat : Int)] 5))) := fun W => fresh_text (heap_alloc_new W _) rfl (fun i hi => by
      have : i = 0 := by simpa using hi
      subst this
      rfl)
    have F4 : Hid (∀ W : World, (convert 44 9 (.slice (some ⟨W.heap.size, 0, none⟩) 4 4)).run Try.prog (W.alloc (.cells #[.int .u8 (b.toNat : Int), .int .u8 (b.toNat : Int), .int .u8 (b.toNat : Int), .int .u8 (b.toNat : Int)] 5)) = .ok (.string (bs [b, b, b, b])) (W.alloc (.cells #[.int .u8 (b.toNat : Int), .int .u8 (b.toNat : Int), .int .u8 (b.toNat : Int), .int .u8 (b.toNat : Int)] 5))) := fun W => fresh_text (heap_alloc_new W _) rfl (fun i hi => by
      have h4 : i < 4 := by simpa using hi
      match i, h4 with
      | 0, _ => rfl
      | 1, _ => rfl
      | 2, _ => rfl
      | 3, _ => rfl)
    go_enter Try.func6, Try.ntmps6
    go_wp2_with fail
    refine (CA.out (by trivial)).mono ?_
    rintro r w1 ⟨rfl, hb1⟩
    have H1 : Hid (Below w.heap.size w w1) := hb1
    clear hb1 CA
    go_wp2_with fail
    refine (CW.out key _ (by omega)).mono ?_
    rintro r w2 ⟨⟨x, y, rfl, hc⟩, hb2⟩
    have H2 : Hid (Below w.heap.size w w2) := H1.out.trans (hb2.mono H1.out.size)
    have HC : Hid (Cw x y (walkF key)) := hc
    have f1 := F1.out w2
    clear hb2 H1 hc
    go_wp2_with fail
    refine (CW.out (key ++ [b]) _ (by rw [List.length_append]; simp; omega)).mono ?_
    rintro r w3 ⟨⟨x3, y3, rfl, hc3⟩, hb3⟩
    have H3 : Hid (Below w.heap.size w w3) := (H2.out.alloc H2.out.size _).trans (hb3.mono (Nat.le_trans H2.out.size (by simp)))
    rw [walkF_snoc HL.out] at hc3
    have bd1 : (walkF key).1.natAbs ≤ 8192 := bd.1
    have bd2 : (walkF key).2.natAbs ≤ 8192 := bd.2
    have hng := HC.out.im.neg
    have en : ∀ W : World, (Op.unary .neg (.float .f64 y)).run Try.prog W = .ok (.float .f64 (Op.negFloat .f64 y)) W := fun W => rfl
    generalize Op.negFloat .f64 y = yn at hng en
    obtain ⟨r1, a1, g1⟩ := hng.add (fw_int (b.toNat : Int) (by omega)) (by omega)
    obtain ⟨r2, a2, g2⟩ := g1.add fw_one (by omega)
    have a3 : ∀ W : World, (binOp .add 34 (.float .f64 yn) (.float .f64 (floatOfInt .f64 (b.toNat : Int)))).run Try.prog W = .ok (.float .f64 r1) W := fun W => run_float_arith W .add 34 .f64 _ _ _ a1
    have a4 : ∀ W : World, (binOp .add 34 (.float .f64 r1) (.float .f64 4607182418800017408)).run Try.prog W = .ok (.float .f64 r2) W := fun W => run_float_arith W .add 34 .f64 _ _ _ a2
    have e1 := run_cne (P := Try.prog) 26 hc3 (show Cw r2 x (stepW (walkF key) b) from ⟨g2, HC.out.re⟩)
    simp only [beq_self_eq_true, Bool.and_self, Bool.not_true] at e1
    clear hb3 hc3 H2 f1 F1 a1 a2 g1 g2 hng
    have f4 := F4.out w3
    go_wp2_with fail
    refine (CW.out (key ++ [b, b, b, b]) _ (by rw [List.length_append]; simp; omega)).mono ?_
    rintro r w4 ⟨⟨x4, y4, rfl, hc4⟩, hb4⟩
    have H4 : Hid (Below w.heap.size w w4) := (H3.out.alloc H3.out.size _).trans (hb4.mono (Nat.le_trans H3.out.size (by simp)))
    rw [walkF_four HL.out _ rfl] at hc4
    have HC4 : Hid (Cw x4 y4 (addP (walkF key) (walkF [b, b, b, b]))) := hc4
    clear hb4 hc4 H3 f4 F4 a3 a4 e1 en
    go_wp2_with fail
    refine (CW.out [b, b, b, b] _ (by simp)).mono ?_
    rintro r w5 ⟨⟨x5, y5, rfl, hc5⟩, hb5⟩
    have H5 : Hid (Below w.heap.size w w5) := H4.out.trans (hb5.mono H4.out.size)
    have bq := walkF_bound [b, b, b, b]
    obtain ⟨x6, y6, hs, hc6⟩ := sum_bits HC.out hc5 (by omega) (by omega)
    have e2 : ∀ W : World, (binOp .add 26 (.complex .f64 x y) (.complex .f64 x5 y5)).run Try.prog W = .ok (.complex .f64 x6 y6) W := fun W => run_complex_sum W .add (.inl rfl) 26 .f64 _ _ _ _ _ _ hs
    have e3 := run_ceq (P := Try.prog) 26 HC4.out hc6
    simp only [beq_self_eq_true, Bool.and_self] at e3
    clear hb5 hc5 hs hc6 H4 HC4 bq
    go_wp2_with fail
    go_ret
    exact ⟨rfl, H5.out⟩
end Go.Proofs.Ytdiellljplcjfaa
