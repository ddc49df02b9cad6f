/-
  Contracts of the Writer's methods: what is written is put behind what was, and nothing else is turned.
-/
import Derived.Test.YtmldgfepnmencaaParts
namespace Go.Proofs.Ytmldgfepnmencaa
open Go.RowKit

set_option maxHeartbeats 400000 in
theorem size34 (n : Nat) (w : World) (hn : n < 18446744073709551616) :
    Calls Try.prog 41 #[.int .u64 n] w fun e w' => e = .returned (.int .i64 (sz n)) ∧ w = w' := by
  by_cases h : n ≤ 247
  · have h' : (n : Int) ≤ 247 := by omega
    go_enter Try.func41, Try.ntmps41
    go_wp2
    go_ret
    exact ⟨by simp [sz, h], rfl⟩
  · have h' : ¬ (n : Int) ≤ 247 := by omega
    have hb := nb_bits n hn
    have hl := Lib.bitLen_le n 64 (by omega) (by omega)
    go_enter Try.func41, Try.ntmps41
    go_wp2_with (go_at_call 74; refine (Try.bits_Len64 n _ (by omega) (by omega)).mono ?_; rintro e w1 ⟨rfl, h1⟩; have h1 := h1.symm; subst h1)
    go_ret
    refine ⟨?_, rfl⟩
    have : sz n = 1 + nb n := by simp [sz, h]
    rw [this]
    refine congrArg Ending.returned (congrArg (Value.int IntKind.i64) ?_)
    omega

theorem shr8 (n k q : Nat) (hk : k < 8) (hq : q = n / 256 ^ k) : Op.shift .shr .u64 (n : Int) .i64 (IntKind.i64.wrap (8 * (k : Int))) = pure (.int .u64 (q : Int)) := by
  have e : IntKind.i64.wrap (8 * (k : Int)) = ((8 * k : Nat) : Int) := by
    simp [IntKind.wrap, IntKind.bits, IntKind.signed]
    omega
  rw [e, shift_shr_any _ _ _ _ (by omega), hq]
  have h2 : min ((8 * k : Nat) : Int).toNat IntKind.u64.bits = 8 * k := by simp [IntKind.bits]; omega
  rw [h2]
  have h3 : (2 : Int) ^ (8 * k) = ((256 ^ k : Nat) : Int) := by rw [Int.pow_mul, Int.natCast_pow]; rfl
  rw [h3, ← Int.natCast_ediv]

set_option maxHeartbeats 400000 in
theorem num10_nil (n : Int) (w : World) :
    Calls Try.prog 13 #[.pointer none, .int .u64 n] w fun e w' => e = .returned (.tuple #[]) ∧ w = w' := by
  go_enter Try.func13, Try.ntmps13
  go_wp2
  (try simp only [Exit.inBlock, Exit.then]); refine bodyPost_ret (results_none rfl _ _ _) rfl ?_
  exact ⟨rfl, rfl⟩

set_option maxHeartbeats 1600000 in
theorem num10 (pb : Nat) (l : List UInt8) (n : Nat) (w : World) (hn : n < 18446744073709551616) (hw : WrAt pb l w) (hl : l.length + 9 ≤ 140737488355328) :
    Calls Try.prog 13 #[.pointer (some ⟨pb, 0, none⟩), .int .u64 n] w fun e w' => e = .returned (.tuple #[]) ∧ WrAt pb (l ++ numForm n) w' ∧ KeptW pb w w' := by
  obtain ⟨i0, hi, hz0, hz1, hz2⟩ := info_parts info5
  obtain ⟨v, hv, hown⟩ := hw
  have hlt := lt_of_block hv
  have hc := cell_of_one hv
  have hf := free_of_one hv
  have HV : Hid (w.heap[pb]? = some (.cells #[v] 52 (0, 0)) ∧ w.ownsRow (pb + 1) 5 1 v l.length (cl l)) := ⟨hv, hown⟩
  have hca : ∀ o, (w.alloc o).cell? ⟨pb, 0, none⟩ = some v := fun o => by rw [World.cell?_alloc_lt (h := hlt)]; exact hc
  clear hv hown
  by_cases h : n ≤ 247
  · have hs : sz n = 1 := by simp [sz, h]
    go_enter Try.func13, Try.ntmps13
    go_wp2_with (first
      | (go_at_call 41; refine (size34 n _ hn).mono ?_; rw [hs]; rintro e w1 ⟨rfl, rfl⟩)
      | (at_builtin; (refine wpList_append_own _ rfl (.tmp 16) (.tmp 19) 50 rfl (pb + 1) 5 i0 (.int .u8 0) 1 1 Try.underlying50 hi hz0 hz1 hz2 rfl (by decide) v l.length (cl l) rfl (HV.out.2.alloc _) ⟨w.heap.size, 0, none⟩ 1 1 [.int .u8 _] rfl rfl (one_new _ _ _) (int_one _ _) (by unfold maxLen; omega) (by omega) (by simp; omega) ?_; intro v' w1 hown' hgrow _; obtain ⟨ao, cp, hv'⟩ := own_shape hown'; subst hv'; have HG : Hid _ := And.intro hgrow hown'; have c1 := cell_of_one (wr_cell HV.out.1 HV.out.2 ((Below.refl _ _).alloc (Nat.le_refl _) _) hgrow); have f1 := free_of_one (wr_cell HV.out.1 HV.out.2 ((Below.refl _ _).alloc (Nat.le_refl _) _) hgrow); clear hown' hgrow)))
    (try simp only [Exit.inBlock, Exit.then]); refine bodyPost_ret (results_none rfl _ _ _) rfl ?_
    have hnf : numForm n = [UInt8.ofNat n] := by simp [numForm, h]
    rw [hnf]
    refine ⟨rfl, ?_⟩
    exact wr_put1 HV.out.1 HV.out.2 ((Below.refl _ _).alloc (Nat.le_refl _) _) HG.out.1 HG.out.2 n (by omega) (by omega)
  · have hs : sz n = 1 + nb n := by simp [sz, h]
    have hk : nb n ≤ 8 := nb_le8 hn
    have hk1 : 1 ≤ nb n := by rw [nb_pos (by omega)]; omega
    have ht : (1 + (nb n : Int) - 1 == 0) = false := by simp; omega
    go_enter Try.func13, Try.ntmps13
    go_wp2_with (first
      | (go_at_call 41; refine (size34 n _ hn).mono ?_; rw [hs]; rintro e w1 ⟨rfl, rfl⟩)
      | (at_builtin; (refine wpList_append_own _ rfl (.tmp 27) (.tmp 31) 50 rfl (pb + 1) 5 i0 (.int .u8 0) 1 1 Try.underlying50 hi hz0 hz1 hz2 rfl (by decide) v l.length (cl l) rfl (HV.out.2.alloc _) ⟨w.heap.size, 0, none⟩ 1 1 [.int .u8 _] rfl rfl (one_new _ _ _) (int_one _ _) (by unfold maxLen; omega) (by omega) (by simp; omega) ?_; intro v' w1 hown' hgrow _; obtain ⟨ao, cp, hv'⟩ := own_shape hown'; subst hv'; have HG : Hid _ := And.intro hgrow hown'; have c1 := cell_of_one (wr_cell HV.out.1 HV.out.2 ((Below.refl _ _).alloc (Nat.le_refl _) _) hgrow); have f1 := free_of_one (wr_cell HV.out.1 HV.out.2 ((Below.refl _ _).alloc (Nat.le_refl _) _) hgrow); clear hown' hgrow)))
    have R := wr_put1 HV.out.1 HV.out.2 ((Below.refl _ _).alloc (Nat.le_refl _) _) HG.out.1 HG.out.2 (247 + nb n) (by omega) (by omega)
    clear HG HV c1 f1 hc hf hca
    generalize World.setCell _ _ _ = W at R ⊢
    go_loopw [4] (fun f wr => ∃ k : Nat, k ≤ nb n ∧ f = .int .i64 k ∧ WrAt pb (l ++ [UInt8.ofNat (247 + nb n)] ++ dg (n / 256 ^ k)) wr ∧ KeptW pb w wr) (fun f _ => (intOf f).toNat)
    case atStart => exact ⟨nb n, Nat.le_refl _, by go_num, by rw [dg_all, List.append_nil]; exact R.1, R.2⟩
    case round =>
      obtain ⟨k, hkn, rfl, hwr, hkept⟩ := hrel
      obtain ⟨L, hL⟩ : ∃ L, L = l ++ [UInt8.ofNat (247 + nb n)] ++ dg (n / 256 ^ k) := ⟨_, rfl⟩
      rw [← hL] at hwr
      have HL : Hid (L = l ++ [UInt8.ofNat (247 + nb n)] ++ dg (n / 256 ^ k)) := hL
      clear hL
      obtain ⟨v, hv, hown⟩ := hwr
      have HV : Hid (wr.heap[pb]? = some (.cells #[v] 52 (0, 0)) ∧ wr.ownsRow (pb + 1) 5 1 v L.length (cl L) ∧ KeptW pb w wr) := ⟨hv, hown, hkept⟩
      have hltr := lt_of_block hv
      have hc := cell_of_one hv
      have hf := free_of_one hv
      have hca : ∀ o, (wr.alloc o).cell? ⟨pb, 0, none⟩ = some v := fun o => by rw [World.cell?_alloc_lt (h := hltr)]; exact hc
      clear hv hown hkept
      cases k with
      | zero =>
        go_wp2
        go_end0
        refine ⟨rfl, ?_⟩
        have hnf : numForm n = [UInt8.ofNat (247 + nb n)] ++ dg n := by simp [numForm, h]
        have hL := HL.out
        simp only [Nat.pow_zero, Nat.div_one] at hL
        rw [hnf, ← List.append_assoc, ← hL]
        exact ⟨⟨v, HV.out.1, HV.out.2.1⟩, HV.out.2.2⟩
      | succ k =>
        have hlen : L.length ≤ l.length + 8 := by
          have h1 := congrArg List.length (dg_step n k (by omega))
          have h2 := nb_mono (Nat.div_le_self n (256 ^ k))
          rw [List.length_append, dg_length] at h1
          rw [HL.out]
          simp only [List.length_append, List.length_cons, List.length_nil] at h1 ⊢
          omega
        obtain ⟨q, hq⟩ : ∃ q : Nat, q = n / 256 ^ k := ⟨_, rfl⟩
        have hsh : Op.shift .shr .u64 (n : Int) .i64 (IntKind.i64.wrap (8 * (k : Int))) = pure (.int .u64 (q : Int)) := shr8 n k q (by omega) hq
        have HQ : Hid (q = n / 256 ^ k) := hq
        clear hq
        go_wp2_with fail
        go_region_law (refine step_append_own rfl (.tmp 43) (.tmp 49) 50 rfl (pb + 1) 5 i0 (.int .u8 0) 1 1 Try.underlying50 hi hz0 hz1 hz2 rfl (by decide) v L.length (cl L) (by simp [Act.eval]) (HV.out.2.1.drew.alloc _) ⟨wr.heap.size, 0, none⟩ 1 1 [.int .u8 _] (by simp [Act.eval]) rfl (one_new _ _ _) (int_one _ _) (by unfold maxLen; omega) (by omega) (by simp; omega) ?_; intro v' w1 hown' hgrow; obtain ⟨ao', cp', hv'⟩ := own_shape hown'; subst hv'; have HG : Hid _ := And.intro hgrow hown'; have c1 := cell_of_one (wr_cell HV.out.1 HV.out.2.1 (((Below.refl _ _).drew).alloc (Nat.le_refl _) _) hgrow); have f1 := free_of_one (wr_cell HV.out.1 HV.out.2.1 (((Below.refl _ _).drew).alloc (Nat.le_refl _) _) hgrow); clear hown' hgrow)
        all_goals (have R := wr_put1 HV.out.1 HV.out.2.1 (((Below.refl _ _).drew).alloc (Nat.le_refl _) _) HG.out.1 HG.out.2 (q % 256) (by omega) (by simp [IntKind.wrap, IntKind.bits, IntKind.signed]))
        all_goals clear HG c1 f1
        all_goals go_wp2
        all_goals (go_roundw; (case rel => exact ⟨k, by omega, by go_num, by rw [dg_step n k (by omega), ← HQ.out, ← List.append_assoc, ← HL.out]; exact R.1, HV.out.2.2.trans R.2⟩); (case measure => simp [intOf]))

set_option maxHeartbeats 400000 in
theorem text12_nil (s : ByteArray) (w : World) :
    Calls Try.prog 42 #[.pointer none, .string s] w fun e w' => e = .returned (.tuple #[]) ∧ w = w' := by
  go_enter Try.func42, Try.ntmps42
  go_wp2
  (try simp only [Exit.inBlock, Exit.then]); refine bodyPost_ret (results_none rfl _ _ _) rfl ?_
  exact ⟨rfl, rfl⟩

set_option maxHeartbeats 800000 in
theorem text12 (pb : Nat) (l : List UInt8) (s : ByteArray) (w : World) (hw : WrAt pb l w) (hl : l.length + 9 + s.size ≤ 140737488355328) :
    Calls Try.prog 42 #[.pointer (some ⟨pb, 0, none⟩), .string s] w fun e w' => e = .returned (.tuple #[]) ∧ WrAt pb (l ++ (numForm s.size ++ s.data.toList)) w' ∧ KeptW pb w w' := by
  obtain ⟨i0, hi, hz0, hz1, hz2⟩ := info_parts info5
  have hnl := numForm_length s.size
  have hsl := sz_le (n := s.size) (by omega)
  have HW : Hid (WrAt pb l w) := hw
  clear hw
  go_enter Try.func42, Try.ntmps42
  go_wp2_with (first
    | (go_at_call 13; refine (num10 pb l s.size _ (by omega) HW.out (by omega)).mono ?_; rintro e w1 ⟨rfl, hw1, hk1⟩; have HK : Hid (KeptW pb w w1) := hk1; clear hk1; obtain ⟨v, hv, hown⟩ := hw1; have HV : Hid (w1.heap[pb]? = some (.cells #[v] 52 (0, 0)) ∧ w1.ownsRow (pb + 1) 5 1 v (l ++ numForm s.size).length (cl (l ++ numForm s.size))) := ⟨hv, hown⟩; have hc := cell_of_one hv; have hlt := lt_of_block hv; clear hv hown)
    | (at_builtin; refine Lib.wpList_append_own_string _ rfl (.tmp 15) (.tmp 16) 50 9 rfl (pb + 1) 5 i0 Try.underlying50 Try.underlying9 hi hz0 hz1 hz2 v (l ++ numForm s.size).length (cl (l ++ numForm s.size)) rfl HV.out.2 s rfl (by rw [List.length_append]; unfold maxLen; omega) (by rw [List.length_append]; omega) (by omega) ?_; intro v' w2 hown' hgrow _; obtain ⟨ao, cp, hv'⟩ := own_shape hown'; subst hv'; have HG : Hid _ := And.intro hgrow hown'; have c1 := cell_of_one (wr_cell HV.out.1 HV.out.2 (Below.refl _ _) hgrow); have f1 := free_of_one (wr_cell HV.out.1 HV.out.2 (Below.refl _ _) hgrow); clear hown' hgrow))
  go_end0
  have R := wr_put (r := s.data.toList) HV.out.1 HV.out.2 (Below.refl _ _) HG.out.1 HG.out.2
  rw [List.append_assoc] at R
  simp only [List.length_append, hnl] at R
  exact ⟨rfl, R.1, HK.out.trans R.2⟩

set_option maxHeartbeats 400000 in
theorem flag14_nil (b : Bool) (w : World) :
    Calls Try.prog 14 #[.pointer none, .bool b] w fun e w' => e = .returned (.tuple #[]) ∧ w = w' := by
  go_enter Try.func14, Try.ntmps14
  go_wp2
  (try simp only [Exit.inBlock, Exit.then]); refine bodyPost_ret (results_none rfl _ _ _) rfl ?_
  exact ⟨rfl, rfl⟩

/-- A flag's form. -/
def flagForm (b : Bool) : List UInt8 := [if b then 1 else 0]

set_option maxHeartbeats 800000 in
theorem flag14 (pb : Nat) (l : List UInt8) (b : Bool) (w : World) (hw : WrAt pb l w) (hl : l.length + 1 ≤ 140737488355328) :
    Calls Try.prog 14 #[.pointer (some ⟨pb, 0, none⟩), .bool b] w fun e w' => e = .returned (.tuple #[]) ∧ WrAt pb (l ++ flagForm b) w' ∧ KeptW pb w w' := by
  obtain ⟨i0, hi, hz0, hz1, hz2⟩ := info_parts info5
  obtain ⟨v, hv, hown⟩ := hw
  have hlt := lt_of_block hv
  have hc := cell_of_one hv
  have HV : Hid (w.heap[pb]? = some (.cells #[v] 52 (0, 0)) ∧ w.ownsRow (pb + 1) 5 1 v l.length (cl l)) := ⟨hv, hown⟩
  have hca : ∀ o, (w.alloc o).cell? ⟨pb, 0, none⟩ = some v := fun o => by rw [World.cell?_alloc_lt (h := hlt)]; exact hc
  clear hv hown
  cases b
  · go_enter Try.func14, Try.ntmps14
    go_wp2_with (at_builtin; refine wpList_append_own _ rfl _ _ 50 rfl (pb + 1) 5 i0 (.int .u8 0) 1 1 Try.underlying50 hi hz0 hz1 hz2 rfl (by decide) v l.length (cl l) rfl (HV.out.2.alloc _) ⟨w.heap.size, 0, none⟩ 1 1 [.int .u8 _] rfl rfl (one_new _ _ _) (int_one _ _) (by unfold maxLen; omega) (by omega) (by simp; omega) ?_; intro v' w1 hown' hgrow _; obtain ⟨ao, cp, hv'⟩ := own_shape hown'; subst hv'; have HG : Hid _ := And.intro hgrow hown'; have c1 := cell_of_one (wr_cell HV.out.1 HV.out.2 ((Below.refl _ _).alloc (Nat.le_refl _) _) hgrow); have f1 := free_of_one (wr_cell HV.out.1 HV.out.2 ((Below.refl _ _).alloc (Nat.le_refl _) _) hgrow); clear hown' hgrow)
    go_end0
    exact ⟨rfl, wr_put1 HV.out.1 HV.out.2 ((Below.refl _ _).alloc (Nat.le_refl _) _) HG.out.1 HG.out.2 0 (by omega) (by omega)⟩
  · go_enter Try.func14, Try.ntmps14
    go_wp2_with (at_builtin; refine wpList_append_own _ rfl _ _ 50 rfl (pb + 1) 5 i0 (.int .u8 0) 1 1 Try.underlying50 hi hz0 hz1 hz2 rfl (by decide) v l.length (cl l) rfl (HV.out.2.alloc _) ⟨w.heap.size, 0, none⟩ 1 1 [.int .u8 _] rfl rfl (one_new _ _ _) (int_one _ _) (by unfold maxLen; omega) (by omega) (by simp; omega) ?_; intro v' w1 hown' hgrow _; obtain ⟨ao, cp, hv'⟩ := own_shape hown'; subst hv'; have HG : Hid _ := And.intro hgrow hown'; have c1 := cell_of_one (wr_cell HV.out.1 HV.out.2 ((Below.refl _ _).alloc (Nat.le_refl _) _) hgrow); have f1 := free_of_one (wr_cell HV.out.1 HV.out.2 ((Below.refl _ _).alloc (Nat.le_refl _) _) hgrow); clear hown' hgrow)
    go_end0
    exact ⟨rfl, wr_put1 HV.out.1 HV.out.2 ((Below.refl _ _).alloc (Nat.le_refl _) _) HG.out.1 HG.out.2 1 (by omega) (by omega)⟩

set_option maxHeartbeats 400000 in
theorem bytes18_nil (w : World) :
    Calls Try.prog 17 #[.pointer none] w fun e w' => e = .returned (.string (bs [])) ∧ w = w' := by
  go_enter Try.func17, Try.ntmps17
  go_wp2
  go_ret
  exact ⟨rfl, rfl⟩

set_option maxHeartbeats 400000 in
theorem bytes18 (pb : Nat) (l : List UInt8) (w : World) (hw : WrAt pb l w) :
    Calls Try.prog 17 #[.pointer (some ⟨pb, 0, none⟩)] w fun e w' => e = .returned (.string (bs l)) ∧ w = w' := by
  obtain ⟨v, hv, hown⟩ := hw
  have hc := cell_of_one hv
  have hcv := row_text hown
  obtain ⟨ao, cp, rfl⟩ := own_shape hown
  clear hv hown
  go_enter Try.func17, Try.ntmps17
  go_wp2
  go_ret
  exact ⟨rfl, rfl⟩

set_option maxHeartbeats 800000 in
theorem stamp16_nil (p q : Nat) (w : World) :
    Calls Try.prog 46 #[.pointer none, .agg #[.int .u64 p, .int .u32 q]] w fun e w' => e = .returned (.tuple #[]) ∧ Below w.heap.size w w' := by
  go_enter Try.func46, Try.ntmps46
  go_wp2_with (go_at_call 13; refine (num10_nil _ _).mono ?_; rintro e w1 ⟨rfl, rfl⟩)
  go_end0
  exact ⟨rfl, (Below.refl _ _).alloc (Nat.le_refl _) _⟩

/-- A stamp's form. -/
def stampForm (p q : Nat) : List UInt8 := numForm p ++ numForm q

set_option maxHeartbeats 800000 in
theorem stamp16 (pb : Nat) (l : List UInt8) (p q : Nat) (w : World) (hp : p < 18446744073709551616) (hq : q < 4294967296) (hw : WrAt pb l w) (hl : l.length + 18 ≤ 140737488355328) :
    Calls Try.prog 46 #[.pointer (some ⟨pb, 0, none⟩), .agg #[.int .u64 p, .int .u32 q]] w fun e w' => e = .returned (.tuple #[]) ∧ WrAt pb (l ++ stampForm p q) w' ∧ KeptW pb w w' := by
  have hnl := numForm_length p
  have hsl := sz_le hp
  have HW : Hid (WrAt pb l w) := hw
  have hlt := hw.lt
  clear hw
  go_enter Try.func46, Try.ntmps46
  go_wp2_with fail
  refine (num10 pb l p _ hp (HW.out.alloc _) (by omega)).mono ?_
  rintro e w1 ⟨rfl, hw1, hk1⟩
  have hb1 := hk1.other w.heap.size _ (heap_alloc_new w _) (by omega) (by intro cs fz; simp)
  obtain ⟨_, b1, _, _⟩ := two_cells hb1
  have HK : Hid (WrAt pb (l ++ numForm p) w1 ∧ KeptW pb w w1) := ⟨hw1, ((KeptW.refl pb w).alloc (by omega) _).trans hk1⟩
  clear hw1 hk1 hb1
  go_wp2_with fail
  refine (num10 pb (l ++ numForm p) q _ (by omega) HK.out.1 (by rw [List.length_append]; omega)).mono ?_
  rintro e w2 ⟨rfl, hw2, hk2⟩
  have HK2 : Hid (WrAt pb (l ++ numForm p ++ numForm q) w2 ∧ KeptW pb w w2) := ⟨hw2, HK.out.2.trans hk2⟩
  clear hw2 hk2
  go_wp2
  go_end0
  rw [stampForm, ← List.append_assoc]
  exact ⟨rfl, HK2.out.1, HK2.out.2⟩

end Go.Proofs.Ytmldgfepnmencaa
