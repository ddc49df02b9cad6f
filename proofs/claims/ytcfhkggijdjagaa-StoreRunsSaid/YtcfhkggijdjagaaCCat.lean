/-
  Contracts of slices.Grow of nothing and of slices.Concat, at lists of versions.
-/
import Derived.Test.YtcfhkggijdjagaaCOwn
import Derived.Lib.AppendZerosOnto
namespace Go.Proofs.Ytcfhkggijdjagaa
open Go.RowKit

set_option maxHeartbeats 1600000 in
set_option maxRecDepth 100000 in
theorem grow29 (n : Nat) (w : World) (hn : n ≤ 1048576) :
    Calls Try.prog 65 #[.slice none 0 0, .int .i64 n] w fun e w' => ∃ v', e = .returned v' ∧ VsOwn w.heap.size v' [] w' ∧ Below w.heap.size w w' := by
  obtain ⟨i0, hi, hz0, hz1, hz2⟩ := info_parts info30
  by_cases h0 : n = 0
  · subst h0
    go_enter Try.func65, Try.ntmps65
    go_wp2
    go_ret
    exact ⟨_, rfl, VsOwn.nil _ _, Below.refl _ _⟩
  · have hrz := fun ty => Lib.run_append_grow_zeros (P := Try.prog) w 55 3 ty 37 i0 _ .i64 .i64 Try.underlying55 Try.underlying3 hi hz0 none 0 0 [] (run_firstCells_none w.drew i0.size 0 0 0) n (by omega) (by rw [hz1]; decide) (by omega) (by omega) (by rw [hz2]; omega) (by rw [hz2]; exact growslice_fits (by omega) (by omega))
    have hG := grownCap_ge w (0 + n) 0 37
    have hG2 := grownCap_le_maxLen w (0 + n) 0 37 (by unfold maxLen; omega)
    simp only [Nat.zero_add] at hrz hG hG2
    obtain ⟨G, hGe⟩ : ∃ G, grownCap w n 0 37 = G := ⟨_, rfl⟩
    rw [hGe] at hrz hG hG2
    obtain ⟨cur, hcur⟩ : ∃ cur, cur = (([] : List Value).toArray ++ Builtin.zeroCells (Value.agg #[.int .u64 0, .int .u32 0, .int .u32 0, .int .u32 0, .string ⟨#[]⟩, .bool false]).cells n ++ Builtin.zeroCells (Value.agg #[.int .u64 0, .int .u32 0, .int .u32 0, .int .u32 0, .string ⟨#[]⟩, .bool false]).cells (G - n)) := ⟨_, rfl⟩
    rw [← hcur] at hrz
    have HS : Hid (cur.size = G * 6) := by
      show _ = _
      rw [hcur]
      simp only [Array.size_append, List.size_toArray, size_zeroCells, List.length_nil]
      show 0 + n * 6 + (G - n) * 6 = G * 6
      omega
    have HG : Hid (G ≤ maxLen) := hG2
    have h1 : ¬ ((n : Int) < 0) := by omega
    have h2 : (0 : Int) < n := by omega
    clear hcur hGe hi hz0 hz1 hz2 hG2
    go_enter Try.func65, Try.ntmps65
    go_wp2_with (at_builtin; refine Lib.wpList_append_run _ rfl _ _ _ _ rfl _ _ rfl rfl _ _ (hrz _) ?_)
    go_ret
    refine ⟨_, rfl, ⟨by simp [vfl], .inr ⟨w.heap.size, G, cur, rfl, Nat.le_refl _, heap_alloc_new w.drew _, Nat.zero_le _, HG.out, HS.out, by simp [vfl]⟩⟩, ?_⟩
    exact ⟨rfl, rfl, rfl, by simp, fun k hk => heap_alloc_old w.drew _ hk⟩

def dz : Value × List Ve := (.slice none 0 0, [])
def cat : List (Value × List Ve) → List Ve
  | [] => []
  | x :: r => x.2 ++ cat r
theorem cat_snoc (l : List (Value × List Ve)) (x : Value × List Ve) : cat (l ++ [x]) = cat l ++ x.2 := by
  induction l with
  | nil => simp [cat]
  | cons a l ih => simp [cat, ih]
theorem cat_take {LS : List (Value × List Ve)} {k : Nat} (h : k < LS.length) : cat (LS.take (k + 1)) = cat (LS.take k) ++ (LS.getD k dz).2 := by
  rw [List.take_succ_eq_append_getElem h, cat_snoc]
  simp [List.getD, h]
theorem cat_le (LS : List (Value × List Ve)) (k : Nat) : (cat (LS.take k)).length ≤ (cat LS).length := by
  induction LS generalizing k with
  | nil => simp [cat]
  | cons a l ih =>
    cases k with
    | zero => simp [cat]
    | succ k =>
      have := ih k
      simp only [List.take_succ_cons, cat, List.length_append]
      omega

set_option maxHeartbeats 3200000 in
theorem concat23 (B sb : Nat) (LS : List (Value × List Ve)) (w : World) (hc : ∀ k, k < LS.length → w.cell? ⟨sb, k, none⟩ = some (LS.getD k dz).1) (hv : ∀ k, k < LS.length → VsAt B (LS.getD k dz).1 (LS.getD k dz).2 w)
    (hsb : sb < w.heap.size) (hB : B ≤ w.heap.size) (hl : (cat LS).length ≤ 1048576) (hn : LS.length ≤ 1000) :
    Calls Try.prog 53 #[.slice (some ⟨sb, 0, none⟩) LS.length LS.length] w fun e w' => ∃ v', e = .returned v' ∧ VsAt w'.heap.size v' (cat LS) w' ∧ Below w.heap.size w w' := by
  have HC : Hid _ := hc
  have HV : Hid _ := hv
  have HSb : Hid _ := hsb
  have HB : Hid _ := hB
  have HL : Hid _ := hl
  clear hc hv hsb hB hl
  go_enter Try.func53, Try.ntmps53
  go_wp2_with fail
  go_loopw [3, 11] (fun s i wr => ∃ k : Nat, k ≤ LS.length ∧ i = .int .i64 k ∧ s = .int .i64 (cat (LS.take k)).length ∧ w = wr) (fun _ i _ => LS.length - (intOf i).toNat)
  case atStart => exact ⟨0, Nat.zero_le _, rfl, by simp [cat], rfl⟩
  case round =>
    obtain ⟨k, hk, rfl, rfl, rfl⟩ := hrel
    by_cases hkl : k < LS.length
    · have c0 := HC.out k hkl
      obtain ⟨ao, cap, hvk, hlc, hcm, _⟩ := HV.out k hkl
      rw [hvk] at c0
      clear hvk
      have HT : Hid _ := cat_take hkl
      have hle : (cat (LS.take k)).length ≤ 1048576 := Nat.le_trans (cat_le LS k) HL.out
      have hle2 : (cat (LS.take k)).length + (LS.getD k dz).2.length ≤ 1048576 := by
        have h1 := cat_le LS (k + 1)
        rw [HT.out, List.length_append] at h1
        exact Nat.le_trans h1 HL.out
      have HT2 : Hid ((cat (LS.take (k + 1))).length = (cat (LS.take k)).length + (LS.getD k dz).2.length) := by rw [HT.out]; show _ = _; simp
      clear HT
      generalize (LS.getD k dz).2.length = m at *
      generalize (cat (LS.take k)).length = t at *
      have hkl' : (k : Int) < LS.length := by omega
      have hadd : IntKind.i64.wrap ((t : Int) + m) = ((t + m : Nat) : Int) := by simp [IntKind.wrap, IntKind.signed, IntKind.bits]; omega
      have hnn : ¬ (((t + m : Nat) : Int) < 0) := by omega
      go_wp2_with fail
      go_roundw
      case rel => exact ⟨k + 1, by omega, by go_num, by rw [HT2.out]; go_num, by trivial⟩
      case measure => simp [intOf]; omega
    · have hkl' : ¬ (k : Int) < LS.length := by omega
      have HK : Hid (cat (LS.take k) = cat LS) := by rw [List.take_of_length_le (by omega)]; exact rfl
      rw [HK.out]
      clear HK
      go_wp2_with fail
      refine (grow29 _ _ HL.out).mono ?_
      rintro e w1 ⟨v1, rfl, ho1, hb1⟩
      have HO : Hid _ := ho1
      have H1 : Hid _ := hb1
      clear ho1 hb1
      go_wp2_with fail
      go_loopw [6, 27] (fun s i wr => ∃ k : Nat, k ≤ LS.length ∧ i = .int .i64 k ∧ VsOwn w.heap.size s (cat (LS.take k)) wr ∧ Below w.heap.size w wr) (fun _ i _ => LS.length - (intOf i).toNat)
      case atStart => exact ⟨0, Nat.zero_le _, rfl, HO.out, H1.out⟩
      case round =>
        obtain ⟨k, hk, rfl, hown, hbr⟩ := hrel
        have HOk : Hid _ := hown
        have HBr : Hid _ := hbr
        clear hown hbr
        by_cases hkl : k < LS.length
        · have c0 : wr.cell? ⟨sb, k, none⟩ = some (LS.getD k dz).1 := by rw [HBr.out.cell (p := ⟨_, _, none⟩) HSb.out]; exact HC.out k hkl
          have HVk : Hid (VsAt w.heap.size (LS.getD k dz).1 (LS.getD k dz).2 wr) := ((HV.out k hkl).le HB.out).on HBr.out
          have HT : Hid _ := cat_take hkl
          have HLe : Hid ((cat (LS.take k)).length + (LS.getD k dz).2.length ≤ 1048576) := by
            have h1 := cat_le LS (k + 1)
            rw [HT.out, List.length_append] at h1
            exact Nat.le_trans h1 HL.out
          generalize (LS.getD k dz).1 = vk at *
          generalize (LS.getD k dz).2 = Xk at *
          have hkl' : (k : Int) < LS.length := by omega
          go_wp2_with (at_builtin; refine wpList_append_vs rfl _ _ rfl w.heap.size w.heap.size (cat (LS.take k)) Xk _ _ rfl rfl HOk.out HVk.out HBr.out.size HLe.out ?_)
          intro v' w2 hown hg
          have HO2 : Hid (VsOwn w.heap.size v' (cat (LS.take (k + 1))) w2) := by rw [HT.out]; exact hown
          have HB2 : Hid (Below w.heap.size w w2) := below_grown HBr.out HBr.out.size HOk.out hg
          clear hown hg
          go_wp2_with fail
          go_roundw
          case rel => exact ⟨k + 1, by omega, by go_num, HO2.out, HB2.out⟩
          case measure => simp [intOf]; omega
        · have hkl' : ¬ (k : Int) < LS.length := by omega
          go_wp2
          go_ret
          have hf := HOk.out
          rw [List.take_of_length_le (by omega)] at hf
          exact ⟨_, rfl, VsOwn.at (base := w.heap.size) hf, HBr.out⟩
end Go.Proofs.Ytcfhkggijdjagaa
