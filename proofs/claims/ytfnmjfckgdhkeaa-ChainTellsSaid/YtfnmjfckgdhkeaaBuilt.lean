/-
  The law's awake and built.
-/
import Derived.Test.YtfnmjfckgdhkeaaCalls
namespace Go.Proofs.Ytfnmjfckgdhkeaa
open Go.RowKit Go.Sort

theorem bs_x : bs [120] = ⟨#[120]⟩ := rfl

set_option maxHeartbeats 1600000 in
set_option maxRecDepth 100000 in
theorem awake7 (w : World) : Calls Try.prog 7 #[] w fun e w' => e = .returned (.bool true) ∧ Below w.heap.size w w' := by
  have hx : putF [] ⟨5, 0, 0, 0, [120], false⟩ = ([⟨5, 0, 0, 0, [120], false⟩], 0) := by rfl
  have h9 : atF [⟨5, 0, 0, 0, [120], false⟩] 9 0 = some ⟨5, 0, 0, 0, [120], false⟩ := by rfl
  have h4 : atF [⟨5, 0, 0, 0, [120], false⟩] 4 0 = none := by rfl
  have CP : Hid (∀ W, 1 = 1 → Calls Try.prog 8 #[.slice none 0 0, .agg #[.int .u64 5, .int .u32 0, .int .u32 0, .int .u32 0, .string ⟨#[120]⟩, .bool false]] W fun e w' => ∃ v', e = .returned (.tuple #[v', .int .i64 0]) ∧ VsAt w'.heap.size v' [⟨5, 0, 0, 0, [120], false⟩] w' ∧ Below W.heap.size W w') := fun W _ => by
    have := put8 0 [] (.slice none 0 0) ⟨5, 0, 0, 0, [120], false⟩ W (vs_nil _ _) (Nat.zero_le _)
    rw [hx] at this
    exact this
  have C9 : Hid (∀ W v B, VsAt B v [⟨5, 0, 0, 0, [120], false⟩] W → B ≤ W.heap.size → Calls Try.prog 10 #[v, .agg #[.int .u64 9, .int .u32 0]] W fun e w' => e = .returned (.tuple #[.agg #[.int .u64 5, .int .u32 0, .int .u32 0, .int .u32 0, .string ⟨#[120]⟩, .bool false], .bool true]) ∧ Below W.heap.size W w') := fun W v B hv hB => by
    have := at10 B _ v 9 0 W hv hB
    rw [h9] at this
    exact this
  have C4 : Hid (∀ W v B, VsAt B v [⟨5, 0, 0, 0, [120], false⟩] W → B ≤ W.heap.size → Calls Try.prog 10 #[v, .agg #[.int .u64 4, .int .u32 0]] W fun e w' => e = .returned (.tuple #[.agg #[.int .u64 0, .int .u32 0, .int .u32 0, .int .u32 0, .string ⟨#[]⟩, .bool false], .bool false]) ∧ Below W.heap.size W w') := fun W v B hv hB => by
    have := at10 B _ v 4 0 W hv hB
    rw [h4] at this
    exact this
  clear hx h9 h4
  go_enter Try.func7, Try.ntmps7
  go_wp2_with fail
  refine (CP.out _ (by trivial)).mono ?_
  rintro e w1 ⟨v1, rfl, hv1, hb1⟩
  have HV1 : Hid _ := hv1
  have HB1 : Hid _ := hb1
  clear hv1 hb1
  go_wp2_with fail
  refine (C9.out _ _ _ HV1.out (Nat.le_refl _)).mono ?_
  rintro e w2 ⟨rfl, hb2⟩
  have hb2' : Below w1.heap.size w1 (w2.alloc (.cells #[.int .u64 5, .int .u32 0, .int .u32 0, .int .u32 0, .string ⟨#[120]⟩, .bool false] 30)) := hb2.alloc hb2.size _
  have HB2 : Hid _ := hb2'
  clear hb2 hb2'
  go_wp2_with fail
  refine (C4.out _ _ _ (VsAt.on HV1.out HB2.out) HB2.out.size).mono ?_
  rintro e w3 ⟨rfl, hb3⟩
  obtain ⟨hc, -⟩ := bcell hb3
  have HB3 : Hid (Below w.heap.size w w3) := (HB1.out.trans (HB2.out.mono HB1.out.size)).trans (hb3.mono (Nat.le_trans HB1.out.size HB2.out.size))
  have hz : w2.heap.size < w3.heap.size := by have := hb3.size; simp at this; omega
  clear hb3
  go_wp2_with fail
  go_ret
  exact ⟨rfl, HB3.out.alloc HB3.out.size _⟩

theorem bldF_snoc : ∀ (l : List Ve) (c : List Ve) (v : Ve), bldF c (l ++ [v]) = if (putF (bldF c l) v).2 = 0 then (putF (bldF c l) v).1 else bldF c l
  | [], _, _ => rfl
  | _ :: l, _, v => bldF_snoc l _ v
theorem bldF_take {L : List Ve} {k : Nat} (h : k < L.length) : bldF [] (L.take (k + 1)) = if (putF (bldF [] (L.take k)) (L.getD k dv)).2 = 0 then (putF (bldF [] (L.take k)) (L.getD k dv)).1 else bldF [] (L.take k) := by
  rw [List.take_succ_eq_append_getElem h, bldF_snoc]
  simp [List.getD, h]

set_option maxHeartbeats 1600000 in
set_option maxRecDepth 100000 in
theorem built19 (B : Nat) (L : List Ve) (v : Value) (w : World) (hv : VsAt B v L w) (hB : B ≤ w.heap.size) :
    Calls Try.prog 19 #[v] w fun e w' => ∃ v', e = .returned v' ∧ VsAt w'.heap.size v' (bldF [] L) w' ∧ Below w.heap.size w w' := by
  have hv' := hv
  obtain ⟨ao, cap, rfl, hlc, hcm, -⟩ := hv
  have H : Hid (VsAt w.heap.size (.slice ao L.length cap) L w) := hv'.le hB
  clear hv' hB
  have HM : Hid (L.length ≤ 9223372036854775807) := by show _ ≤ _; omega
  clear hlc hcm
  go_enter Try.func19, Try.ntmps19
  go_wp2_with fail
  go_loopw [3, 10] (fun c i wr => ∃ k : Nat, k ≤ L.length ∧ i = .int .i64 k ∧ VsAt wr.heap.size c (bldF [] (L.take k)) wr ∧ Below w.heap.size w wr) (fun _ i _ => L.length - (intOf i).toNat)
  case atStart => exact ⟨0, Nat.zero_le _, rfl, vs_nil _ _, Below.refl _ _⟩
  case round =>
    obtain ⟨k, hk, rfl, hck, hbr⟩ := hrel
    have HV : Hid _ := hck
    have HB : Hid _ := hbr
    clear hck hbr
    by_cases hkl : k < L.length
    · obtain ⟨b, off, rfl, hb, hel⟩ := (H.out.on HB.out).el hkl
      have HT : Hid _ := bldF_take hkl
      have h63 := HM.out
      generalize L.getD k dv = x at hel HT
      generalize bldF [] (L.take k) = C at HV HT
      have CP : Hid (∀ W v B, VsAt B v C W → B ≤ W.heap.size → _) := fun W v B hv hB => put8 B C v x W hv hB
      generalize putF C x = y at HT CP
      obtain ⟨D, er⟩ := y
      obtain ⟨xp, xl, xc, xn, xs, xd⟩ := x
      unfold veV at *
      obtain ⟨e0, e1, e2, e3, e4, e5⟩ := hel
      dsimp only at *
      have hkl' : (k : Int) < L.length := by omega
      go_wp2_with fail
      have ba : Below wr.heap.size wr (wr.alloc (.cells #[.int .u64 xp, .int .u32 xl, .int .u32 xc, .int .u32 xn, .string (bs xs), .bool xd] 30)) := (Below.refl _ _).alloc (Nat.le_refl _) _
      refine (CP.out _ _ _ (VsAt.on HV.out ba) ba.size).mono ?_
      rintro e w2 ⟨v2, rfl, hv2, hb2⟩
      have hb2' : Below wr.heap.size wr w2 := ba.trans (hb2.mono ba.size)
      have HB2 : Hid (Below w.heap.size w w2) := HB.out.trans (hb2'.mono HB.out.size)
      have HV2 : Hid (VsAt w2.heap.size v2 D w2) := hv2
      have HVo : Hid _ := (VsAt.on HV.out hb2').le hb2'.size
      clear hb2 hb2' hv2 ba CP HV e0 e1 e2 e3 e4 e5 hb
      by_cases h0 : er = 0
      · have h0' : (er == 0) = true := by simp [h0]
        have HC : Hid (bldF [] (L.take (k + 1)) = D) := by rw [HT.out, if_pos h0]; exact rfl
        clear h0
        go_wp2_with fail
        go_roundw
        case rel => exact ⟨k + 1, by omega, by go_num, by rw [HC.out]; exact HV2.out, HB2.out⟩
        case measure => simp [intOf]; omega
      · have h0' : (er == 0) = false := by simp [h0]
        have HC : Hid (bldF [] (L.take (k + 1)) = C) := by rw [HT.out, if_neg h0]; exact rfl
        clear h0
        go_wp2_with fail
        go_roundw
        case rel => exact ⟨k + 1, by omega, by go_num, by rw [HC.out]; exact HVo.out, HB2.out⟩
        case measure => simp [intOf]; omega
    · have hkl' : ¬ (k : Int) < L.length := by omega
      go_wp2_with fail
      go_ret
      have hf := HV.out
      rw [List.take_of_length_le (by omega)] at hf
      exact ⟨_, rfl, hf, HB.out⟩
end Go.Proofs.Ytfnmjfckgdhkeaa
