/-
  The walk of OrderRuns.
-/
import Derived.Test.YtogkgibneddngaaRuns
namespace Go.Proofs.Ytogkgibneddngaa
open Go.RowKit Go.Sort
variable {MA : Nat → Nat → (Nat → Prop) → Kv → World → Prop}

/-- And the document's list. -/
structure Pl (MA : Nat → Nat → (Nat → Prop) → Kv → World → Prop) (w : World) (p rb xb : Nat) (A : Ac) (L : Kv) (ra : Option Addr) (rc : Nat) (W : World) : Prop where
  pr : Pr MA w p rb xb A L L W
  ls : W.cell? ⟨rb, 0, none⟩ = some (.slice ra L.length rc)
theorem Pl.on (I : Ifc MA) {w W W' : World} {p rb xb : Nat} {A : Ac} {L : Kv} {ra : Option Addr} {rc : Nat} (h : Pl MA w p rb xb A L ra rc W) (hb : Below W.heap.size W W') : Pl MA w p rb xb A L ra rc W' :=
  ⟨h.pr.on I hb, by rw [hb.cell (p := ⟨rb, 0, none⟩) (World.block_lt_of_cell? _ _ h.ls)]; exact h.ls⟩
theorem Pl.s {w W : World} {p rb xb : Nat} {what av limit : Int} {key til : List UInt8} {L : Kv} {ra : Option Addr} {rc : Nat} (h : Pl MA w p rb xb ⟨what, av, limit, key, til⟩ L ra rc W) : W.cell? ⟨xb, 2, none⟩ = some (.int .i64 limit) ∧ W.cell? ⟨xb, 3, none⟩ = some (.string (bs key)) ∧ W.cell? ⟨xb, 4, none⟩ = some (.string (bs til)) ∧ W.cell? ⟨rb, 0, none⟩ = some (.slice ra L.length rc) ∧ Hid (Pl MA w p rb xb ⟨what, av, limit, key, til⟩ L ra rc W) :=
  ⟨h.pr.five.2.2.1, h.pr.five.2.2.2.1, h.pr.five.2.2.2.2, h.ls, h⟩

set_option maxHeartbeats 8000000 in
set_option maxRecDepth 100000 in
theorem runs3 (I : Ifc MA) (B : Nat) (acts : List Ac) (v : Value) (w : World) (hv : AcsAt B v acts w) (hB : B ≤ w.heap.size) :
    Calls Try.prog 3 #[v] w fun e w' => e = .returned (.bool true) ∧ Below w.heap.size w w' := by
  have H : Hid (AcsAt w.heap.size v acts w) := RwAt.le hv hB
  obtain ⟨ao, cap, rfl, _, hlc, hcm, _⟩ := hv
  have HM : Hid (acts.length ≤ 9223372036854775807) := Nat.le_trans hlc hcm
  clear hB hlc hcm
  have CA : Hid (∀ W : World, 1 = 1 → Calls Try.prog 7 #[] W fun e w' => e = .returned (.bool true) ∧ Below W.heap.size W w') := fun W _ => awake7 I W
  have CN : Hid (∀ W : World, Below w.heap.size w W → Calls Try.prog 8 #[] W fun e w' => ∃ p, e = .returned (.pointer (some ⟨p, 0, none⟩)) ∧ Mw MA w p [] w') := fun W h => mw_new I h
  have CSm : Hid (∀ (W : World) va vb K, KsAt W.heap.size va K W → KsAt W.heap.size vb K W → Calls Try.prog 16 #[va, vb] W fun e w' => e = .returned (.bool true) ∧ Below W.heap.size W w') := fun W va vb K h1 h2 => by
    have := same16 _ _ K K va vb W h1 h2
    rw [beq_self_eq_true] at this
    exact this
  go_enter Try.func3, Try.ntmps3
  go_wp2_with fail
  refine (CA.out _ (by trivial)).mono ?_
  rintro e w1 ⟨rfl, hb1⟩
  have H1 : Hid _ := hb1
  clear hb1 CA
  go_wp2_with fail
  refine (CN.out _ H1.out).mono ?_
  rintro e w2 ⟨p, rfl, hm2⟩
  have H2 : Hid (P0 MA w p w2.heap.size [] [] (w2.alloc (.cells #[.slice none 0 0] 29))) := p0_new I hm2
  clear hm2 CN H1
  go_wp2_with fail
  generalize w2.alloc (.cells #[.slice none 0 0] 29) = w3 at H2 ⊢
  generalize w2.heap.size = rb at H2 ⊢
  go_loopw [18] (fun i wr => ∃ k : Nat, k ≤ acts.length ∧ i = .int .i64 k ∧ k ≤ 300 ∧ ∃ L : Kv, L.length ≤ k ∧ P0 MA w p rb L L wr) (fun i _ => acts.length - (intOf i).toNat)
  case atStart => exact ⟨0, Nat.zero_le _, rfl, by omega, [], Nat.le_refl _, H2.out⟩
  case round =>
    obtain ⟨k, hk, rfl, hk3, L, hLk, hp⟩ := hrel
    have HP : Hid _ := hp
    clear hp H2
    by_cases hkl : k < acts.length
    · obtain ⟨b, off, rfl, hb, e0, e1, e2, e3, e4⟩ := AcsAt.el (RwAt.on H.out HP.out.bel) hkl
      generalize acts.getD k da = A at *
      have HB : Hid _ := HP.out.boxed I A
      obtain ⟨what, av, limit, key, til⟩ := A
      dsimp only at e0 e1 e2 e3 e4 HB
      have hkl' : (k : Int) < acts.length := by omega
      have HLk : Hid _ := hLk
      clear hLk hb
      by_cases h300 : k = 300
      · subst h300
        simp only [Nat.reduceMul] at e0 e1 e2 e3 e4
        have HP1 : Hid _ := HB.out.out
        have hL1 : L.length < 100000 := by have := HLk.out; omega
        go_wp2_with fail
        refine (p0_keys I HP1.out hL1 [] [] 1000).mono ?_
        rintro e w5 ⟨v5, rfl, hk5, hb5⟩
        have HP5 : Hid _ := P0.on I HP1.out hb5
        have HK5 : Hid _ := hk5
        clear hk5 hb5
        go_wp2_with fail
        refine (p0_keys2 HP5.out (by omega) [] [] 1000).mono ?_
        rintro e w6 ⟨v6, rfl, hk6, hb6⟩
        have HP6 : Hid _ := P0.on I HP5.out hb6
        have HK6 : Hid _ := hk6
        have HK56 : Hid _ := KsAt.onn HK5.out hb6
        clear hk6 hb6
        go_wp2_with fail
        refine (CSm.out _ _ _ _ HK56.out HK6.out).mono ?_
        rintro e w7 ⟨rfl, hb7⟩
        have HP7 : Hid _ := P0.on I HP6.out hb7
        clear hb7
        go_wp2_with fail
        go_ret
        exact ⟨rfl, HP7.out.bel⟩
      · have h3' : ((k : Int) == 300) = false := by rw [beq_eq_false_iff_ne]; omega
        have hk299 : k < 300 := by omega
        clear h300
        go_upto_block 2 with fail
        clear e0 e1 e2 e3 e4
        generalize wr.alloc (.cells #[.int .i64 what, .int .i64 av, .int .i64 limit, .string (bs key), .string (bs til)] 31) = w4 at HB ⊢
        generalize wr.heap.size = xb at HB ⊢
        have hL1 : L.length < 100000 := by have := HLk.out; omega
        have hL2 : L.length < 1000000 := by omega
        go_cut [] (fun wc => ∃ L' : Kv, L'.length ≤ k + 1 ∧ Pr MA w p rb xb ⟨what, av, limit, key, til⟩ L' L' wc)
        case first =>
          obtain ⟨e0, e1, e2, e3, e4⟩ := HB.out.five
          dsimp only at e0 e1 e2 e3 e4
          by_cases hw0 : what = 0
          · subst hw0
            go_wp2_with fail
            refine (pr_set I HB.out hL1 key av).mono ?_
            rintro e w5 ⟨rfl, h5⟩
            have H5 : Hid _ := h5
            clear h5 e0 e1 e2 e3 e4
            obtain ⟨e0, e1, e2, e3, e4⟩ := H5.out.five
            dsimp only at e0 e1 e2 e3 e4
            go_wp2_with fail
            refine (pr_set2 I H5.out hL2 key av).mono ?_
            rintro e w6 ⟨rfl, h6⟩
            have H6 : Hid _ := h6
            clear h6 e0 e1 e2 e3 e4
            go_wp2_with fail
            go_meet
            refine ⟨setF key av L, ?_, H6.out⟩
            obtain ⟨_, _, _, _, hm, _⟩ := HB.out.ex
            rw [len_set (I.srt hm)]
            have := HLk.out
            split <;> omega
          · have hw0' : (what == 0) = false := by rw [beq_eq_false_iff_ne]; exact hw0
            by_cases hw1 : what = 1
            · subst hw1
              clear e0 e1 e2 e4 hw0 hw0'
              have CC : Hid (∀ W, Pr MA w p rb xb ⟨1, av, limit, key, til⟩ L L W → _) := fun W h => pr_cut I h hL1 key
              have CD : Hid (∀ W, Pr MA w p rb xb ⟨1, av, limit, key, til⟩ (cutF key L) L W → _) := fun W h => pr_cut2 I h hL2 key
              have HLc : Hid ((cutF key L).length ≤ k + 1) := by
                obtain ⟨_, _, _, _, hm, _⟩ := HB.out.ex
                show _ ≤ _
                rw [len_cut (I.srt hm)]
                have := HLk.out
                split <;> omega
              generalize cutF key L = L' at *
              generalize (getF key L).isSome = gs at *
              go_wp2_with fail
              go_region_held3 (fun w' => w'.cell? ⟨xb, 3, none⟩ = some (.string (bs key)) ∧ Hid (∃ La Lb, Pr MA w p rb xb ⟨1, av, limit, key, til⟩ La Lb w'))
                (first | exact ⟨(HB.out.on I (Below.refl _ _).drew).five.2.2.2.1, ⟨_, _, HB.out.on I (Below.refl _ _).drew⟩⟩ | exact ⟨H5.out.five.2.2.2.1, ⟨_, _, H5.out⟩⟩ | exact ⟨H6.out.five.2.2.2.1, ⟨_, _, H6.out⟩⟩)
                (first
                | (go_at_call 11; refine (CC.out _ (HB.out.on I (Below.refl _ _).drew)).mono ?_; rintro e w5 ⟨rfl, h5⟩; have H5 : Hid _ := h5; clear h5)
                | (go_at_call 12; refine (CD.out _ H5.out).mono ?_; rintro e w6 ⟨rfl, h6⟩; have H6 : Hid _ := h6; clear h6))
              go_wp2_with fail
              go_meet
              exact ⟨L', HLc.out, H6.out⟩
            · have hw1' : (what == 1) = false := by rw [beq_eq_false_iff_ne]; exact hw1
              clear hw0 hw1
              go_wp2_with fail
              go_meet
              exact ⟨L, by have := HLk.out; omega, HB.out⟩
        case rest =>
          obtain ⟨L', hL', hp'⟩ := hcut
          have H4 : Hid _ := hp'
          clear hp' HB hL1 hL2
          have hL1 : L'.length < 100000 := by omega
          have hL2 : L'.length < 1000000 := by omega
          have HL3 : Hid _ := hL'
          clear hL'
          have CK : Hid (∀ W, Pr MA w p rb xb ⟨what, av, limit, key, til⟩ L' L' W → _) := fun W h => p0_keys I h.out hL1 key til limit
          have CK2 : Hid (∀ W, Pr MA w p rb xb ⟨what, av, limit, key, til⟩ L' L' W → _) := fun W h => p0_keys2 h.out hL2 key til limit
          have CG : Hid (∀ W, Pr MA w p rb xb ⟨what, av, limit, key, til⟩ L' L' W → _) := fun W h => pr_get I h hL1 key
          have CG2 : Hid (∀ W, Pr MA w p rb xb ⟨what, av, limit, key, til⟩ L' L' W → _) := fun W h => pr_get2 I h key
          have CL : Hid (∀ W, Pr MA w p rb xb ⟨what, av, limit, key, til⟩ L' L' W → Calls Try.prog 15 #[.pointer (some ⟨p, 0, none⟩)] W fun e w' => e = .returned (.int .i64 L'.length) ∧ Below W.heap.size W w') := fun W h => by
            obtain ⟨B, F, B2, sl, h1, _⟩ := h.ex
            exact I.len h1 hL1
          generalize keysF key til limit L' = Ks at *
          generalize (getF key L').getD 0 = gv at *
          generalize (getF key L').isSome = gs at *
          obtain ⟨e0, e1, e2, e3, e4⟩ := H4.out.five
          dsimp only at e0 e1 e2 e3 e4
          go_wp2_with fail
          refine (CG.out _ H4.out).mono ?_
          rintro e w5 ⟨rfl, h5⟩
          have H5 : Hid _ := h5
          clear h5 e0 e1 e2 e3 e4
          obtain ⟨e0, e1, e2, e3, e4⟩ := H5.out.five
          dsimp only at e0 e1 e2 e3 e4
          go_wp2_with fail
          refine (CG2.out _ H5.out).mono ?_
          rintro e w6 ⟨rfl, h6⟩
          have H6 : Hid _ := h6
          clear h6 e0 e1 e2 e3 e4 CG CG2 H4 H5
          obtain ⟨ra, rc, hls⟩ := H6.out.out.list
          have HQ : Hid (Pl MA w p rb xb ⟨what, av, limit, key, til⟩ L' ra rc w6) := ⟨H6.out, hls⟩
          clear hls H6
          go_wp2_with fail
          go_region_held3 (fun w' => w'.cell? ⟨xb, 2, none⟩ = some (.int .i64 limit) ∧ w'.cell? ⟨xb, 3, none⟩ = some (.string (bs key)) ∧ w'.cell? ⟨xb, 4, none⟩ = some (.string (bs til)) ∧ w'.cell? ⟨rb, 0, none⟩ = some (.slice ra L'.length rc) ∧ Hid (Pl MA w p rb xb ⟨what, av, limit, key, til⟩ L' ra rc w'))
            (first | exact (HQ.out.on I (Below.refl _ _).drew).s | exact H7.out.s | exact H8.out.1.s | exact H9.out.1.s | exact H10.out.s)
            (first
            | (go_at_call 15; refine (CL.out _ (HQ.out.on I (Below.refl _ _).drew).pr).mono ?_; rintro e w7 ⟨rfl, hb7⟩; have H7 : Hid (Pl MA w p rb xb ⟨what, av, limit, key, til⟩ L' ra rc w7) := (HQ.out.on I (Below.refl _ _).drew).on I hb7; clear hb7)
            | (go_at_call 17; refine (CK.out _ H7.out.pr).mono ?_; rintro e w8 ⟨v8, rfl, hk8, hb8⟩; have H8 : Hid (Pl MA w p rb xb ⟨what, av, limit, key, til⟩ L' ra rc w8 ∧ KsAt w8.heap.size v8 Ks w8) := ⟨H7.out.on I hb8, hk8⟩; clear hb8 hk8)
            | (go_at_call 18; refine (CK2.out _ H8.out.1.pr).mono ?_; rintro e w9 ⟨v9, rfl, hk9, hb9⟩; have H9 : Hid (Pl MA w p rb xb ⟨what, av, limit, key, til⟩ L' ra rc w9 ∧ KsAt w9.heap.size v8 Ks w9 ∧ KsAt w9.heap.size v9 Ks w9) := ⟨H8.out.1.on I hb9, KsAt.onn H8.out.2 hb9, hk9⟩; clear hb9 hk9)
            | (go_at_call 16; refine (CSm.out _ _ _ _ H9.out.2.1 H9.out.2.2).mono ?_; rintro e w10 ⟨rfl, hb10⟩; have H10 : Hid (Pl MA w p rb xb ⟨what, av, limit, key, til⟩ L' ra rc w10) := H9.out.1.on I hb10; clear hb10))
          have h63 := HM.out
          go_wp2_with fail
          go_roundw
          case rel => exact ⟨k + 1, by omega, by go_num, by omega, L', HL3.out, H10.out.pr.out⟩
          case measure => simp [intOf]; omega
    · have hkl' : ¬ (k : Int) < acts.length := by omega
      have hL1 : L.length < 100000 := by omega
      go_wp2_with fail
      refine (p0_keys I HP.out hL1 [] [] 1000).mono ?_
      rintro e w5 ⟨v5, rfl, hk5, hb5⟩
      have HP5 : Hid _ := P0.on I HP.out hb5
      have HK5 : Hid _ := hk5
      clear hk5 hb5
      go_wp2_with fail
      refine (p0_keys2 HP5.out (by omega) [] [] 1000).mono ?_
      rintro e w6 ⟨v6, rfl, hk6, hb6⟩
      have HP6 : Hid _ := P0.on I HP5.out hb6
      have HK6 : Hid _ := hk6
      have HK56 : Hid _ := KsAt.onn HK5.out hb6
      clear hk6 hb6
      go_wp2_with fail
      refine (CSm.out _ _ _ _ HK56.out HK6.out).mono ?_
      rintro e w7 ⟨rfl, hb7⟩
      have HP7 : Hid _ := P0.on I HP6.out hb7
      clear hb7
      go_wp2_with fail
      go_ret
      exact ⟨rfl, HP7.out.bel⟩
end Go.Proofs.Ytogkgibneddngaa
