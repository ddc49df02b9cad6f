/-
  The walk of FrameCut: of any list of texts and any place it answers true, and turns no memory that was there.
-/
import Derived.Test.YtncjcipbkeljdaaFlat
namespace Go.Proofs.Ytncjcipbkeljdaa
open Go.RowKit Go.Sort

set_option maxHeartbeats 2000000 in
set_option maxRecDepth 100000 in
theorem cut5 (ls : List (List UInt8)) (ao : Option Addr) (b off cap : Nat) (cut : Int) (w : World) (hao : 0 < ls.length → ao = some ⟨b, off, none⟩) (hnil : ao = none → cap = 0)
    (hcell : ∀ i, i < ls.length → w.cell? ⟨b, off + i, none⟩ = some (.string (bs (ls.getD i [])))) (hcap : ls.length ≤ cap) (hcapm : cap ≤ 9223372036854775807) (c0 : -9223372036854775808 ≤ cut) (c1 : cut ≤ 9223372036854775807) :
    Calls Try.prog 5 #[.slice ao ls.length cap, .int .i64 cut] w fun e w' => e = .returned (.bool true) ∧ Below w.heap.size w w' := by
  obtain ⟨i0, hi, hz0, hz1, hz2⟩ := info_parts info3
  have HC : Hid (∀ i, 1 = 1 → i < ls.length → w.cell? ⟨b, off + i, none⟩ = some (.string (bs (ls.getD i [])))) := fun i _ h => hcell i h
  have HA : Hid ((1 = 1 → 0 < ls.length → ao = some ⟨b, off, none⟩) ∧ (1 = 1 → ao = none → cap = 0)) := ⟨fun _ => hao, fun _ => hnil⟩
  clear hcell hao hnil
  by_cases g1 : (20 : Int) < ls.length
  · go_enter Try.func5, Try.ntmps5
    go_wp2_with (go_at_call 9; refine (awake9 _).mono ?_; rintro e w1 ⟨rfl, hb⟩; have HB : Hid (Below w.heap.size w w1) := hb; clear hb)
    go_ret
    exact ⟨rfl, HB.out⟩
  · have hN : ls.length ≤ 20 := by omega
    go_enter Try.func5, Try.ntmps5
    go_wp2_with (go_at_call 9; refine (awake9 _).mono ?_; rintro e w1 ⟨rfl, hb⟩; have HB : Hid (Below w.heap.size w w1) := hb; clear hb)
    go_loopw [5, 6, 22] (fun a v i wr => ∃ (V : Value) (k : Nat), v = V ∧ k ≤ ls.length ∧ i = .int .i64 k ∧ a = .string (bs (flat (ls.take k))) ∧ EnAt w.heap.size V ls k wr ∧ Below w.heap.size w wr ∧ ∀ j, j < k → (ls.getD j []).length ≤ 3000) (fun _ _ i _ => ls.length - (intOf i).toNat)
    case atStart => exact ⟨_, 0, rfl, Nat.zero_le _, rfl, rfl, World.ownsRow_nil _ _ _ _, HB.out, fun j hj => absurd hj (by omega)⟩
    case round =>
      obtain ⟨V, k, hVe, hk, rfl, rfl, hen, hbel, hsm⟩ := hrel
      have hVe' := hVe.symm
      clear hVe
      subst hVe'
      obtain ⟨eo, ec, rfl⟩ := en_shape hen
      have hfl := flat_len ls k hk hsm
      have hws := hbel.size
      have H1 : Hid (EnAt w.heap.size (.slice eo k ec) ls k wr ∧ Below w.heap.size w wr ∧ ∀ j, j < k → (ls.getD j []).length ≤ 3000) := ⟨hen, hbel, hsm⟩
      clear hen hbel hsm HB
      by_cases hkl : k < ls.length
      · obtain ⟨p, hp⟩ : ∃ p, p = ls.getD k [] := ⟨_, rfl⟩
        have hcw := HC.out k (by trivial) hkl
        have hbw : b < w.heap.size := World.block_lt_of_cell? _ _ hcw
        have hcr : wr.cell? ⟨b, off + k, none⟩ = some (.string (bs p)) := by rw [hp]; exact (H1.out.2.1.cell hbw).trans hcw
        obtain rfl : ao = some ⟨b, off, none⟩ := HA.out.1 (by trivial) (by omega)
        have hps := bs_size p
        have hkl' : (k : Int) < ls.length := by omega
        have HPP : Hid (p = ls.getD k []) := hp
        clear hcw hp
        by_cases g2 : (3000 : Int) < p.length
        · go_wp2
          go_ret
          exact ⟨rfl, H1.out.2.1⟩
        · have c17 := fun w => wrap17 p w (by omega)
          have hfm := flat_more ls k hkl
          have hpl : p.length ≤ 3000 := by omega
          have hal : ∀ j, j < k + 1 → (ls.getD j []).length ≤ 3000 := fun j hj => by
            by_cases hjk : j < k
            · exact H1.out.2.2 j hjk
            · obtain rfl : j = k := by omega
              rw [← HPP.out]; exact hpl
          have hfl2 := flat_len ls (k + 1) hkl hal
          rw [← HPP.out] at hfm
          have hadd : bs (flat (ls.take k)) ++ bs (frameOf p) = bs (flat (ls.take (k + 1))) := by rw [hfm]; exact bs_append _ _
          have hem := el_more ls k
          have hs1 : (bs (flat (ls.take k))).size = (flat (ls.take k)).length := bs_size _
          have hs2 : (bs (flat (ls.take (k + 1)))).size = (flat (ls.take (k + 1))).length := bs_size _
          have hs3 : (bs (frameOf p)).size = (frameOf p).length := bs_size _
          have hln := congrArg List.length hfm
          rw [List.length_append] at hln
          have HX : Hid (el ls (k + 1) = el ls k ++ [.int .i64 ((flat (ls.take (k + 1))).length : Int)] ∧ ∀ j, j < k + 1 → (ls.getD j []).length ≤ 3000) := ⟨hem, hal⟩
          have H17 : Hid (∀ w, 1 = 1 → Calls Try.prog 17 #[.string (bs p)] w fun e w' => e = .returned (.tuple #[.string (bs (frameOf p)), .int .i64 0]) ∧ Below w.heap.size w w') := fun w _ => c17 w
          obtain ⟨B, hB⟩ : ∃ B, B = flat (ls.take (k + 1)) := ⟨_, rfl⟩
          obtain ⟨A, hA⟩ : ∃ A, A = flat (ls.take k) := ⟨_, rfl⟩
          rw [← hB] at hadd hs2 hln hfl2 HX
          rw [← hA] at hadd hs1 hln hfl ⊢
          have HBB : Hid (B = flat (ls.take (k + 1))) := hB
          have hsum : A.length + (frameOf p).length ≤ 100000 := by omega
          have hB5 : B.length ≤ 100000 := by omega
          clear hln
          clear hB hA c17 hfm hal hem
          generalize frameOf p = F at *
          go_wp2_with fail
          refine (H17.out _ (by trivial)).mono ?_
          rintro e w2 ⟨rfl, hb2⟩
          have H2 : Hid (EnAt w.heap.size (.slice eo k ec) ls k w2 ∧ Below w.heap.size w w2) := ⟨H1.out.1.on hb2, H1.out.2.1.trans (hb2.mono hws)⟩
          have hws2 := H2.out.2.size
          clear hb2
          go_wp2_with (at_builtin; refine wpList_append_own _ rfl (.tmp 37) (.tmp 40) 40 rfl w.heap.size 3 i0 (.int .i64 0) 1 8 Try.underlying40 hi hz0 hz1 hz2 rfl (by decide) (.slice eo k ec) k (el ls k) rfl (World.ownsRow.alloc H2.out.1 _) ⟨w2.heap.size, 0, none⟩ 1 1 [.int .i64 (B.length : Int)] rfl rfl (one_new _ _ _) (int_one _ _) (by unfold maxLen; omega) (by omega) (by simp; omega) ?_; intro v' w3 hown' hgrow _; have HG : Hid _ := And.intro hown' hgrow; clear hown' hgrow)
          go_roundw
          case rel =>
            refine ⟨_, k + 1, rfl, by omega, by go_num, by rw [← HBB.out], ?_, ?_, HX.out.2⟩
            · have := HG.out.1
              unfold EnAt
              rw [HX.out.1]
              exact this
            · exact (H2.out.2.alloc hws2 _).grown HG.out.2 (by simp; omega) (fun j hj => by have := (World.ownsRow.alloc H2.out.1 (.cells #[.int .i64 (B.length : Int)] 3)).lt j hj; omega)
          case measure => simp [intOf]; omega
      · obtain rfl : k = ls.length := by omega
        rw [List.take_length] at hfl ⊢
        have hA := bs_size (flat ls)
        obtain ⟨A, hAe⟩ : ∃ A, A = flat ls := ⟨_, rfl⟩
        rw [← hAe] at hA hfl ⊢
        have HAE : Hid (A = flat ls) := hAe
        clear hAe
        have hAl : A.length ≤ 100000 := by omega
        by_cases g3 : cut < 0
        · go_wp2
          go_ret
          exact ⟨rfl, H1.out.2.1⟩
        · by_cases g4 : (A.length : Int) < cut
          · go_wp2
            go_ret
            exact ⟨rfl, H1.out.2.1⟩
          · obtain ⟨c, rfl⟩ := Int.eq_ofNat_of_zero_le (show 0 ≤ cut by omega)
            have g4' : ¬ A.length < c := by omega
            have hcA : c ≤ (bs A).size := by omega
            have hcA' : c ≤ A.length := by omega
            have htk := bs_take A c
            have c14 := fun w => scan14 (A.take c) w (by rw [List.length_take]; omega)
            have hsc := fun m h1 h2 h3 => scan_flat ls c m (fun p hp => by
              obtain ⟨j, hj, rfl⟩ := List.mem_iff_getElem.1 hp
              have := H1.out.2.2 j hj
              simp [List.getD, hj] at this
              omega) h1 h2 h3
            rw [← HAE.out] at hsc
            obtain ⟨⟨L1, t1⟩, hR⟩ : ∃ R, R = rdScan (A.take c) := ⟨_, rfl⟩
            rw [← hR] at c14 hsc
            dsimp only at c14
            obtain ⟨T, hT⟩ : ∃ T, T = A.take c := ⟨_, rfl⟩
            rw [← hT] at htk c14
            have H14 : Hid (∀ w, 1 = 1 → Calls Try.prog 14 #[.string (bs T)] w fun e w' => (∃ v, e = .returned (.tuple #[v, .int .i64 t1]) ∧ TxAt w.heap.size v L1 w') ∧ Below w.heap.size w w') := fun w _ => c14 w
            have HSC : Hid (∀ m, 1 = 1 → m ≤ ls.length → (flat (ls.take m)).length ≤ c → (m = ls.length ∧ c ≤ A.length ∨ m < ls.length ∧ c < (flat (ls.take (m + 1))).length) → (L1, t1) = (ls.take m, (flat (ls.take m)).length)) := fun m _ => hsc m
            clear c14 hsc hR hT
            go_wp2_with fail
            refine (H14.out _ (by trivial)).mono ?_
            rintro e w4 ⟨⟨v1, rfl, ht1⟩, hb4⟩
            obtain ⟨a1, b1, off1, cp1, rfl, hao1, hac1⟩ := ht1.cells
            have H4 : Hid (EnAt w.heap.size (.slice eo ls.length ec) ls ls.length w4 ∧ Below w.heap.size w w4 ∧ (1 = 1 → 0 < L1.length → a1 = some ⟨b1, off1, none⟩) ∧ (∀ i, 1 = 1 → i < L1.length → w4.cell? ⟨b1, off1 + i, none⟩ = some (.string (bs (L1.getD i []))))) := ⟨H1.out.1.on hb4, H1.out.2.1.trans (hb4.mono hws), fun _ => hao1, fun i _ => hac1 i⟩
            clear ht1 hb4 hao1 hac1
            go_wp2_with fail
            go_loopw [13, 14] (fun n x wq => ∃ m : Nat, m ≤ ls.length ∧ n = .int .i64 m ∧ x = .int .i64 (flat (ls.take m)).length ∧ (flat (ls.take m)).length ≤ c ∧ wq = w4) (fun n _ _ => ls.length - (intOf n).toNat)
            case atStart => exact ⟨0, Nat.zero_le _, rfl, rfl, Nat.zero_le _, rfl⟩
            case round =>
              obtain ⟨m, hm, rfl, rfl, hmc, hw4⟩ := hrel
              have hw4' := hw4.symm
              clear hw4
              subst hw4'
              by_cases hmN : m < ls.length
              · have hmN' : (m : Int) < ls.length := by omega
                obtain ⟨g, gc, hge, hgc⟩ := H4.out.1.cells (by omega)
                injection hge with hge1 _ hge2
                subst hge1 hge2
                have hgm := hgc m hmN
                by_cases hec : (flat (ls.take (m + 1))).length ≤ c
                · obtain ⟨E, hE⟩ : ∃ E, E = (flat (ls.take (m + 1))).length := ⟨_, rfl⟩
                  rw [← hE] at hgm hec
                  have hec' : (E : Int) ≤ c := by omega
                  have HE : Hid (E = (flat (ls.take (m + 1))).length) := hE
                  clear hE hgc
                  go_wp2
                  go_roundw
                  case rel => exact ⟨m + 1, by omega, by go_num, by rw [← HE.out], by rw [← HE.out]; exact hec, by trivial⟩
                  case measure => simp [intOf]; omega
                · obtain ⟨E, hE⟩ : ∃ E, E = (flat (ls.take (m + 1))).length := ⟨_, rfl⟩
                  have hec0 := hec
                  rw [← hE] at hgm hec
                  have hec' : ¬ (E : Int) ≤ c := by omega
                  clear hE hgc
                  have hpair := HSC.out m (by trivial) hm hmc (.inr ⟨hmN, by omega⟩)
                  injection hpair with hL1 ht1
                  have hl1 : L1.length = m := by rw [hL1, List.length_take]; omega
                  have hcl : ∀ i, i < L1.length → w4.cell? ⟨b, off + i, none⟩ = some (.string (bs (L1.getD i []))) := fun i hi => by
                    have hiN : i < ls.length := by omega
                    have hcw := HC.out i (by trivial) hiN
                    have hbw : b < w.heap.size := World.block_lt_of_cell? _ _ hcw
                    have hg : L1.getD i [] = ls.getD i [] := by rw [hL1]; simp [List.getD, show i < m by omega]
                    rw [hg]
                    exact (H4.out.2.1.cell hbw).trans hcw
                  have hsame := same16 L1 a1 ao b1 off1 b off cp1 cap w4 (H4.out.2.2.1 (by trivial)) (fun h => HA.out.1 (by trivial) (by omega)) (fun i => H4.out.2.2.2 i (by trivial)) hcl (by omega)
                  rw [hl1] at hsame
                  obtain ⟨D, hD⟩ : ∃ D, D = (flat (ls.take m)).length := ⟨_, rfl⟩
                  rw [← hD] at ht1 hmc ⊢
                  subst ht1
                  simp only [hl1]
                  have HSM : Hid (1 = 1 → Calls Try.prog 16 #[.slice a1 m cp1, .slice ao m cap] w4 fun e w' => e = .returned (.bool true) ∧ Below w4.heap.size w4 w') := fun _ => hsame
                  clear hsame hcl hD hL1 hl1 HSC
                  have hmcap : m ≤ cap := by omega
                  cases ao with
                  | none =>
                    have hcap0 : cap = 0 := HA.out.2 (by trivial) rfl
                    subst hcap0
                    obtain rfl : m = 0 := by omega
                    go_wp2_with (go_at_call 16; refine (HSM.out (by trivial)).mono ?_; rintro e w5 ⟨rfl, hb5⟩; have H5 : Hid (Below w.heap.size w w5) := H4.out.2.1.trans (hb5.mono H4.out.2.1.size); clear hb5)
                    go_ret
                    exact ⟨rfl, H5.out⟩
                  | some ad =>
                    go_wp2_with (go_at_call 16; refine (HSM.out (by trivial)).mono ?_; rintro e w5 ⟨rfl, hb5⟩; have H5 : Hid (Below w.heap.size w w5) := H4.out.2.1.trans (hb5.mono H4.out.2.1.size); clear hb5)
                    go_ret
                    exact ⟨rfl, H5.out⟩
              · have hmN' : ¬ (m : Int) < ls.length := by omega
                have hpair := HSC.out m (by trivial) hm hmc (.inl ⟨by omega, hcA'⟩)
                injection hpair with hL1 ht1
                have hl1 : L1.length = m := by rw [hL1, List.length_take]; omega
                have hcl : ∀ i, i < L1.length → w4.cell? ⟨b, off + i, none⟩ = some (.string (bs (L1.getD i []))) := fun i hi => by
                  have hiN : i < ls.length := by omega
                  have hcw := HC.out i (by trivial) hiN
                  have hbw : b < w.heap.size := World.block_lt_of_cell? _ _ hcw
                  have hg : L1.getD i [] = ls.getD i [] := by rw [hL1]; simp [List.getD, show i < m by omega]
                  rw [hg]
                  exact (H4.out.2.1.cell hbw).trans hcw
                have hsame := same16 L1 a1 ao b1 off1 b off cp1 cap w4 (H4.out.2.2.1 (by trivial)) (fun h => HA.out.1 (by trivial) (by omega)) (fun i => H4.out.2.2.2 i (by trivial)) hcl (by omega)
                rw [hl1] at hsame
                obtain ⟨D, hD⟩ : ∃ D, D = (flat (ls.take m)).length := ⟨_, rfl⟩
                rw [← hD] at ht1 hmc ⊢
                subst ht1
                simp only [hl1]
                have HSM : Hid (1 = 1 → Calls Try.prog 16 #[.slice a1 m cp1, .slice ao m cap] w4 fun e w' => e = .returned (.bool true) ∧ Below w4.heap.size w4 w') := fun _ => hsame
                clear hsame hcl hD hL1 hl1 HSC
                have hmcap : m ≤ cap := by omega
                cases ao with
                | none =>
                  have hcap0 : cap = 0 := HA.out.2 (by trivial) rfl
                  subst hcap0
                  obtain rfl : m = 0 := by omega
                  go_wp2_with (go_at_call 16; refine (HSM.out (by trivial)).mono ?_; rintro e w5 ⟨rfl, hb5⟩; have H5 : Hid (Below w.heap.size w w5) := H4.out.2.1.trans (hb5.mono H4.out.2.1.size); clear hb5)
                  go_ret
                  exact ⟨rfl, H5.out⟩
                | some ad =>
                  go_wp2_with (go_at_call 16; refine (HSM.out (by trivial)).mono ?_; rintro e w5 ⟨rfl, hb5⟩; have H5 : Hid (Below w.heap.size w w5) := H4.out.2.1.trans (hb5.mono H4.out.2.1.size); clear hb5)
                  go_ret
                  exact ⟨rfl, H5.out⟩

end Go.Proofs.Ytncjcipbkeljdaa
