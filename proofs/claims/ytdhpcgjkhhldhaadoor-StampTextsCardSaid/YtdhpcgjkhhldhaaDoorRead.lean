/-
  The contract of the document's own reading of a stamp's text.
-/
import Derived.Test.YtdhpcgjkhhldhaaDoorNum
import Derived.Lib.Hide
namespace Go.Proofs.YtdhpcgjkhhldhaaDoor
open Go.RowKit Go.Lib

set_option maxHeartbeats 1000000 in
theorem refread18 (s : ByteArray) (w : World) (hs : s.size ≤ 140737488355328) (a b c : Int) (hr : Hid (rdS s.data.toList = (a, b, c))) :
    Calls Tryd.prog 18 #[.string s] w fun e w' => e = .returned (.tuple #[.agg #[.int .u64 a, .int .u32 b], .int .i64 c]) ∧ Below w.heap.size w w' := by
  go_enter Tryd.func18, Tryd.ntmps18
  go_wp2
  go_loop [4] (fun i => ∃ k : Nat, k ≤ s.size ∧ i = .int .i64 k ∧ ∀ x ∈ s.data.toList.take k, x ≠ 46) (fun i => s.size - (intOf i).toNat)
  case atStart => exact ⟨0, Nat.zero_le _, rfl, by simp⟩
  case round =>
    obtain ⟨k, hk, rfl, hd⟩ := hrel
    have HD : Hid (∀ x ∈ s.data.toList.take k, x ≠ 46) := hd
    clear hd
    by_cases hlt : k < s.size
    · by_cases hp : s[k].toNat = 46
      · have hp1 : ((s[k].toNat : Int) != 46) = false := by simp; omega
        clear hp
        have hk46 : s[k] = 46 := by
          apply UInt8.toNat_inj.1
          have h46 : (46 : UInt8).toNat = 46 := rfl
          simp at hp1
          omega
        have HS : Hid (s.data.toList = s.data.toList.take k ++ 46 :: s.data.toList.drop (k + 1)) := by
          show s.data.toList = s.data.toList.take k ++ 46 :: s.data.toList.drop (k + 1)
          rw [← hk46]
          have : s[k] = s.data.toList[k]'(by rw [len_data]; exact hlt) := rfl
          rw [this, List.getElem_cons_drop, List.take_append_drop]
        have HF : Hid ((if numB (s.data.toList.take k) = true ∧ numB (s.data.toList.drop (k + 1)) = true ∧ valF 0 (s.data.toList.take k) ≤ 281474976710656 ∧ valF 0 (s.data.toList.drop (k + 1)) ≤ 4095 then ((valF 0 (s.data.toList.take k) : Int), (valF 0 (s.data.toList.drop (k + 1)) : Int), (0 : Int)) else (0, 0, 2)) = (a, b, c)) := by
          show _ = _
          rw [← rdS_split _ _ HD.out, ← HS.out]
          exact hr.out
        clear hk46
        have HX : Hid ((s.extract 0 k).data.toList = s.data.toList.take k) := by
          show _ = _
          rw [extract_data]; simp
        have HY : Hid ((s.extract (k + 1) s.size).data.toList = s.data.toList.drop (k + 1)) := by
          show _ = _
          rw [extract_data]
          exact List.take_of_length_le (by rw [List.length_drop, len_data]; exact Nat.le_refl _)
        generalize hX : s.data.toList.take k = X at *
        generalize hY : s.data.toList.drop (k + 1) = Y at *
        clear hX hY HD HS
        have fin0 : ¬ (numB X = true ∧ numB Y = true ∧ valF 0 X ≤ 281474976710656 ∧ valF 0 Y ≤ 4095) → a = 0 ∧ b = 0 ∧ c = 2 := fun h => by
          have := HF.out
          rw [if_neg h] at this
          simp only [Prod.mk.injEq] at this
          exact ⟨this.1.symm, this.2.1.symm, this.2.2.symm⟩
        have FIN := hid fin0
        clear fin0
        cases h1 : numB X
        · obtain ⟨ea, eb, ec⟩ := FIN.out (by simp [h1])
          have EA := hid ea
          have EB := hid eb
          have EC := hid ec
          clear ea eb ec
          have H1 := hid h1
          clear h1
          go_wp2_with fail
          refine (num24_f _ _ (by rw [HX.out]; exact H1.out)).mono ?_
          rintro e w1 ⟨rfl, rfl⟩
          go_wp2_with fail
          refine (num24 _ _).mono ?_
          rintro e w1 ⟨rfl, rfl⟩
          go_wp2
          all_goals exact bodyPost_ret (v := .tuple #[.agg #[.int .u64 0, .int .u32 0], .int .i64 2]) (by simp [results, Tryd.results18, go_sem]) rfl ⟨by rw [EA.out, EB.out, EC.out], (Below.refl _ _).alloc (Nat.le_refl _) _⟩
        · cases h2 : numB Y
          · obtain ⟨ea, eb, ec⟩ := FIN.out (by simp [h2])
            have EA := hid ea
            have EB := hid eb
            have EC := hid ec
            clear ea eb ec
            have H1 := hid h1
            have H2 := hid h2
            clear h1 h2
            go_wp2_with fail
            refine (num24_t _ _ (valF 0 X) (by rw [HX.out]; exact H1.out) (by rw [HX.out])).mono ?_
            rintro e w1 ⟨rfl, rfl⟩
            go_wp2_with fail
            refine (num24_f _ _ (by rw [HY.out]; exact H2.out)).mono ?_
            rintro e w1 ⟨rfl, rfl⟩
            go_wp2
            exact bodyPost_ret (v := .tuple #[.agg #[.int .u64 0, .int .u32 0], .int .i64 2]) (by simp [results, Tryd.results18, go_sem]) rfl ⟨by rw [EA.out, EB.out, EC.out], (Below.refl _ _).alloc (Nat.le_refl _) _⟩
          · by_cases h3 : valF 0 X ≤ 281474976710656 ∧ valF 0 Y ≤ 4095
            · have hok : a = (valF 0 X : Int) ∧ b = (valF 0 Y : Int) ∧ c = 0 := by
                have := HF.out
                rw [if_pos ⟨h1, h2, h3.1, h3.2⟩] at this
                simp only [Prod.mk.injEq] at this
                exact ⟨this.1.symm, this.2.1.symm, this.2.2.symm⟩
              obtain ⟨ea, eb, ec⟩ := hok
              have EA := hid ea
              have EB := hid eb
              have EC := hid ec
              clear ea eb ec
              obtain ⟨h3, h4⟩ := h3
              have H1 := hid h1
              have H2 := hid h2
              clear h1 h2
              go_wp2_with fail
              refine (num24_t _ _ (valF 0 X) (by rw [HX.out]; exact H1.out) (by rw [HX.out])).mono ?_
              rintro e w1 ⟨rfl, rfl⟩
              go_wp2_with fail
              refine (num24_t _ _ (valF 0 Y) (by rw [HY.out]; exact H2.out) (by rw [HY.out])).mono ?_
              rintro e w1 ⟨rfl, rfl⟩
              go_wp2
              exact bodyPost_ret (v := .tuple #[.agg #[.int .u64 (valF 0 X), .int .u32 (valF 0 Y)], .int .i64 0]) (by simp [results, Tryd.results18, go_sem]) rfl ⟨by rw [EA.out, EB.out, EC.out], (Below.refl _ _).alloc (Nat.le_refl _) _⟩
            · obtain ⟨ea, eb, ec⟩ := FIN.out (fun h => h3 h.2.2)
              have EA := hid ea
              have EB := hid eb
              have EC := hid ec
              clear ea eb ec
              have H1 := hid h1
              have H2 := hid h2
              clear h1 h2
              have h4 : (281474976710656 : Int) < (valF 0 X : Int) ∨ (¬ (281474976710656 : Int) < (valF 0 X : Int) ∧ (4095 : Int) < (valF 0 Y : Int)) := by omega
              clear h3
              rcases h4 with h4 | ⟨h4, h5⟩
              all_goals
                go_wp2_with fail
                refine (num24_t _ _ (valF 0 X) (by rw [HX.out]; exact H1.out) (by rw [HX.out])).mono ?_
                rintro e w1 ⟨rfl, rfl⟩
                go_wp2_with fail
                refine (num24_t _ _ (valF 0 Y) (by rw [HY.out]; exact H2.out) (by rw [HY.out])).mono ?_
                rintro e w1 ⟨rfl, rfl⟩
                go_wp2
                exact bodyPost_ret (v := .tuple #[.agg #[.int .u64 0, .int .u32 0], .int .i64 2]) (by simp [results, Tryd.results18, go_sem]) rfl ⟨by rw [EA.out, EB.out, EC.out], (Below.refl _ _).alloc (Nat.le_refl _) _⟩
      · have hp1 : ((s[k].toNat : Int) != 46) = true := by simp; omega
        have HP := hid hp
        clear hp
        go_wp2_with fail
        go_round
        case rel =>
          refine ⟨k + 1, by omega, by go_num, ?_⟩
          rw [take_snoc s k hlt]
          intro x hx
          simp only [List.mem_append, List.mem_singleton] at hx
          rcases hx with hx | rfl
          · exact HD.out x hx
          · intro e
            apply HP.out
            rw [e]
            rfl
        case measure => simp [intOf]; omega
    · have hkk : s.data.toList.take k = s.data.toList := List.take_of_length_le (by rw [len_data]; omega)
      rw [hkk] at HD
      have h0 := rdS_none _ HD.out
      have h1 := hr.out
      rw [h0] at h1
      simp only [Prod.mk.injEq] at h1
      obtain ⟨rfl, rfl, rfl⟩ := h1
      go_wp2
      exact bodyPost_ret (v := .tuple #[.agg #[.int .u64 0, .int .u32 0], .int .i64 2]) (by simp [results, Tryd.results18, go_sem]) rfl ⟨rfl, (Below.refl _ _).alloc (Nat.le_refl _) _⟩
end Go.Proofs.YtdhpcgjkhhldhaaDoor
