/-
  Contract of the document's Next: the same plain answer.
-/
import Derived.Test.YtjjdmeemhgopbaaNext
namespace Go.Proofs.Ytjjdmeemhgopbaa
open Go.RowKit Go.Sort

theorem beq_bs {a b : List UInt8} (h : a = b) : ((bs a).toList == (bs b).toList) = true := by rw [toList_list, toList_list, bs_data, bs_data, h]; simp
theorem bne_bs {a b : List UInt8} (h : ¬ a = b) : ((bs a).toList == (bs b).toList) = false := by rw [toList_list, toList_list, bs_data, bs_data]; simpa using h

set_option maxHeartbeats 1600000 in
theorem refNext11 (l : List UInt8) (w : World) (hl : l.length < 4611686018427387904) :
    Calls Try.prog 54 #[.string (bs l)] w fun e w' => e = .returned (nextVal (rdNext l)) ∧ Below w.heap.size w w' := by
  cases l with
  | nil =>
    have hb := bs_nil_empty
    go_enter Try.func54, Try.ntmps54
    go_wp2
    go_ret3
    exact ⟨rfl, Below.refl _ _⟩
  | cons b r =>
    have hb : (bs (b :: r)).toList.isEmpty = false := by rw [bs_empty]; rfl
    have hsz : (bs (b :: r)).size = r.length + 1 := by rw [bs_size]; rfl
    have hsz0 : 0 < (bs (b :: r)).size := by omega
    have hget : (bs (b :: r))[0]'hsz0 = b := rfl
    have hb256 := u8_lt b
    have hl2 : r.length + 1 < 4611686018427387904 := hl
    by_cases hb0 : b.toNat = 215
    · have hb0' : ((b.toNat : Int) != 215) = false := by simp; omega
      have hbe : b = 215 := UInt8.toNat.inj hb0
      have hdr := bs_drop (b :: r) 1
      rw [hsz, List.drop_succ_cons, List.drop_zero] at hdr
      have hdef := next_ref r
      have hle := rdNum_le 16384 ⟨r, 0⟩
      have hnm := fun rb w h => num26 rb ⟨r, 0⟩ 16384 w h (by show r.length < _; omega)
      have hok := fun h => (num_ok (most := 16384) (st := ⟨r, 0⟩) h).2
      obtain ⟨⟨n, L, x⟩, hf⟩ : ∃ f, f = rdNum 16384 ⟨r, 0⟩ := ⟨_, rfl⟩
      rw [← hf] at hdef hle hnm hok
      dsimp only at hdef hle hnm hok
      obtain ⟨hn1, hL1, _⟩ := hle
      clear hf
      rw [← hbe] at hdef
      have HD : Hid _ := hdef
      have HOK : Hid (1 = 1 → x = 0 → r = numForm n ++ L) := fun _ => hok
      have HN : Hid (∀ rb w, RdAt 108 rb ⟨r, 0⟩ w → Calls Try.prog 55 #[.pointer (some ⟨rb, 0, none⟩), .int .u64 (16384 : Nat)] w fun e w' => e = .returned (.int .u64 n) ∧ RdAt 108 rb ⟨L, x⟩ w' ∧ Sole rb w w') := hnm
      have HBE : Hid (b = 215) := hbe
      clear hdef hok hnm hbe hb0
      go_enter Try.func54, Try.ntmps54
      go_wp2_with fail
      obtain ⟨rb, hrb⟩ : ∃ rb, rb = w.heap.size := ⟨_, rfl⟩
      have hr0 : RdAt 108 rb ⟨r, 0⟩ (w.alloc (.cells #[.string (bs r), .int .i64 0] 108)) := by rw [hrb]; exact heap_alloc_new w _
      have hb1 : Below rb w (w.alloc (.cells #[.string (bs r), .int .i64 0] 108)) := (Below.refl _ _).alloc (by omega) _
      rw [← hrb]
      have HRB : Hid (rb = w.heap.size) := hrb
      clear hrb
      refine (HN.out rb _ hr0).mono ?_
      rintro e w2 ⟨rfl, h1, k1⟩
      obtain ⟨d0, d1, g0, g1⟩ := two_cells h1
      dsimp only at d0 d1
      have H2 : Hid (RdAt 108 rb ⟨L, x⟩ w2 ∧ Below rb w w2) := ⟨h1, hb1.trans (k1.below (Nat.le_refl _) (by have := hr0.lt; omega))⟩
      clear h1 k1 HN hr0 hb1
      by_cases hx : x = 0
      · subst hx
        have hLs := bs_size L
        by_cases hL : L.length < n + 4
        · have hL' : (L.length : Int) < (n : Int) + 4 := by omega
          go_wp2
          go_ret3
          rw [HD.out, if_neg (by simp), if_pos hL, ← HRB.out]
          exact ⟨rfl, H2.out.2⟩
        · have hL' : ¬ (L.length : Int) < (n : Int) + 4 := by omega
          have hrt := congrArg List.length (HOK.out (by trivial) (by trivial))
          rw [List.length_append, numForm_length] at hrt
          have hnL : n ≤ (bs L).size := by omega
          have hnL' : n ≤ L.length := by omega
          have htk := bs_take L n
          obtain ⟨P, hP⟩ : ∃ P, P = L.take n := ⟨_, rfl⟩
          have hPl : P.length = n := by rw [hP, List.length_take]; omega
          have hFl : (frameOf P).length = sz n + n + 5 := by rw [frameOf_len, hPl]
          have c18 := fun w => refWrap18 P w (by omega)
          have hFs : (bs (frameOf P)).size = (frameOf P).length := bs_size _
          have hFr : (frameOf P).length ≤ (bs (b :: r)).size := by omega
          have hFr' : (frameOf P).length ≤ r.length + 1 := by omega
          have hbt := bs_take (b :: r) (frameOf P).length
          have hdef := HD.out
          rw [if_neg (by simp), if_neg hL, ← hP] at hdef
          rw [← hP] at htk
          obtain ⟨F, hF⟩ : ∃ F, F = frameOf P := ⟨_, rfl⟩
          rw [← hF] at hFl c18 hFs hFr hFr' hbt hdef
          obtain ⟨f, hf⟩ : ∃ f, f = F.length := ⟨_, rfl⟩
          rw [← hf] at hFl hFs hFr hFr' hbt hdef
          have HC : Hid (∀ w, 1 = 1 → Calls Try.prog 65 #[.string (bs P)] w fun e w' => e = .returned (.tuple #[.string (bs F), .int .i64 0]) ∧ Below w.heap.size w w') := fun w _ => c18 w
          obtain ⟨T, hT⟩ : ∃ T, T = (b :: r).take f := ⟨_, rfl⟩
          rw [← hT] at hbt hdef
          have HDF : Hid _ := hdef
          clear hdef c18 hF hf hP HD hrt hPl hFl HOK hT
          by_cases hq : T = F
          · have ht := beq_bs hq
            have hr := HDF.out
            rw [if_neg (by simp [hq])] at hr
            have HR : Hid _ := hr
            clear hr hq HDF
            go_wp2_with (go_at_call 65; refine (HC.out _ (by trivial)).mono ?_; rintro e w3 ⟨rfl, hb⟩; have H3 : Hid (Below rb w w3) := H2.out.2.trans (hb.mono (by have := H2.out.1.lt; omega)); clear hb)
            go_ret3
            rw [HR.out, ← HRB.out]
            exact ⟨rfl, H3.out⟩
          · have ht := bne_bs hq
            have hr := HDF.out
            rw [if_pos hq] at hr
            have HR : Hid _ := hr
            clear hr hq HDF
            go_wp2_with (go_at_call 65; refine (HC.out _ (by trivial)).mono ?_; rintro e w3 ⟨rfl, hb⟩; have H3 : Hid (Below rb w w3) := H2.out.2.trans (hb.mono (by have := H2.out.1.lt; omega)); clear hb)
            go_ret3
            rw [HR.out, ← HRB.out]
            exact ⟨rfl, H3.out⟩
      · have hx' : ((x : Int) != 0) = true := by simp; omega
        go_wp2_with fail
        go_quiet (fail)
        go_wp2
        go_ret3
        rw [HD.out, if_pos hx, ← HRB.out]
        exact ⟨rfl, below_drewN H2.out.2 _⟩
    · have hb0' : ((b.toNat : Int) != 215) = true := by simp; omega
      have hdef : rdNext (b :: r) = ([], 0, 2) := by
        rw [rdNext, if_neg (by simp), if_pos]
        intro e
        simp only [List.headD_cons] at e
        rw [e] at hb0
        exact hb0 rfl
      have HD : Hid _ := hdef
      clear hdef hb0
      go_enter Try.func54, Try.ntmps54
      go_wp2
      go_ret3
      rw [HD.out]
      exact ⟨rfl, Below.refl _ _⟩

end Go.Proofs.Ytjjdmeemhgopbaa
