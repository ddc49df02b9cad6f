/-
  Contract of frame.Next: the frame with which bytes begin, or why there is none.
-/
import Derived.Test.YtjjdmeemhgopbaaWrap
import Derived.Test.YtjjdmeemhgopbaaAwake
import Derived.BigQuiet
import Derived.Deep.QuietTactic
import Derived.Lib.QuietBelow
namespace Go.Proofs.Ytjjdmeemhgopbaa
open Go.RowKit Go.Sort

theorem bs_mid (l : List UInt8) (a b : Nat) : (bs l).extract a b = bs ((l.drop a).take (b - a)) := by
  apply bs_eq
  rw [Lib.extract_data, bs_data]

theorem below_drewN {B : Nat} {a w : World} (h : Below B a w) (n : Nat) : Below B a (w.drewN n) := ⟨h.os, h.tape, h.output, h.size, h.block⟩

/-- What Next answers. -/
def nextVal (x : List UInt8 × Nat × Nat) : Value := .tuple #[.string (bs x.1), .int .i64 x.2.1, .int .i64 x.2.2]

set_option maxHeartbeats 1600000 in
theorem next10 (l : List UInt8) (w : World) (hl : l.length < 9223372036854775807) :
    Calls Try.prog 86 #[.string (bs l)] w fun e w' => e = .returned (nextVal (rdNext l)) ∧ Below w.heap.size w w' := by
  cases l with
  | nil =>
    have hb := bs_nil_empty
    go_enter Try.func86, Try.ntmps86
    go_wp2
    go_ret3
    exact ⟨rfl, Below.refl _ _⟩
  | cons b r =>
    have hb : (bs (b :: r)).toList.isEmpty = false := by rw [bs_empty]; rfl
    have hsz : (bs (b :: r)).size = r.length + 1 := by rw [bs_size]; rfl
    have hsz0 : 0 < (bs (b :: r)).size := by omega
    have hget : (bs (b :: r))[0]'hsz0 = b := rfl
    have hb256 := u8_lt b
    have hl2 : r.length + 1 < 9223372036854775807 := hl
    by_cases hb0 : b.toNat = 215
    · have hb0' : ((b.toNat : Int) != (((⟨#[215]⟩ : ByteArray)[0]'(by decide)).toNat : Int)) = false := by
        rw [show (((⟨#[215]⟩ : ByteArray)[0]'(by decide)).toNat) = 215 from rfl]; simp; omega
      have hbe : b = 215 := UInt8.toNat.inj hb0
      have hdr := bs_drop (b :: r) 1
      rw [hsz, List.drop_succ_cons, List.drop_zero] at hdr
      have hdef : rdNext (b :: r) = if (rdText 0 16384 ⟨r, 0⟩).2.e ≠ 0 then ([], 0, (rdText 0 16384 ⟨r, 0⟩).2.e) else
          if (rdText 0 16384 ⟨r, 0⟩).2.l.length < 4 then ([], 0, 4) else
          if (rdText 0 16384 ⟨r, 0⟩).2.l.take 4 ≠ four (crc (textForm (rdText 0 16384 ⟨r, 0⟩).1)) then ([], 0, 5) else
          ((rdText 0 16384 ⟨r, 0⟩).1, (frameOf (rdText 0 16384 ⟨r, 0⟩).1).length, 0) := by
        rw [rdNext, if_neg (by simp), if_neg (by simp [hbe])]
        rfl
      have hok := fun h => (text_ok (least := 0) (most := 16384) (st := ⟨r, 0⟩) h).2
      have htx := fun rb w h => text21 rb ⟨r, 0⟩ 0 16384 w h (by show r.length < _; omega) (by decide) (by decide) (by decide) (by decide)
      obtain ⟨⟨p, L, x⟩, hf⟩ : ∃ f, f = rdText 0 16384 ⟨r, 0⟩ := ⟨_, rfl⟩
      rw [← hf] at hdef hok htx
      dsimp only at hdef hok htx
      clear hf
      have HD : Hid _ := hdef
      have HOK : Hid (x = 0 → r = textForm p ++ L) := hok
      have HT : Hid (∀ rb w, RdAt 144 rb ⟨r, 0⟩ w → Calls Try.prog 93 #[.pointer (some ⟨rb, 0, none⟩), .int .i64 0, .int .i64 16384] w fun e w' => e = .returned (.string (bs p)) ∧ RdAt 144 rb ⟨L, x⟩ w' ∧ Sole rb w w') := htx
      clear hdef hok htx hbe hb0
      go_enter Try.func86, Try.ntmps86
      go_wp2_with fail
      go_quiet (fail)
      go_wp2_with fail
      refine (new19 r _).mono ?_
      rintro e w1 ⟨rfl, h1, k1⟩
      obtain ⟨rb, hrb⟩ : ∃ rb, rb = w.heap.size := ⟨_, rfl⟩
      simp only [World.heap_drewN, ← hrb] at h1 k1 ⊢
      have H1 : Hid (RdAt 144 rb ⟨r, 0⟩ w1 ∧ Below rb w w1) := ⟨h1, (below_drewN (Below.refl _ _) _).trans k1⟩
      have HRB : Hid (rb = w.heap.size) := hrb
      clear h1 k1 hrb
      go_wp2_with fail
      refine (HT.out rb _ H1.out.1).mono ?_
      rintro e w2 ⟨rfl, h1, k1⟩
      have H2 : Hid (RdAt 144 rb ⟨L, x⟩ w2 ∧ Below rb w w2) := ⟨h1, H1.out.2.trans (k1.below (Nat.le_refl _) (by have := H1.out.1.lt; omega))⟩
      clear h1 k1 H1 HT
      go_wp2_with fail
      refine (err32 rb _ _ H2.out.1).mono ?_
      rintro e w3 ⟨rfl, rfl⟩
      dsimp only
      by_cases hx : x = 0
      · subst hx
        go_wp2_with fail
        refine (left24 rb _ _ H2.out.1).mono ?_
        rintro e w3 ⟨rfl, rfl⟩
        dsimp only
        by_cases hL : L.length < 4
        · have hL' : (L.length : Int) < 4 := by omega
          go_wp2
          go_ret3
          rw [HD.out, if_neg (by simp), if_pos hL, ← HRB.out]
          exact ⟨rfl, H2.out.2⟩
        · have hL' : ¬ (L.length : Int) < 4 := by omega
          have hrt := HOK.out (by trivial)
          have htl := textForm_len p
          have hrl := congrArg List.length hrt
          rw [List.length_append] at hrl
          obtain ⟨E, hE⟩ : ∃ E, E = (textForm p).length + 1 := ⟨_, rfl⟩
          have hszE : (bs (b :: r)).size = E + L.length := by omega
          have hx1 : (bs (b :: r)).extract E (E + 4) = bs (L.take 4) := by
            rw [bs_mid, hrt, hE, List.drop_succ_cons, List.drop_left, Nat.add_sub_cancel_left]
          have hx2 : (bs (b :: r)).extract 1 E = bs (textForm p) := by
            rw [bs_mid, hrt, hE, List.drop_succ_cons, List.drop_zero, Nat.add_sub_cancel, List.take_left]
          have hsl : ∀ w, Calls Try.prog 82 #[.string (bs (textForm p))] w fun e w' => e = .returned (.string (bs (four (crc (textForm p))))) ∧ Below w.heap.size w w' := fun w => by
            have := seal23 (bs (textForm p)) w (by rw [bs_size]; omega)
            rw [bs_data] at this
            exact this
          have hfl : (frameOf p).length = E + 4 := by rw [frameOf_len, hE, htl]
          have HFL : Hid ((frameOf p).length = E + 4) := hfl
          have hEb : E + L.length < 9223372036854775807 := by omega
          have hE1 : 1 ≤ E := by omega
          clear hrt htl hrl hE hsz hfl
          have HSL : Hid (∀ w, 1 = 1 → Calls Try.prog 82 #[.string (bs (textForm p))] w fun e w' => e = .returned (.string (bs (four (crc (textForm p))))) ∧ Below w.heap.size w w') := fun w _ => hsl w
          clear hsl
          go_wp2_with (go_at_call 95; refine (left24 rb _ _ H2.out.1).mono ?_; rintro e w3 ⟨rfl, rfl⟩)
          obtain ⟨F, hF⟩ : ∃ F, F = four (crc (textForm p)) := ⟨_, rfl⟩
          have cS : ∀ d os, Calls Try.prog 82 #[.string (bs (textForm p))] (grow (redrawn w2 d) os) fun e w'' => e = .returned (.string (bs F)) ∧ ∃ p : Regrown, w'' = grow (redrawn w2 p.d) p.os := fun d os => by rw [hF]; exact Calls.regrown_of (HSL.out _ (by trivial))
          have HF : Hid (F = four (crc (textForm p))) := hF
          clear hF HSL
          have h04 : (0 : Int) ≤ (E : Int) + 4 := by omega
          have hE4 : (E : Int) ≤ (E : Int) + 4 := by omega
          have htn : ((E : Int) + 4).toNat = E + 4 := by omega
          have hEL : (E : Int) ≤ (E : Int) + (L.length : Int) := by omega
          have h1E : (1 : Int) ≤ (E : Int) := by omega
          refine wp_region_quiet_below (by kernel_rfl) (by kernel_rfl) ?_
          quiet_step (fail)
          quiet_step (fail)
          quiet_step (fail)
          quiet_step (fail)
          quiet_step (fail)
          quiet_step (fail)
          quiet_step (fail)
          quiet_step (exact cS _ _)
          quiet_step (fail)
          refine wpQuiet_nil ?_
          intro _ hw'
          obtain ⟨⟨dq, osq⟩, hw''⟩ := hw'
          subst hw''
          have HB5 : Hid (Below rb w (grow (redrawn w2 dq) osq)) := H2.out.2.trans ((below_regrown w2 dq osq).mono (by have := H2.out.1.lt; omega))
          clear cS h04 hE4 htn
          by_cases hq : L.take 4 = F
          · have ht : ((bs (L.take 4)).toList == (bs F).toList) = true := by rw [toList_list, toList_list, bs_data, bs_data, hq]; simp
            have HQ : Hid (L.take 4 = F) := hq
            rw [ht]
            clear hq ht
            go_wp2
            go_ret3
            rw [HD.out, if_neg (by simp), if_neg hL, if_neg (by rw [HQ.out, HF.out]; simp), HFL.out, ← HRB.out]
            exact ⟨rfl, HB5.out⟩
          · have ht : ((bs (L.take 4)).toList == (bs F).toList) = false := by rw [toList_list, toList_list, bs_data, bs_data]; simpa using hq
            have HQ : Hid (¬ L.take 4 = F) := hq
            rw [ht]
            clear hq ht
            go_wp2
            go_ret3
            rw [HD.out, if_neg (by simp), if_neg hL, if_pos (by rw [← HF.out]; exact HQ.out), ← HRB.out]
            exact ⟨rfl, HB5.out⟩
      · have hx' : ((x : Int) != 0) = true := by simp; omega
        go_wp2
        go_ret3
        rw [HD.out, if_pos hx, ← HRB.out]
        exact ⟨rfl, H2.out.2⟩
    · have hb0' : ((b.toNat : Int) != (((⟨#[215]⟩ : ByteArray)[0]'(by decide)).toNat : Int)) = true := by
        rw [show (((⟨#[215]⟩ : ByteArray)[0]'(by decide)).toNat) = 215 from rfl]; simp; omega
      have hdef : rdNext (b :: r) = ([], 0, 2) := by
        rw [rdNext, if_neg (by simp), if_pos]
        intro e
        simp only [List.headD_cons] at e
        rw [e] at hb0
        exact hb0 rfl
      have HD : Hid _ := hdef
      clear hdef hb0
      go_enter Try.func86, Try.ntmps86
      go_wp2_with fail
      go_quiet (fail)
      go_wp2
      go_ret3
      rw [HD.out]
      exact ⟨rfl, below_drewN (Below.refl _ _) _⟩

end Go.Proofs.Ytjjdmeemhgopbaa
