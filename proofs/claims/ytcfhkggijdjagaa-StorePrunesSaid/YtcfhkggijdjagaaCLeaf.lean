/-
  Contracts of chain.fits and of the document's version: may a version be in a chain?
-/
import Derived.Test.YtcfhkggijdjagaaCBase
namespace Go.Proofs.Ytcfhkggijdjagaa
open Go.RowKit

theorem bs_empty (s : List UInt8) : (bs s).toList.isEmpty = s.isEmpty := by rw [toList_list, bs_data]
theorem below1 {w w1 : World} {o : Obj} (hb : Below (w.alloc o).heap.size (w.alloc o) w1) : Below w.heap.size w w1 :=
  ((Below.refl _ _).alloc (Nat.le_refl _) _).trans (hb.mono (by simp))

set_option maxHeartbeats 800000 in
theorem fits20 (v : Ve) (w : World) : Calls Try.prog 50 #[veV v] w fun e w' => e = .returned (.bool (vOk v)) ∧ Below w.heap.size w w' := by
  obtain ⟨p, l, c, n, s, d⟩ := v
  unfold veV
  dsimp only
  have he := bs_empty s
  have hz := bs_size s
  obtain ⟨r, hr⟩ : ∃ r, vOk ⟨p, l, c, n, s, d⟩ = r := ⟨_, rfl⟩
  rw [hr]
  have HR : Hid (r = (rightB p l && decide (s.length ≤ 256) && (!d || s.isEmpty))) := by rw [← hr]; exact rfl
  clear hr
  have HZ : Hid _ := hz
  clear hz
  cases d
  · go_enter Try.func50, Try.ntmps50
    go_wp2_with fail
    refine (rightP _ _ _).mono ?_
    rintro e w1 ⟨rfl, hb⟩
    obtain ⟨hc, hf⟩ := bcell hb
    cases hq : rightB p l
    · go_wp2
      go_ret
      exact ⟨ret_bool (by rw [HR.out, hq]; simp), below1 hb⟩
    · go_wp2
      go_ret
      exact ⟨ret_bool (by rw [HR.out, hq, HZ.out]; simp; omega), below1 hb⟩
  · cases hm : s.isEmpty
    · rw [hm] at he
      go_enter Try.func50, Try.ntmps50
      go_wp2
      go_ret
      exact ⟨ret_bool (by rw [HR.out, hm]; simp), (Below.refl _ _).alloc (Nat.le_refl _) _⟩
    · rw [hm] at he
      go_enter Try.func50, Try.ntmps50
      go_wp2_with fail
      refine (rightP _ _ _).mono ?_
      rintro e w1 ⟨rfl, hb⟩
      obtain ⟨hc, hf⟩ := bcell hb
      cases hq : rightB p l
      · go_wp2
        go_ret
        exact ⟨ret_bool (by rw [HR.out, hq]; simp), below1 hb⟩
      · go_wp2
        go_ret
        exact ⟨ret_bool (by rw [HR.out, hq, HZ.out, hm]; simp; omega), below1 hb⟩

set_option maxHeartbeats 800000 in
theorem version24 (v : Ve) (w : World) : Calls Try.prog 58 #[veV v] w fun e w' => e = .returned (.bool (vOk v)) ∧ Below w.heap.size w w' := by
  obtain ⟨p, l, c, n, s, d⟩ := v
  unfold veV
  dsimp only
  have he := bs_empty s
  have hz := bs_size s
  obtain ⟨r, hr⟩ : ∃ r, vOk ⟨p, l, c, n, s, d⟩ = r := ⟨_, rfl⟩
  rw [hr]
  have HR : Hid (r = (rightB p l && decide (s.length ≤ 256) && (!d || s.isEmpty))) := by rw [← hr]; exact rfl
  clear hr
  by_cases hs : s.length ≤ 256
  · have hs' : (((bs s).size : Int) ≤ 256) = True := by rw [hz]; simp; omega
    have HS : Hid _ := decide_eq_true hs
    clear hs hz
    cases hm : s.isEmpty <;> rw [hm] at he
    all_goals
      go_enter Try.func58, Try.ntmps58
      go_wp2_with fail
      refine (rightR _ _ _).mono ?_
      rintro e w1 ⟨rfl, hb⟩
      obtain ⟨hc, hf⟩ := bcell hb
      cases hq : rightB p l
    · go_wp2
      go_ret
      exact ⟨ret_bool (by rw [HR.out, hq]; simp), below1 hb⟩
    · cases d
      all_goals
        go_wp2
        go_ret
        exact ⟨ret_bool (by rw [HR.out, hq, HS.out, hm]; simp), below1 hb⟩
    · go_wp2
      go_ret
      exact ⟨ret_bool (by rw [HR.out, hq]; simp), below1 hb⟩
    · cases d
      all_goals
        go_wp2
        go_ret
        exact ⟨ret_bool (by rw [HR.out, hq, HS.out, hm]; simp), below1 hb⟩
  · have hs' : (((bs s).size : Int) ≤ 256) = False := by rw [hz]; simp; omega
    have HS : Hid _ := decide_eq_false hs
    clear hs hz
    go_enter Try.func58, Try.ntmps58
    go_wp2_with fail
    refine (rightR _ _ _).mono ?_
    rintro e w1 ⟨rfl, hb⟩
    obtain ⟨hc, hf⟩ := bcell hb
    cases hq : rightB p l
    · go_wp2
      go_ret
      exact ⟨ret_bool (by rw [HR.out, hq]; simp), below1 hb⟩
    · go_wp2
      go_ret
      exact ⟨ret_bool (by rw [HR.out, hq, HS.out]; simp), below1 hb⟩
end Go.Proofs.Ytcfhkggijdjagaa
