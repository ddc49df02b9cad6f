/-
  The walk of PackLists: of every list of texts that together are not too long it answers true, and turns no memory that was there.
-/
import Derived.Test.YtgkbefeiknfjcaaBack
import Derived.Test.YtgkbefeiknfjcaaOneWay
namespace Go.Proofs.Ytgkbefeiknfjcaa
open Go.RowKit

theorem num_more (n most : Nat) (R : List UInt8) (hn : n < 18446744073709551616) (hm : most < n) : rdNum most ⟨numForm n ++ R, 0⟩ = (0, ⟨[], 3⟩) := by
  have hf := first_take n (sz n + R.length) R hn
  have hl := numForm_length n
  rw [if_neg (by omega), List.take_of_length_le (by rw [List.length_append]; omega)] at hf
  unfold rdNum
  dsimp only
  rw [if_neg (by simp), hf]
  dsimp only
  rw [if_neg (by simp), if_pos hm]

def tot (ls : List (List UInt8)) : Nat := (ls.map List.length).sum
def body (ls : List (List UInt8)) : List UInt8 := ls.flatMap textForm

theorem tot_cons (s : List UInt8) (ls : List (List UInt8)) : tot (s :: ls) = s.length + tot ls := by simp [tot]
theorem tot_take (ls : List (List UInt8)) (k : Nat) : tot (ls.take k) ≤ tot ls := by
  induction ls generalizing k with
  | nil => simp
  | cons s ls ih =>
    cases k with
    | zero => exact Nat.zero_le _
    | succ k => rw [List.take_succ_cons, tot_cons, tot_cons]; have := ih k; omega
theorem tot_snoc (ls : List (List UInt8)) (s : List UInt8) : tot (ls ++ [s]) = tot ls + s.length := by simp [tot]
theorem body_snoc (ls : List (List UInt8)) (s : List UInt8) : body (ls ++ [s]) = body ls ++ textForm s := by simp [body]
theorem body_cons (ls : List (List UInt8)) (s : List UInt8) : body (s :: ls) = textForm s ++ body ls := by simp [body]
theorem get_le (ls : List (List UInt8)) (k : Nat) : (ls.getD k []).length ≤ tot ls := by
  induction ls generalizing k with
  | nil => simp
  | cons s ls ih =>
    rw [tot_cons]
    cases k with
    | zero => simp
    | succ k => have := ih k; simp only [List.getD_cons_succ]; omega
theorem take_more (ls : List (List UInt8)) (k : Nat) (h : k < ls.length) : ls.take (k + 1) = ls.take k ++ [ls.getD k []] := by
  rw [List.take_add_one]
  simp [List.getElem?_eq_getElem h, List.getD]
theorem drop_more (ls : List (List UInt8)) (k : Nat) (h : k < ls.length) : ls.drop k = ls.getD k [] :: ls.drop (k + 1) := by
  rw [List.drop_eq_getElem_cons h]
  simp [List.getD, List.getElem?_eq_getElem h]
theorem body_len (ls : List (List UInt8)) (h : tot ls < 1000000000) : (body ls).length ≤ 9 * ls.length + tot ls := by
  induction ls with
  | nil => simp [body]
  | cons s ls ih =>
    rw [tot_cons] at h ⊢
    rw [body_cons, List.length_append, textForm, List.length_append, numForm_length]
    have := sz_le (n := s.length) (by omega)
    have := ih (by omega)
    simp only [List.length_cons]
    omega

theorem body_split (ls : List (List UInt8)) (k : Nat) : body ls = body (ls.take k) ++ body (ls.drop k) := by rw [body, body, body, ← List.flatMap_append, List.take_append_drop]

theorem Sole.on {rb : Nat} {w w' : World} (h : Sole rb w w') (hr : w.heap.size ≤ rb) : Below w.heap.size w w' := h.below hr (Nat.le_refl _)

set_option maxHeartbeats 1000000 in
theorem lists8 (ls : List (List UInt8)) (ao : Option Addr) (b off cap : Nat) (w : World) (hao : 0 < ls.length → ao = some ⟨b, off, none⟩)
    (hcell : ∀ i, i < ls.length → w.cell? ⟨b, off + i, none⟩ = some (.string (bs (ls.getD i [])))) (hN : ls.length ≤ 1048576) (hT : tot ls ≤ 1048576) :
    Calls Try.prog 8 #[.slice ao ls.length cap] w fun e w' => e = .returned (.bool true) ∧ Below w.heap.size w w' := by
  have HC : Hid (∀ i, 1 = 1 → i < ls.length → w.cell? ⟨b, off + i, none⟩ = some (.string (bs (ls.getD i [])))) := fun i _ h => hcell i h
  have HA : Hid (1 = 1 → 0 < ls.length → ao = some ⟨b, off, none⟩) := fun _ => hao
  clear hcell hao
  have hfl := numForm_length ls.length
  have hsl := sz_le (n := ls.length) (by omega)
  have hbody : ∀ k, (body (ls.take k)).length ≤ 9 * ls.length + 1048576 := fun k => by
    have h1 := tot_take ls k
    have h2 := body_len (ls.take k) (by omega)
    have h3 : (ls.take k).length ≤ ls.length := by rw [List.length_take]; omega
    omega
  have HBD : Hid (∀ k, 1 = 1 → (body (ls.take k)).length ≤ 9 * ls.length + 1048576) := fun k _ => hbody k
  clear hbody
  go_enter Try.func8, Try.ntmps8
  go_wp2_with (go_at_call 9; refine (awake9 _).mono ?_; rintro e w1 ⟨rfl, hb⟩; have HB : Hid (Below w.heap.size w w1) := hb; clear hb)
  obtain ⟨pb, hpb⟩ : ∃ pb, pb = w1.heap.size := ⟨_, rfl⟩
  have hwp : w.heap.size ≤ pb := by rw [hpb]; exact HB.out.size
  have hA := num10 pb [] ls.length (w1.alloc (.cells #[.slice none 0 0] 27)) (by omega) (by rw [hpb]; exact wr_new w1) (by simp)
  rw [← hpb]
  refine hA.mono ?_
  clear hA
  rintro e w2 ⟨rfl, h1, k1⟩
  rw [List.nil_append] at h1
  have H2 : Hid (WrAt pb (numForm ls.length) w2 ∧ Below w.heap.size w w2) := ⟨h1, HB.out.trans ((((Below.refl _ _).alloc (by omega) _).trans k1.below).mono hwp)⟩
  clear h1 k1 HB hpb
  go_wp2_with fail
  go_loopw [4, 22] (fun n i wr => ∃ k : Nat, k ≤ ls.length ∧ i = .int .i64 k ∧ n = .int .i64 (tot (ls.take k)) ∧ WrAt pb (numForm ls.length ++ body (ls.take k)) wr ∧ Below w.heap.size w wr) (fun _ i _ => ls.length - (intOf i).toNat)
  case atStart => exact ⟨0, Nat.zero_le _, rfl, rfl, by rw [List.take_zero]; simpa [body] using H2.out.1, H2.out.2⟩
  case round =>
    obtain ⟨k, hk, rfl, rfl, hwr, hbel⟩ := hrel
    have H3 : Hid (WrAt pb (numForm ls.length ++ body (ls.take k)) wr ∧ Below w.heap.size w wr) := ⟨hwr, hbel⟩
    clear hwr hbel H2
    by_cases hkl : k < ls.length
    · obtain ⟨s, hs⟩ : ∃ s, s = ls.getD k [] := ⟨_, rfl⟩
      have hcw := HC.out k (by trivial) hkl
      have hbw : b < w.heap.size := World.block_lt_of_cell? _ _ hcw
      have hcr : wr.cell? ⟨b, off + k, none⟩ = some (.string (bs s)) := by rw [hs]; exact (H3.out.2.cell hbw).trans hcw
      obtain rfl : ao = some ⟨b, off, none⟩ := HA.out (by trivial) (by omega)
      have hs1 : s.length ≤ 1048576 := by rw [hs]; have := get_le ls k; omega
      have htk := tot_take ls k
      have HS : Hid (s = ls.getD k []) := hs
      obtain ⟨T, hTk⟩ : ∃ T, T = tot (ls.take k) := ⟨_, rfl⟩
      rw [← hTk] at htk ⊢
      have HTk : Hid (T = tot (ls.take k)) := hTk
      have hbs := bs_size s
      clear hcw hs hTk
      go_wp2_with fail
      refine (text12 pb _ (bs s) _ H3.out.1 (by rw [List.length_append, bs_size]; have := HBD.out k (by trivial); omega)).mono ?_
      rintro e w3 ⟨rfl, h1, k1⟩
      rw [bs_size, bs_data] at h1
      have H4 : Hid (WrAt pb (numForm ls.length ++ body (ls.take (k + 1))) w3 ∧ Below w.heap.size w w3) := by
        refine ⟨?_, H3.out.2.trans (k1.below.mono hwp)⟩
        rw [take_more ls k hkl, body_snoc, ← HS.out, ← List.append_assoc]
        exact h1
      clear h1 k1 H3 hcr
      go_wp2
      go_roundw
      case rel => exact ⟨k + 1, by omega, by go_num, by rw [take_more ls k hkl, tot_snoc, ← HS.out, ← HTk.out]; go_num, H4.out.1, H4.out.2⟩
      case measure => simp [intOf]; omega
    · obtain rfl : k = ls.length := by omega
      rw [List.take_length] at H3 ⊢
      by_cases g1 : (100 : Int) < ls.length
      · go_wp2
        go_ret
        exact ⟨rfl, H3.out.2⟩
      · by_cases g2 : (3000 : Int) < tot ls
        · go_wp2
          go_ret
          exact ⟨rfl, H3.out.2⟩
        · go_wp2_with (go_at_call 18; refine (bytes18 pb _ _ H3.out.1).mono ?_; rintro e w3 ⟨rfl, rfl⟩)
          refine (new19 _ _).mono ?_
          rintro e w4 ⟨rfl, h1, k1⟩
          obtain ⟨rb, hrb⟩ : ∃ rb, rb = wr.heap.size := ⟨_, rfl⟩
          have hrp : pb < rb := by rw [hrb]; exact H3.out.1.lt
          have hbl : (body ls).length ≤ 9 * ls.length + tot ls := body_len ls (by omega)
          have H4 : Hid (WrAt pb (numForm ls.length ++ body ls) w4 ∧ RdAt 66 rb ⟨numForm ls.length ++ body ls, 0⟩ w4 ∧ Below w.heap.size w w4) :=
            ⟨H3.out.1.on k1, by rw [hrb]; exact h1, H3.out.2.trans (k1.mono H3.out.2.size)⟩
          rw [← hrb]
          clear h1 k1 H3 hrb
          go_wp2_with fail
          have hA := count30 rb _ 100 _ H4.out.2.1 (by dsimp only; rw [List.length_append]; omega) (by decide) (by decide)
          rw [show (100 : Int).toNat = 100 from rfl, num_form ls.length 100 _ (by omega) (by omega)] at hA
          refine hA.mono ?_
          clear hA
          rintro e w5 ⟨rfl, h1, k1⟩
          have H5 : Hid (WrAt pb (numForm ls.length ++ body ls) w5 ∧ RdAt 66 rb ⟨body ls, 0⟩ w5 ∧ Below w.heap.size w w5) :=
            ⟨H4.out.1.sole H4.out.2.1 k1, h1, H4.out.2.2.trans (k1.below (by omega) H4.out.2.2.size)⟩
          clear h1 k1 H4
          dsimp only
          go_wp2_with fail
          go_loopw [51] (fun i wr => ∃ k : Nat, k ≤ ls.length ∧ i = .int .i64 k ∧ WrAt pb (numForm ls.length ++ body ls) wr ∧ RdAt 66 rb ⟨body (ls.drop k), 0⟩ wr ∧ Below w.heap.size w wr) (fun i _ => ls.length - (intOf i).toNat)
          case atStart => exact ⟨0, Nat.zero_le _, rfl, H5.out.1, by rw [List.drop_zero]; exact H5.out.2.1, H5.out.2.2⟩
          case round =>
            obtain ⟨k, hk, rfl, hwr, hrd, hbel⟩ := hrel
            have H6 : Hid (WrAt pb (numForm ls.length ++ body ls) wr ∧ RdAt 66 rb ⟨body (ls.drop k), 0⟩ wr ∧ Below w.heap.size w wr) := ⟨hwr, hrd, hbel⟩
            clear hwr hrd hbel H5
            by_cases hkl : k < ls.length
            · obtain ⟨s, hs⟩ : ∃ s, s = ls.getD k [] := ⟨_, rfl⟩
              have hcw := HC.out k (by trivial) hkl
              have hbw : b < w.heap.size := World.block_lt_of_cell? _ _ hcw
              have hcr : wr.cell? ⟨b, off + k, none⟩ = some (.string (bs s)) := by rw [hs]; exact (H6.out.2.2.cell hbw).trans hcw
              obtain rfl : ao = some ⟨b, off, none⟩ := HA.out (by trivial) (by omega)
              have hs1 : s.length ≤ tot ls := by rw [hs]; exact get_le ls k
              have hbd : (body (ls.drop k)).length ≤ (body ls).length := by
                rw [body_split ls k, List.length_append]; omega
              have HS : Hid (s = ls.getD k []) := hs
              clear hcw hs
              go_wp2_with fail
              have hA := text21 rb _ 0 3000 wr H6.out.2.1 (by dsimp only; omega) (by decide) (by decide) (by decide) (by decide)
              rw [drop_more ls k hkl, ← HS.out, body_cons, text_form s _ 0 3000 (by omega) (by omega) (by omega)] at hA
              refine hA.mono ?_
              clear hA
              rintro e w6 ⟨rfl, h1, k1⟩
              have H7 : Hid (WrAt pb (numForm ls.length ++ body ls) w6 ∧ RdAt 66 rb ⟨body (ls.drop (k + 1)), 0⟩ w6 ∧ Below w.heap.size w w6) :=
                ⟨H6.out.1.sole H6.out.2.1 k1, h1, H6.out.2.2.trans (k1.below (by omega) H6.out.2.2.size)⟩
              clear h1 k1 H6 hcr
              dsimp only
              go_wp2
              go_roundw
              case rel => exact ⟨k + 1, by omega, by go_num, H7.out.1, H7.out.2.1, H7.out.2.2⟩
              case measure => simp [intOf]; omega
            · obtain rfl : k = ls.length := by omega
              rw [List.drop_length] at H6
              have hE : rdEnd ⟨body [], 0⟩ = 0 := rfl
              go_wp2_with (go_at_call 18; refine (bytes18 pb _ _ H6.out.1).mono ?_; rintro e w6 ⟨rfl, rfl⟩)
              refine (new19 _ _).mono ?_
              rintro e w7 ⟨rfl, h1, k1⟩
              obtain ⟨fb, hfb⟩ : ∃ fb, fb = wr.heap.size := ⟨_, rfl⟩
              have hrf : rb < fb := by rw [hfb]; exact H6.out.2.1.lt
              have H7 : Hid (RdAt 66 rb ⟨body [], 0⟩ w7 ∧ RdAt 66 fb ⟨numForm ls.length ++ body ls, 0⟩ w7 ∧ Below w.heap.size w w7) :=
                ⟨H6.out.2.1.on k1, by rw [hfb]; exact h1, H6.out.2.2.trans (k1.mono H6.out.2.2.size)⟩
              rw [← hfb]
              clear h1 k1 H6 hfb
              by_cases hz : ls.length = 0
              · have hz' : ((ls.length : Int) == 0) = true := by simp [hz]
                go_wp2_with (go_at_call 25; refine (end25 rb _ _ H7.out.1).mono ?_; rintro e w8 ⟨rfl, rfl⟩)
                go_ret
                exact ⟨rfl, H7.out.2.2⟩
              · have hz' : ((ls.length : Int) == 0) = false := by simp; simpa using hz
                go_wp2_with (go_at_call 25; refine (end25 rb _ _ H7.out.1).mono ?_; rintro e w8 ⟨rfl, rfl⟩)
                have hA := count30 fb _ ((ls.length : Int) - 1) _ H7.out.2.1 (by dsimp only; rw [List.length_append]; omega) (by omega) (by omega)
                rw [num_more ls.length _ _ (by omega) (by omega)] at hA
                refine hA.mono ?_
                clear hA
                rintro e w9 ⟨rfl, h1, k1⟩
                have H8 : Hid (RdAt 66 fb ⟨[], 3⟩ w9 ∧ Below w.heap.size w w9) := ⟨h1, H7.out.2.2.trans (k1.below (by omega) H7.out.2.2.size)⟩
                clear h1 k1 H7
                dsimp only
                go_wp2_with (go_at_call 32; refine (err32 fb _ _ H8.out.1).mono ?_; rintro e w8 ⟨rfl, rfl⟩)
                go_ret
                exact ⟨rfl, H8.out.2⟩

end Go.Proofs.Ytgkbefeiknfjcaa
