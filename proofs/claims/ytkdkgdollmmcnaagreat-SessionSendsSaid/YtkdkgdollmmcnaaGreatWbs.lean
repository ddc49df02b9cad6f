import Derived.Test.YtkdkgdollmmcnaaGreatWbr
set_option maxHeartbeats 4000000
set_option maxRecDepth 100000
set_option linter.unusedVariables false
set_option linter.unusedSimpArgs false
namespace Go.Proofs.YtkdkgdollmmcnaaGreat
open Go.RowKit Go.Sort Go.Shelf
variable {base g cap n : Nat} {w W W' : World} {S : List Wr}
theorem sym165c (N : Nat) (IH : Sym base g cap n w N) (P A B Q : List Wr) (l1 l2 : Nat) (hA : A.length = l1) (hB : B.length = l2) (hN : l1 + l2 ≤ N + 1) (h1 : 2 ≤ l1) (h2 : 2 ≤ l2) (sA : Srt A) (sB : Srt B) (hn : n ≤ 1000000) (h : Sz base g cap n w (P ++ (A ++ (B ++ Q))) W) (a m b mid : Nat) (ha : P.length = a) (hm : a + l1 = m) (hb : m + l2 = b) (hd : (a + b) / 2 = mid) (hmm : mid < m) :
  Calls Tryz.prog 165 #[.slice (some ⟨g, 0, none⟩) n cap, iw (a : Int), iw (m : Int), iw (b : Int), .func (.func 122) #[] #[]] W fun e w' => e = .returned (.tuple #[]) ∧ ∃ C, Sz base g cap n w (P ++ (C ++ Q)) w' ∧ Srt C ∧ Eqk (A ++ B) C := by
 have hl := h.len
 simp only [List.length_append, hA, hB, ha] at hl
 have H : Hid (Sz base g cap n w (P ++ (A ++ (B ++ Q))) W) := h
 have HIH : Hid (Sym base g cap n w N) := IH
 have HSA : Hid (Srt A ∧ Srt B) := ⟨sA, sB⟩
 have hb9 : b ≤ n := by omega
 obtain ⟨nn, hnn⟩ := xj (mid + m)
 obtain ⟨lo, hlo⟩ := xj (nn - b)
 obtain ⟨pp, hpp⟩ := xj (nn - 1)
 have c0 : IntKind.i64.wrap ((m : Int) - (a : Int)) = (l1 : Int) := by rw [IntKind.wrap_i64]; omega
 have c00 : ((l1 : Int) == 1) = false := by simp; omega
 have c1 : IntKind.i64.wrap ((b : Int) - (m : Int)) = (l2 : Int) := by rw [IntKind.wrap_i64]; omega
 have c11 : ((l2 : Int) == 1) = false := by simp; omega
 have hmid : ((a : Int) + (b : Int)) / 2 = (mid : Int) := by omega
 have c2 : IntKind.i64.wrap ((mid : Int) + (m : Int)) = (nn : Int) := by rw [IntKind.wrap_i64]; omega
 have c3 : IntKind.i64.wrap ((nn : Int) - 1) = (pp : Int) := by rw [IntKind.wrap_i64]; omega
 have c4 : IntKind.i64.wrap ((nn : Int) - (b : Int)) = (lo : Int) := by rw [IntKind.wrap_i64]; omega
 have hmi : (mid : Int) < (m : Int) := by omega
 have b1 : a ≤ lo ∧ lo ≤ mid ∧ mid ≤ mid ∧ mid ≤ m ∧ mid - lo ≤ l2 ∧ lo ≤ mid ∧ m < nn ∧ nn - lo ≤ b := by omega
 have b2 : lo = a ∨ mid - lo = l2 := by omega
 have b3 : mid = mid ∨ mid = a + l1 := by omega
 obtain ⟨L, hL⟩ := xj (P ++ (A ++ (B ++ Q)))
 have HLL : Hid (P ++ (A ++ (B ++ Q)) = L) := hL
 have GA : Hid (∀ t, t < l1 → L.getD (a + t) wz = A.getD t wz) := fun t ht => by
  have k := getD_app P A (B ++ Q) (t := t) (by omega)
  rw [ha, hL] at k
  exact k
 have GB : Hid (∀ t, t < l2 → L.getD (m + t) wz = B.getD t wz) := fun t ht => by
  have k := getD_app (P ++ A) B Q (t := t) (by omega)
  rw [List.length_append, ha, hA, hm, List.append_assoc, hL] at k
  exact k
 rw [hL] at H
 have hm9 : m < 1000000 ∧ b ≤ 1000000 ∧ mid < 1000000 ∧ nn < 2000000 := by omega
 have HC : Hid (∀ st, lo ≤ st → st ≤ mid → (st = lo ∨ ¬ (B.getD (mid - st) wz).key < (A.getD (st - 1 - a) wz).key) → (st = mid ∨ (B.getD (mid - st - 1) wz).key < (A.getD (st - a) wz).key) → (∀ x ∈ A.take (st - a), ∀ y ∈ B.drop (mid - st), ¬ y.key < x.key) ∧ (∀ x ∈ A.drop (st - a), ∀ y ∈ B.take (mid - st), y.key < x.key)) := fun st e1 e2 => sym_search sA sB (by omega) e1 e2 (by omega) (by omega) (by omega) (by omega) (by omega)
 clear h IH sA sB hL
 go_enter Tryz.func165, Tryz.ntmps165
 go_wp2_with fail
 go_loopw [20, 21] (fun s t wr => ∃ st r : Nat, s = iw (st : Int) ∧ t = iw (r : Int) ∧ lo ≤ st ∧ st ≤ r ∧ r ≤ mid ∧ Hid (st = lo ∨ ¬ (B.getD (mid - st) wz).key < (A.getD (st - 1 - a) wz).key) ∧ Hid (r = mid ∨ (B.getD (mid - r - 1) wz).key < (A.getD (r - a) wz).key) ∧ Hid (Sz base g cap n w L wr)) (fun s t _ => (intOf t).toNat - (intOf s).toNat)
 case atStart => exact ⟨lo, mid, rfl, rfl, Nat.le_refl _, by omega, Nat.le_refl _, .inl rfl, .inl rfl, H.out⟩
 case round =>
  obtain ⟨st, r, rfl, rfl, hs1, hs2, hs3, I1, I2, HS⟩ := hrel
  clear H c0 c00 c1 c11 c2 c3 c4
  by_cases hlt : st < r
  ·obtain ⟨q, hq⟩ := xj ((st + r) / 2)
   obtain ⟨o1, ho1⟩ := xj (pp - q)
   have hq2 : ((st : Int) + (r : Int)) / 2 = (q : Int) := by omega
   have hij : (st : Int) < (r : Int) := by omega
   have hqb : st ≤ q ∧ q < r := by omega
   have c5 : IntKind.i64.wrap ((pp : Int) - (q : Int)) = (o1 : Int) := by rw [IntKind.wrap_i64]; omega
   obtain ⟨u, gu⟩ := xj (L.getD o1 wz)
   obtain ⟨v, gv⟩ := xj (L.getD q wz)
   have HU : Hid (B.getD (mid - q - 1) wz = u) := by show _ = _; rw [← GB.out (mid - q - 1) (by omega), show m + (mid - q - 1) = o1 by omega]; exact gu
   have HV2 : Hid (A.getD (q - a) wz = v) := by show _ = _; rw [← GA.out (q - a) (by omega), show a + (q - a) = q by omega]; exact gv
   have hn1 : o1 < n := by omega
   have hn2 : q < n := by omega
   have hst9 : st < 1000000 := by omega
   have hr9 : r < 1000000 := by omega
   have SN : Hid (∀ W, Sz base g cap n w L W → W.rangeAt g (o1 * 3) (wrc u) ∧ W.rangeAt g (q * 3) (wrc v)) := fun W s => ⟨by rw [← gu]; exact s.rng hn1, by rw [← gv]; exact s.rng hn2⟩
   have C122 : Hid (∀ W, Sz base g cap n w L W → Calls Tryz.prog 122 #[.agg (wrc u).toArray, .agg (wrc v).toArray] W fun e w' => e = .returned (iw (cmpF u.key v.key)) ∧ Sz base g cap n w L w') := fun W s => (cmp122 u v W).mono fun e w' q => ⟨q.1, s.on q.2⟩
   have HD : Hid (Sz base g cap n w L wr.drew) := HS.out.drew
   obtain ⟨z, hz⟩ := xj (cmpF u.key v.key)
   have HZ : Hid (z < 0 ↔ u.key < v.key) := by show _ ↔ _; rw [← hz]; exact cmpF_lt _ _
   rw [hz] at C122
   clear hz gu gv HS
   clear GA GB HC HIH HLL
   by_cases hlv : z < 0
   ·go_wp2_with fail
    refine wp_region_held_drew (S := (fun W => W.rangeAt g (o1 * 3) (wrc u) ∧ W.rangeAt g (q * 3) (wrc v))) (by kernel_rfl) (SN.out _ HD.out) (fun hHeld => ?_)
    refine tq 0 ?_
    refine tq 1 ?_
    refine tq 2 ?_
    refine tq 3 ?_
    refine tq 4 ?_
    refine tq 5 ?_
    refine tl 6 70 g (o1 * 3) (wrc u) (fun W hW => hW.1) Tryz.underlying70 ?_
    refine tq 7 ?_
    refine tq 8 ?_
    refine tq 9 ?_
    refine tl 10 70 g (q * 3) (wrc v) (fun W hW => hW.2) Tryz.underlying70 ?_
    refine rd 11 (fun K hK => ?_)
    go_simp
    refine (C122.out _ HD.out).mono ?_
    rintro e w3 ⟨rfl, h3⟩
    have X3 : Hid _ := h3
    clear h3
    go_wp2_with fail
    refine kj hK (SN.out _ X3.out) (fun hHeld => ?_)
    clear hK K
    refine tq 12 ?_
    refine tq 13 ?_
    refine wpAnyH_done (by kernel_rfl) ?_ _
    clear hHeld SN C122 HD
    go_wp2_with fail
    go_roundw
    case rel => exact ⟨st, q, rfl, rfl, by omega, by omega, by omega, I1, (show Hid _ from .inr (by rw [HU.out, HV2.out]; exact HZ.out.1 hlv)), X3.out⟩
    case measure => simp [intOf]; omega
   ·have HV : Hid (¬ z < 0) := hlv
    have hz0 : 0 ≤ z := Int.not_lt.1 hlv
    have hz1 : decide (z < 0) = false := decide_eq_false hlv
    go_wp2_with fail
    refine wp_region_held_drew (S := (fun W => W.rangeAt g (o1 * 3) (wrc u) ∧ W.rangeAt g (q * 3) (wrc v))) (by kernel_rfl) (SN.out _ HD.out) (fun hHeld => ?_)
    refine tq 0 ?_
    refine tq 1 ?_
    refine tq 2 ?_
    refine tq 3 ?_
    refine tq 4 ?_
    refine tq 5 ?_
    refine tl 6 70 g (o1 * 3) (wrc u) (fun W hW => hW.1) Tryz.underlying70 ?_
    refine tq 7 ?_
    refine tq 8 ?_
    refine tq 9 ?_
    refine tl 10 70 g (q * 3) (wrc v) (fun W hW => hW.2) Tryz.underlying70 ?_
    refine rd 11 (fun K hK => ?_)
    go_simp
    refine (C122.out _ HD.out).mono ?_
    rintro e w3 ⟨rfl, h3⟩
    have X3 : Hid _ := h3
    clear h3
    go_wp2_with fail
    refine kj hK (SN.out _ X3.out) (fun hHeld => ?_)
    clear hK K
    refine tq 12 ?_
    refine tq 13 ?_
    refine wpAnyH_done (by kernel_rfl) ?_ _
    clear hHeld SN C122 HD
    go_wp2_with fail
    go_roundw
    case rel => exact ⟨q + 1, r, by go_num, rfl, by omega, by omega, by omega, (show Hid _ from .inr (by rw [show mid - (q + 1) = mid - q - 1 by omega, show q + 1 - 1 - a = q - a by omega, HU.out, HV2.out]; exact fun e => by have e1 := HZ.out.2 e; have e2 := HV.out; omega)), I2, X3.out⟩
    case measure => simp [intOf]; omega
  ·have hr : r = st := by omega
   subst hr
   have hii : ¬ (r : Int) < (r : Int) := by omega
   obtain ⟨D1, D2⟩ := HC.out r hs1 hs3 I1.out I2.out
   obtain ⟨en, hen⟩ := xj (nn - r)
   have c6 : IntKind.i64.wrap ((nn : Int) - (r : Int)) = (en : Int) := by rw [IntKind.wrap_i64]; omega
   have FIN : Hid (∀ C1 C2, Srt C1 → Eqk (A.take (r - a) ++ B.take (mid - r)) C1 → Srt C2 → Eqk (A.drop (r - a) ++ B.drop (mid - r)) C2 → Srt (C1 ++ C2) ∧ Eqk (A ++ B) (C1 ++ C2)) := fun C1 C2 k1 q1 k2 q2 => sym_parts HSA.out.1 HSA.out.2 D1 D2 k1 q1 k2 q2
   have SS : Hid (Srt (A.take (r - a)) ∧ Srt (A.drop (r - a)) ∧ Srt (B.take (mid - r)) ∧ Srt (B.drop (mid - r))) := ⟨HSA.out.1.take _, HSA.out.1.drop _, HSA.out.2.take _, HSA.out.2.drop _⟩
   have e1 : (A.take (r - a)).length = r - a := by rw [List.length_take]; omega
   have e2 : (A.drop (r - a)).length = m - r := by rw [List.length_drop]; omega
   have e3 : (B.take (mid - r)).length = mid - r := by rw [List.length_take]; omega
   have e4 : (B.drop (mid - r)).length = b - en := by rw [List.length_drop]; omega
   have HS0 : Hid (Sz base g cap n w (P ++ (A.take (r - a) ++ (A.drop (r - a) ++ (B.take (mid - r) ++ (B.drop (mid - r) ++ Q))))) wr) := by
    have k := HS.out
    rw [← HLL.out] at k
    show Sz _ _ _ _ _ _ _
    rw [← List.append_assoc (A.take (r - a)), List.take_append_drop, ← List.append_assoc (B.take (mid - r)), List.take_append_drop]
    exact k
   clear HC I1 I2 D1 D2 GA GB HS HLL HSA
   generalize A.take (r - a) = A1 at *
   generalize A.drop (r - a) = A2 at *
   generalize B.take (mid - r) = B1 at *
   generalize B.drop (mid - r) = B2 at *
   have CR : Hid (1 ≤ A2.length → 1 ≤ B1.length → Calls Tryz.prog 171 #[.slice (some ⟨g, 0, none⟩) n cap, iw (r : Int), iw (m : Int), iw (en : Int), .func (.func 122) #[] #[]] wr fun e w' => e = .returned (.tuple #[]) ∧ Sz base g cap n w (P ++ (A1 ++ (B1 ++ (A2 ++ (B2 ++ Q))))) w') := fun x1 x2 => by
    have k := rot171 (base := base) (g := g) (cap := cap) (n := n) (w := w) (W := wr) (P ++ A1) A2 B1 (B2 ++ Q) x1 x2 (.func (.func 122) #[] #[]) hn (by rw [show P ++ A1 ++ A2 ++ B1 ++ (B2 ++ Q) = P ++ (A1 ++ (A2 ++ (B1 ++ (B2 ++ Q)))) by simp]; exact HS0.out) m en (by rw [List.length_append]; omega) (by omega)
    rw [List.length_append, show P.length + A1.length = r by omega, show P ++ A1 ++ B1 ++ A2 ++ (B2 ++ Q) = P ++ (A1 ++ (B1 ++ (A2 ++ (B2 ++ Q)))) by simp] at k
    exact k
   have CS1 : Hid (∀ W, 1 ≤ A1.length → 1 ≤ B1.length → Sz base g cap n w (P ++ (A1 ++ (B1 ++ (A2 ++ (B2 ++ Q))))) W → Calls Tryz.prog 165 #[.slice (some ⟨g, 0, none⟩) n cap, iw (a : Int), iw (r : Int), iw (mid : Int), .func (.func 122) #[] #[]] W fun e w' => e = .returned (.tuple #[]) ∧ ∃ C, Sz base g cap n w (P ++ (C ++ (A2 ++ (B2 ++ Q)))) w' ∧ Srt C ∧ Eqk (A1 ++ B1) C) := fun W x1 x2 k => HIH.out P A1 B1 (A2 ++ (B2 ++ Q)) W a r mid (by omega) x1 x2 SS.out.1 SS.out.2.2.1 k ha (by omega) (by omega)
   have CS2 : Hid (∀ C1 W, C1.length = mid - a → 1 ≤ A2.length → 1 ≤ B2.length → Sz base g cap n w (P ++ (C1 ++ (A2 ++ (B2 ++ Q)))) W → Calls Tryz.prog 165 #[.slice (some ⟨g, 0, none⟩) n cap, iw (mid : Int), iw (en : Int), iw (b : Int), .func (.func 122) #[] #[]] W fun e w' => e = .returned (.tuple #[]) ∧ ∃ C, Sz base g cap n w (P ++ (C1 ++ (C ++ Q))) w' ∧ Srt C ∧ Eqk (A2 ++ B2) C) := fun C1 W x0 x1 x2 k => by
    have q := HIH.out (P ++ C1) A2 B2 Q W mid en b (by omega) x1 x2 SS.out.2.1 SS.out.2.2.2 (by rw [List.append_assoc]; exact k) (by rw [List.length_append]; omega) (by omega) (by omega)
    simp only [List.append_assoc] at q ⊢
    exact q
   clear HIH
   by_cases d0 : r < m
   ·by_cases d1 : r < mid
    ·by_cases d2 : a < r
     ·by_cases d3 : en < b
      ·have k1 : (r : Int) < (m : Int) := by omega
       have k2 : (m : Int) < (en : Int) := by omega
       have k3 : (a : Int) < (r : Int) := by omega
       have k4 : (r : Int) < (mid : Int) := by omega
       have k5 : (mid : Int) < (en : Int) := by omega
       have k6 : (en : Int) < (b : Int) := by omega
       have CR2 : Hid (1 = 1 → _) := fun _ => CR.out (by omega) (by omega)
       clear CR HS0
       go_wp2_with fail
       refine (CR2.out (by trivial)).mono ?_
       rintro e w4 ⟨rfl, h4⟩
       have X4 : Hid _ := h4
       clear h4 CR2
       go_wp2_with fail
       refine (CS1.out _ (by omega) (by omega) X4.out).mono ?_
       rintro e w5 ⟨rfl, C1, h5, h6, h7⟩
       have X5 : Hid _ := h5
       have Y5 : Hid (Srt C1 ∧ Eqk _ C1) := ⟨h6, h7⟩
       clear h5 h6 h7
       have Z5 : Hid (C1.length = mid - a) := by show _ = _; rw [Y5.out.2.len, List.length_append]; omega
       go_wp2_with fail
       refine (CS2.out C1 _ Z5.out (by omega) (by omega) X5.out).mono ?_
       rintro e w6 ⟨rfl, C2, h8, h9, h10⟩
       have X6 : Hid _ := h8
       have Y6 : Hid (Srt C2 ∧ Eqk _ C2) := ⟨h9, h10⟩
       clear h8 h9 h10
       go_wp2_with fail
       go_end0
       obtain ⟨z1, z2⟩ := FIN.out C1 C2 Y5.out.1 Y5.out.2 Y6.out.1 Y6.out.2
       exact ⟨rfl, C1 ++ C2, by rw [List.append_assoc]; exact X6.out, z1, z2⟩
      ·have k1 : (r : Int) < (m : Int) := by omega
       have k2 : (m : Int) < (en : Int) := by omega
       have k3 : (a : Int) < (r : Int) := by omega
       have k4 : (r : Int) < (mid : Int) := by omega
       have k5 : (mid : Int) < (en : Int) := by omega
       have k6 : ¬ (en : Int) < (b : Int) := by omega
       obtain rfl : B2 = [] := List.eq_nil_of_length_eq_zero (by omega)
       have CR2 : Hid (1 = 1 → _) := fun _ => CR.out (by omega) (by omega)
       clear CR HS0
       go_wp2_with fail
       refine (CR2.out (by trivial)).mono ?_
       rintro e w4 ⟨rfl, h4⟩
       have X4 : Hid _ := h4
       clear h4 CR2
       go_wp2_with fail
       refine (CS1.out _ (by omega) (by omega) X4.out).mono ?_
       rintro e w5 ⟨rfl, C1, h5, h6, h7⟩
       have X5 : Hid _ := h5
       have Y5 : Hid (Srt C1 ∧ Eqk _ C1) := ⟨h6, h7⟩
       clear h5 h6 h7
       have Z5 : Hid (C1.length = mid - a) := by show _ = _; rw [Y5.out.2.len, List.length_append]; omega
       go_wp2_with fail
       obtain ⟨C2, X6, Y6⟩ : ∃ C2, Hid (Sz base g cap n w (P ++ (C1 ++ (C2 ++ Q))) w5) ∧ Hid (Srt C2 ∧ Eqk (A2 ++ ([] : List Wr)) C2) := ⟨A2 ++ ([] : List Wr), (show Hid _ from by have k := X5.out; simp only [List.append_assoc, List.nil_append, List.append_nil] at k ⊢; exact k), (show Hid _ from ⟨by have k := SS.out; simp only [List.append_nil, List.nil_append]; first | exact k.2.1 | exact k.2.2.2 | exact List.Pairwise.nil, Eqk.refl _⟩)⟩
       go_end0
       obtain ⟨z1, z2⟩ := FIN.out C1 C2 Y5.out.1 Y5.out.2 Y6.out.1 Y6.out.2
       exact ⟨rfl, C1 ++ C2, by rw [List.append_assoc]; exact X6.out, z1, z2⟩
     ·by_cases d3 : en < b
      ·have k1 : (r : Int) < (m : Int) := by omega
       have k2 : (m : Int) < (en : Int) := by omega
       have k3 : ¬ (a : Int) < (r : Int) := by omega
       have k4 : (r : Int) < (mid : Int) := by omega
       have k5 : (mid : Int) < (en : Int) := by omega
       have k6 : (en : Int) < (b : Int) := by omega
       obtain rfl : A1 = [] := List.eq_nil_of_length_eq_zero (by omega)
       have CR2 : Hid (1 = 1 → _) := fun _ => CR.out (by omega) (by omega)
       clear CR HS0
       go_wp2_with fail
       refine (CR2.out (by trivial)).mono ?_
       rintro e w4 ⟨rfl, h4⟩
       have X4 : Hid _ := h4
       clear h4 CR2
       go_wp2_with fail
       obtain ⟨C1, X5, Y5, Z5⟩ : ∃ C1, Hid (Sz base g cap n w (P ++ (C1 ++ (A2 ++ (B2 ++ Q)))) w4) ∧ Hid (Srt C1 ∧ Eqk (([] : List Wr) ++ B1) C1) ∧ Hid (C1.length = mid - a) := ⟨([] : List Wr) ++ B1, (show Hid _ from by have k := X4.out; simp only [List.append_assoc, List.nil_append, List.append_nil] at k ⊢; exact k), (show Hid _ from ⟨by have k := SS.out; simp only [List.append_nil, List.nil_append]; first | exact k.1 | exact k.2.2.1 | exact List.Pairwise.nil, Eqk.refl _⟩), (show Hid _ from by show _ = _; rw [List.length_append]; simp only [List.length_nil] at *; omega)⟩
       refine (CS2.out C1 _ Z5.out (by omega) (by omega) X5.out).mono ?_
       rintro e w6 ⟨rfl, C2, h8, h9, h10⟩
       have X6 : Hid _ := h8
       have Y6 : Hid (Srt C2 ∧ Eqk _ C2) := ⟨h9, h10⟩
       clear h8 h9 h10
       go_wp2_with fail
       go_end0
       obtain ⟨z1, z2⟩ := FIN.out C1 C2 Y5.out.1 Y5.out.2 Y6.out.1 Y6.out.2
       exact ⟨rfl, C1 ++ C2, by rw [List.append_assoc]; exact X6.out, z1, z2⟩
      ·have k1 : (r : Int) < (m : Int) := by omega
       have k2 : (m : Int) < (en : Int) := by omega
       have k3 : ¬ (a : Int) < (r : Int) := by omega
       have k4 : (r : Int) < (mid : Int) := by omega
       have k5 : (mid : Int) < (en : Int) := by omega
       have k6 : ¬ (en : Int) < (b : Int) := by omega
       obtain rfl : A1 = [] := List.eq_nil_of_length_eq_zero (by omega)
       obtain rfl : B2 = [] := List.eq_nil_of_length_eq_zero (by omega)
       have CR2 : Hid (1 = 1 → _) := fun _ => CR.out (by omega) (by omega)
       clear CR HS0
       go_wp2_with fail
       refine (CR2.out (by trivial)).mono ?_
       rintro e w4 ⟨rfl, h4⟩
       have X4 : Hid _ := h4
       clear h4 CR2
       go_wp2_with fail
       obtain ⟨C1, X5, Y5, Z5⟩ : ∃ C1, Hid (Sz base g cap n w (P ++ (C1 ++ (A2 ++ (([] : List Wr) ++ Q)))) w4) ∧ Hid (Srt C1 ∧ Eqk (([] : List Wr) ++ B1) C1) ∧ Hid (C1.length = mid - a) := ⟨([] : List Wr) ++ B1, (show Hid _ from by have k := X4.out; simp only [List.append_assoc, List.nil_append, List.append_nil] at k ⊢; exact k), (show Hid _ from ⟨by have k := SS.out; simp only [List.append_nil, List.nil_append]; first | exact k.1 | exact k.2.2.1 | exact List.Pairwise.nil, Eqk.refl _⟩), (show Hid _ from by show _ = _; rw [List.length_append]; simp only [List.length_nil] at *; omega)⟩
       obtain ⟨C2, X6, Y6⟩ : ∃ C2, Hid (Sz base g cap n w (P ++ (C1 ++ (C2 ++ Q))) w4) ∧ Hid (Srt C2 ∧ Eqk (A2 ++ ([] : List Wr)) C2) := ⟨A2 ++ ([] : List Wr), (show Hid _ from by have k := X5.out; simp only [List.append_assoc, List.nil_append, List.append_nil] at k ⊢; exact k), (show Hid _ from ⟨by have k := SS.out; simp only [List.append_nil, List.nil_append]; first | exact k.2.1 | exact k.2.2.2 | exact List.Pairwise.nil, Eqk.refl _⟩)⟩
       go_end0
       obtain ⟨z1, z2⟩ := FIN.out C1 C2 Y5.out.1 Y5.out.2 Y6.out.1 Y6.out.2
       exact ⟨rfl, C1 ++ C2, by rw [List.append_assoc]; exact X6.out, z1, z2⟩
    ·by_cases d2 : a < r
     ·by_cases d3 : en < b
      ·have k1 : (r : Int) < (m : Int) := by omega
       have k2 : ¬ (m : Int) < (en : Int) := by omega
       have k3 : (a : Int) < (r : Int) := by omega
       have k4 : ¬ (r : Int) < (mid : Int) := by omega
       have k5 : (mid : Int) < (en : Int) := by omega
       have k6 : (en : Int) < (b : Int) := by omega
       obtain rfl : B1 = [] := List.eq_nil_of_length_eq_zero (by omega)
       have X4 : Hid (Sz base g cap n w (P ++ (A1 ++ (([] : List Wr) ++ (A2 ++ (B2 ++ Q))))) wr) := HS0.out
       clear CR HS0
       go_wp2_with fail
       obtain ⟨C1, X5, Y5, Z5⟩ : ∃ C1, Hid (Sz base g cap n w (P ++ (C1 ++ (A2 ++ (B2 ++ Q)))) wr) ∧ Hid (Srt C1 ∧ Eqk (A1 ++ ([] : List Wr)) C1) ∧ Hid (C1.length = mid - a) := ⟨A1 ++ ([] : List Wr), (show Hid _ from by have k := X4.out; simp only [List.append_assoc, List.nil_append, List.append_nil] at k ⊢; exact k), (show Hid _ from ⟨by have k := SS.out; simp only [List.append_nil, List.nil_append]; first | exact k.1 | exact k.2.2.1 | exact List.Pairwise.nil, Eqk.refl _⟩), (show Hid _ from by show _ = _; rw [List.length_append]; simp only [List.length_nil] at *; omega)⟩
       refine (CS2.out C1 _ Z5.out (by omega) (by omega) X5.out).mono ?_
       rintro e w6 ⟨rfl, C2, h8, h9, h10⟩
       have X6 : Hid _ := h8
       have Y6 : Hid (Srt C2 ∧ Eqk _ C2) := ⟨h9, h10⟩
       clear h8 h9 h10
       go_wp2_with fail
       go_end0
       obtain ⟨z1, z2⟩ := FIN.out C1 C2 Y5.out.1 Y5.out.2 Y6.out.1 Y6.out.2
       exact ⟨rfl, C1 ++ C2, by rw [List.append_assoc]; exact X6.out, z1, z2⟩
      ·exfalso
       omega
     ·by_cases d3 : en < b
      ·have k1 : (r : Int) < (m : Int) := by omega
       have k2 : ¬ (m : Int) < (en : Int) := by omega
       have k3 : ¬ (a : Int) < (r : Int) := by omega
       have k4 : ¬ (r : Int) < (mid : Int) := by omega
       have k5 : (mid : Int) < (en : Int) := by omega
       have k6 : (en : Int) < (b : Int) := by omega
       obtain rfl : B1 = [] := List.eq_nil_of_length_eq_zero (by omega)
       obtain rfl : A1 = [] := List.eq_nil_of_length_eq_zero (by omega)
       have X4 : Hid (Sz base g cap n w (P ++ (([] : List Wr) ++ (([] : List Wr) ++ (A2 ++ (B2 ++ Q))))) wr) := HS0.out
       clear CR HS0
       go_wp2_with fail
       obtain ⟨C1, X5, Y5, Z5⟩ : ∃ C1, Hid (Sz base g cap n w (P ++ (C1 ++ (A2 ++ (B2 ++ Q)))) wr) ∧ Hid (Srt C1 ∧ Eqk (([] : List Wr) ++ ([] : List Wr)) C1) ∧ Hid (C1.length = mid - a) := ⟨([] : List Wr) ++ ([] : List Wr), (show Hid _ from by have k := X4.out; simp only [List.append_assoc, List.nil_append, List.append_nil] at k ⊢; exact k), (show Hid _ from ⟨by have k := SS.out; simp only [List.append_nil, List.nil_append]; first | exact k.1 | exact k.2.2.1 | exact List.Pairwise.nil, Eqk.refl _⟩), (show Hid _ from by show _ = _; rw [List.length_append]; simp only [List.length_nil] at *; omega)⟩
       refine (CS2.out C1 _ Z5.out (by omega) (by omega) X5.out).mono ?_
       rintro e w6 ⟨rfl, C2, h8, h9, h10⟩
       have X6 : Hid _ := h8
       have Y6 : Hid (Srt C2 ∧ Eqk _ C2) := ⟨h9, h10⟩
       clear h8 h9 h10
       go_wp2_with fail
       go_end0
       obtain ⟨z1, z2⟩ := FIN.out C1 C2 Y5.out.1 Y5.out.2 Y6.out.1 Y6.out.2
       exact ⟨rfl, C1 ++ C2, by rw [List.append_assoc]; exact X6.out, z1, z2⟩
      ·exfalso
       omega
   ·by_cases d1 : r < mid
    ·by_cases d2 : a < r
     ·by_cases d3 : en < b
      ·exfalso
       omega
      ·exfalso
       omega
     ·by_cases d3 : en < b
      ·exfalso
       omega
      ·exfalso
       omega
    ·by_cases d2 : a < r
     ·by_cases d3 : en < b
      ·exfalso
       omega
      ·exfalso
       omega
     ·by_cases d3 : en < b
      ·exfalso
       omega
      ·exfalso
       omega
end Go.Proofs.YtkdkgdollmmcnaaGreat
