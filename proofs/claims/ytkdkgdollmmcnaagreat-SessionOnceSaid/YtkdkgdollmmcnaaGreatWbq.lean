import Derived.Test.YtkdkgdollmmcnaaGreatWbp
set_option maxHeartbeats 4000000
set_option maxRecDepth 100000
set_option linter.unusedVariables false
set_option linter.unusedSimpArgs false
namespace Go.Proofs.YtkdkgdollmmcnaaGreat
open Go.RowKit Go.Sort Go.Shelf
variable {base g cap n : Nat} {w W W' : World} {S : List Wr}
theorem sym165d (N : Nat) (IH : Sym base g cap n w N) (P A B Q : List Wr) (l1 l2 : Nat) (hA : A.length = l1) (hB : B.length = l2) (hN : l1 + l2 ≤ N + 1) (h1 : 2 ≤ l1) (h2 : 2 ≤ l2) (sA : Srt A) (sB : Srt B) (hn : n ≤ 1000000) (h : Sz base g cap n w (P ++ (A ++ (B ++ Q))) W) (a m b mid : Nat) (ha : P.length = a) (hm : a + l1 = m) (hb : m + l2 = b) (hd : (a + b) / 2 = mid) (hmm : m ≤ mid) :
  Calls Tryz.prog 165 #[.slice (some ⟨g, 0, none⟩) n cap, iw (a : Int), iw (m : Int), iw (b : Int), .func (.func 122) #[] #[]] W fun e w' => e = .returned (.tuple #[]) ∧ ∃ C, Sz base g cap n w (P ++ (C ++ Q)) w' ∧ Srt C ∧ Eqk (A ++ B) C := by
 have hl := h.len
 simp only [List.length_append, hA, hB, ha] at hl
 have H : Hid (Sz base g cap n w (P ++ (A ++ (B ++ Q))) W) := h
 have HIH : Hid (Sym base g cap n w N) := IH
 have HSA : Hid (Srt A ∧ Srt B) := ⟨sA, sB⟩
 have hb9 : b ≤ n := by omega
 obtain ⟨nn, hnn⟩ := xj (mid + m)
 skip
 obtain ⟨pp, hpp⟩ := xj (nn - 1)
 have c0 : IntKind.i64.wrap ((m : Int) - (a : Int)) = (l1 : Int) := by rw [IntKind.wrap_i64]; omega
 have c00 : ((l1 : Int) == 1) = false := by simp; omega
 have c1 : IntKind.i64.wrap ((b : Int) - (m : Int)) = (l2 : Int) := by rw [IntKind.wrap_i64]; omega
 have c11 : ((l2 : Int) == 1) = false := by simp; omega
 have hmid : ((a : Int) + (b : Int)) / 2 = (mid : Int) := by omega
 have c2 : IntKind.i64.wrap ((mid : Int) + (m : Int)) = (nn : Int) := by rw [IntKind.wrap_i64]; omega
 have c3 : IntKind.i64.wrap ((nn : Int) - 1) = (pp : Int) := by rw [IntKind.wrap_i64]; omega
 have hmi : ¬ (mid : Int) < (m : Int) := by omega
 have b1 : a ≤ a ∧ a ≤ m ∧ m ≤ mid ∧ m ≤ m ∧ mid - a ≤ l2 ∧ a ≤ mid ∧ m < nn ∧ nn - a ≤ b := by omega
 have b2 : a = a ∨ mid - a = l2 := by omega
 have b3 : m = mid ∨ m = a + l1 := by omega
 obtain ⟨L, hL⟩ := xj (P ++ (A ++ (B ++ Q)))
 have HLL : Hid (P ++ (A ++ (B ++ Q)) = L) := hL
 have GA : Hid (∀ t, t < l1 → L.getD (a + t) wz = A.getD t wz) := fun t ht => by
  have k := getD_app P A (B ++ Q) (t := t) (by omega)
  rw [ha, hL] at k
  exact k
 have GB : Hid (∀ t, t < l2 → L.getD (m + t) wz = B.getD t wz) := fun t ht => by
  have k := getD_app (P ++ A) B Q (t := t) (by omega)
  rw [List.length_append, ha, hA, hm, List.append_assoc, hL] at k
  exact k
 rw [hL] at H
 have hm9 : m < 1000000 ∧ b ≤ 1000000 ∧ mid < 1000000 ∧ nn < 2000000 := by omega
 have HC : Hid (∀ st, a ≤ st → st ≤ m → (st = a ∨ ¬ (B.getD (mid - st) wz).key < (A.getD (st - 1 - a) wz).key) → (st = m ∨ (B.getD (mid - st - 1) wz).key < (A.getD (st - a) wz).key) → (∀ x ∈ A.take (st - a), ∀ y ∈ B.drop (mid - st), ¬ y.key < x.key) ∧ (∀ x ∈ A.drop (st - a), ∀ y ∈ B.take (mid - st), y.key < x.key)) := fun st e1 e2 => sym_search sA sB (by omega) e1 e2 (by omega) (by omega) (by omega) (by omega) (by omega)
 clear h IH sA sB hL
 go_enter Tryz.func165, Tryz.ntmps165
 go_wp2_with fail
 go_loopw [20, 21] (fun s t wr => ∃ st r : Nat, s = iw (st : Int) ∧ t = iw (r : Int) ∧ a ≤ st ∧ st ≤ r ∧ r ≤ m ∧ Hid (st = a ∨ ¬ (B.getD (mid - st) wz).key < (A.getD (st - 1 - a) wz).key) ∧ Hid (r = m ∨ (B.getD (mid - r - 1) wz).key < (A.getD (r - a) wz).key) ∧ Hid (Sz base g cap n w L wr)) (fun s t _ => (intOf t).toNat - (intOf s).toNat)
 case atStart => exact ⟨a, m, rfl, rfl, Nat.le_refl _, by omega, Nat.le_refl _, .inl rfl, .inl rfl, H.out⟩
 case round =>
  obtain ⟨st, r, rfl, rfl, hs1, hs2, hs3, I1, I2, HS⟩ := hrel
  clear H c0 c00 c1 c11 c2 c3 
  by_cases hlt : st < r
  ·obtain ⟨q, hq⟩ := xj ((st + r) / 2)
   obtain ⟨o1, ho1⟩ := xj (pp - q)
   have hq2 : ((st : Int) + (r : Int)) / 2 = (q : Int) := by omega
   have hij : (st : Int) < (r : Int) := by omega
   have hqb : st ≤ q ∧ q < r := by omega
   have c5 : IntKind.i64.wrap ((pp : Int) - (q : Int)) = (o1 : Int) := by rw [IntKind.wrap_i64]; omega
   obtain ⟨u, gu⟩ := xj (L.getD o1 wz)
   obtain ⟨v, gv⟩ := xj (L.getD q wz)
   have HU : Hid (B.getD (mid - q - 1) wz = u) := by show _ = _; rw [← GB.out (mid - q - 1) (by omega), show m + (mid - q - 1) = o1 by omega]; exact gu
   have HV2 : Hid (A.getD (q - a) wz = v) := by show _ = _; rw [← GA.out (q - a) (by omega), show a + (q - a) = q by omega]; exact gv
   have hn1 : o1 < n := by omega
   have hn2 : q < n := by omega
   have hst9 : st < 1000000 := by omega
   have hr9 : r < 1000000 := by omega
   have SN : Hid (∀ W, Sz base g cap n w L W → W.rangeAt g (o1 * 3) (wrc u) ∧ W.rangeAt g (q * 3) (wrc v)) := fun W s => ⟨by rw [← gu]; exact s.rng hn1, by rw [← gv]; exact s.rng hn2⟩
   have C122 : Hid (∀ W, Sz base g cap n w L W → Calls Tryz.prog 122 #[.agg (wrc u).toArray, .agg (wrc v).toArray] W fun e w' => e = .returned (iw (cmpF u.key v.key)) ∧ Sz base g cap n w L w') := fun W s => (cmp122 u v W).mono fun e w' q => ⟨q.1, s.on q.2⟩
   have HD : Hid (Sz base g cap n w L wr.drew) := HS.out.drew
   obtain ⟨z, hz⟩ := xj (cmpF u.key v.key)
   have HZ : Hid (z < 0 ↔ u.key < v.key) := by show _ ↔ _; rw [← hz]; exact cmpF_lt _ _
   rw [hz] at C122
   clear hz gu gv HS
   clear GA GB HC HIH HLL
   by_cases hlv : z < 0
   ·go_wp2_with fail
    refine wp_region_held_drew (S := (fun W => W.rangeAt g (o1 * 3) (wrc u) ∧ W.rangeAt g (q * 3) (wrc v))) (by kernel_rfl) (SN.out _ HD.out) (fun hHeld => ?_)
    refine tq 0 ?_
    refine tq 1 ?_
    refine tq 2 ?_
    refine tq 3 ?_
    refine tq 4 ?_
    refine tq 5 ?_
    refine tl 6 70 g (o1 * 3) (wrc u) (fun W hW => hW.1) Tryz.underlying70 ?_
    refine tq 7 ?_
    refine tq 8 ?_
    refine tq 9 ?_
    refine tl 10 70 g (q * 3) (wrc v) (fun W hW => hW.2) Tryz.underlying70 ?_
    refine rd 11 (fun K hK => ?_)
    go_simp
    refine (C122.out _ HD.out).mono ?_
    rintro e w3 ⟨rfl, h3⟩
    have X3 : Hid _ := h3
    clear h3
    go_wp2_with fail
    refine kj hK (SN.out _ X3.out) (fun hHeld => ?_)
    clear hK K
    refine tq 12 ?_
    refine tq 13 ?_
    refine wpAnyH_done (by kernel_rfl) ?_ _
    clear hHeld SN C122 HD
    go_wp2_with fail
    go_roundw
    case rel => exact ⟨st, q, rfl, rfl, by omega, by omega, by omega, I1, (show Hid _ from .inr (by rw [HU.out, HV2.out]; exact HZ.out.1 hlv)), X3.out⟩
    case measure => simp [intOf]; omega
   ·have HV : Hid (¬ z < 0) := hlv
    have hz0 : 0 ≤ z := Int.not_lt.1 hlv
    have hz1 : decide (z < 0) = false := decide_eq_false hlv
    go_wp2_with fail
    refine wp_region_held_drew (S := (fun W => W.rangeAt g (o1 * 3) (wrc u) ∧ W.rangeAt g (q * 3) (wrc v))) (by kernel_rfl) (SN.out _ HD.out) (fun hHeld => ?_)
    refine tq 0 ?_
    refine tq 1 ?_
    refine tq 2 ?_
    refine tq 3 ?_
    refine tq 4 ?_
    refine tq 5 ?_
    refine tl 6 70 g (o1 * 3) (wrc u) (fun W hW => hW.1) Tryz.underlying70 ?_
    refine tq 7 ?_
    refine tq 8 ?_
    refine tq 9 ?_
    refine tl 10 70 g (q * 3) (wrc v) (fun W hW => hW.2) Tryz.underlying70 ?_
    refine rd 11 (fun K hK => ?_)
    go_simp
    refine (C122.out _ HD.out).mono ?_
    rintro e w3 ⟨rfl, h3⟩
    have X3 : Hid _ := h3
    clear h3
    go_wp2_with fail
    refine kj hK (SN.out _ X3.out) (fun hHeld => ?_)
    clear hK K
    refine tq 12 ?_
    refine tq 13 ?_
    refine wpAnyH_done (by kernel_rfl) ?_ _
    clear hHeld SN C122 HD
    go_wp2_with fail
    go_roundw
    case rel => exact ⟨q + 1, r, by go_num, rfl, by omega, by omega, by omega, (show Hid _ from .inr (by rw [show mid - (q + 1) = mid - q - 1 by omega, show q + 1 - 1 - a = q - a by omega, HU.out, HV2.out]; exact fun e => by have e1 := HZ.out.2 e; have e2 := HV.out; omega)), I2, X3.out⟩
    case measure => simp [intOf]; omega
  ·have hr : r = st := by omega
   subst hr
   have hii : ¬ (r : Int) < (r : Int) := by omega
   obtain ⟨D1, D2⟩ := HC.out r hs1 hs3 I1.out I2.out
   obtain ⟨en, hen⟩ := xj (nn - r)
   have c6 : IntKind.i64.wrap ((nn : Int) - (r : Int)) = (en : Int) := by rw [IntKind.wrap_i64]; omega
   have FIN : Hid (∀ C1 C2, Srt C1 → Eqk (A.take (r - a) ++ B.take (mid - r)) C1 → Srt C2 → Eqk (A.drop (r - a) ++ B.drop (mid - r)) C2 → Srt (C1 ++ C2) ∧ Eqk (A ++ B) (C1 ++ C2)) := fun C1 C2 k1 q1 k2 q2 => sym_parts HSA.out.1 HSA.out.2 D1 D2 k1 q1 k2 q2
   have SS : Hid (Srt (A.take (r - a)) ∧ Srt (A.drop (r - a)) ∧ Srt (B.take (mid - r)) ∧ Srt (B.drop (mid - r))) := ⟨HSA.out.1.take _, HSA.out.1.drop _, HSA.out.2.take _, HSA.out.2.drop _⟩
   have e1 : (A.take (r - a)).length = r - a := by rw [List.length_take]; omega
   have e2 : (A.drop (r - a)).length = m - r := by rw [List.length_drop]; omega
   have e3 : (B.take (mid - r)).length = mid - r := by rw [List.length_take]; omega
   have e4 : (B.drop (mid - r)).length = b - en := by rw [List.length_drop]; omega
   have HS0 : Hid (Sz base g cap n w (P ++ (A.take (r - a) ++ (A.drop (r - a) ++ (B.take (mid - r) ++ (B.drop (mid - r) ++ Q))))) wr) := by
    have k := HS.out
    rw [← HLL.out] at k
    show Sz _ _ _ _ _ _ _
    rw [← List.append_assoc (A.take (r - a)), List.take_append_drop, ← List.append_assoc (B.take (mid - r)), List.take_append_drop]
    exact k
   clear HC I1 I2 D1 D2 GA GB HS HLL HSA
   generalize A.take (r - a) = A1 at *
   generalize A.drop (r - a) = A2 at *
   generalize B.take (mid - r) = B1 at *
   generalize B.drop (mid - r) = B2 at *
   have CR : Hid (1 ≤ A2.length → 1 ≤ B1.length → Calls Tryz.prog 171 #[.slice (some ⟨g, 0, none⟩) n cap, iw (r : Int), iw (m : Int), iw (en : Int), .func (.func 122) #[] #[]] wr fun e w' => e = .returned (.tuple #[]) ∧ Sz base g cap n w (P ++ (A1 ++ (B1 ++ (A2 ++ (B2 ++ Q))))) w') := fun x1 x2 => by
    have k := rot171 (base := base) (g := g) (cap := cap) (n := n) (w := w) (W := wr) (P ++ A1) A2 B1 (B2 ++ Q) x1 x2 (.func (.func 122) #[] #[]) hn (by rw [show P ++ A1 ++ A2 ++ B1 ++ (B2 ++ Q) = P ++ (A1 ++ (A2 ++ (B1 ++ (B2 ++ Q)))) by simp]; exact HS0.out) m en (by rw [List.length_append]; omega) (by omega)
    rw [List.length_append, show P.length + A1.length = r by omega, show P ++ A1 ++ B1 ++ A2 ++ (B2 ++ Q) = P ++ (A1 ++ (B1 ++ (A2 ++ (B2 ++ Q)))) by simp] at k
    exact k
   have CS1 : Hid (∀ W, 1 ≤ A1.length → 1 ≤ B1.length → Sz base g cap n w (P ++ (A1 ++ (B1 ++ (A2 ++ (B2 ++ Q))))) W → Calls Tryz.prog 165 #[.slice (some ⟨g, 0, none⟩) n cap, iw (a : Int), iw (r : Int), iw (mid : Int), .func (.func 122) #[] #[]] W fun e w' => e = .returned (.tuple #[]) ∧ ∃ C, Sz base g cap n w (P ++ (C ++ (A2 ++ (B2 ++ Q)))) w' ∧ Srt C ∧ Eqk (A1 ++ B1) C) := fun W x1 x2 k => HIH.out P A1 B1 (A2 ++ (B2 ++ Q)) W a r mid (by omega) x1 x2 SS.out.1 SS.out.2.2.1 k ha (by omega) (by omega)
   have CS2 : Hid (∀ C1 W, C1.length = mid - a → 1 ≤ A2.length → 1 ≤ B2.length → Sz base g cap n w (P ++ (C1 ++ (A2 ++ (B2 ++ Q)))) W → Calls Tryz.prog 165 #[.slice (some ⟨g, 0, none⟩) n cap, iw (mid : Int), iw (en : Int), iw (b : Int), .func (.func 122) #[] #[]] W fun e w' => e = .returned (.tuple #[]) ∧ ∃ C, Sz base g cap n w (P ++ (C1 ++ (C ++ Q))) w' ∧ Srt C ∧ Eqk (A2 ++ B2) C) := fun C1 W x0 x1 x2 k => by
    have q := HIH.out (P ++ C1) A2 B2 Q W mid en b (by omega) x1 x2 SS.out.2.1 SS.out.2.2.2 (by rw [List.append_assoc]; exact k) (by rw [List.length_append]; omega) (by omega) (by omega)
    simp only [List.append_assoc] at q ⊢
    exact q
   clear HIH
   by_cases d0 : r < m
   ·by_cases d1 : r < mid
    ·by_cases d2 : a < r
     ·by_cases d3 : en < b
      ·have k1 : (r : Int) < (m : Int) := by omega
       have k2 : (m : Int) < (en : Int) := by omega
       have k3 : (a : Int) < (r : Int) := by omega
       have k4 : (r : Int) < (mid : Int) := by omega
       have k5 : (mid : Int) < (en : Int) := by omega
       have k6 : (en : Int) < (b : Int) := by omega
       have CR2 : Hid (1 = 1 → _) := fun _ => CR.out (by omega) (by omega)
       clear CR HS0
       go_wp2_with fail
       refine (CR2.out (by trivial)).mono ?_
       rintro e w4 ⟨rfl, h4⟩
       have X4 : Hid _ := h4
       clear h4 CR2
       go_wp2_with fail
       refine (CS1.out _ (by omega) (by omega) X4.out).mono ?_
       rintro e w5 ⟨rfl, C1, h5, h6, h7⟩
       have X5 : Hid _ := h5
       have Y5 : Hid (Srt C1 ∧ Eqk _ C1) := ⟨h6, h7⟩
       clear h5 h6 h7
       have Z5 : Hid (C1.length = mid - a) := by show _ = _; rw [Y5.out.2.len, List.length_append]; omega
       go_wp2_with fail
       refine (CS2.out C1 _ Z5.out (by omega) (by omega) X5.out).mono ?_
       rintro e w6 ⟨rfl, C2, h8, h9, h10⟩
       have X6 : Hid _ := h8
       have Y6 : Hid (Srt C2 ∧ Eqk _ C2) := ⟨h9, h10⟩
       clear h8 h9 h10
       go_wp2_with fail
       go_end0
       obtain ⟨z1, z2⟩ := FIN.out C1 C2 Y5.out.1 Y5.out.2 Y6.out.1 Y6.out.2
       exact ⟨rfl, C1 ++ C2, by rw [List.append_assoc]; exact X6.out, z1, z2⟩
      ·have k1 : (r : Int) < (m : Int) := by omega
       have k2 : (m : Int) < (en : Int) := by omega
       have k3 : (a : Int) < (r : Int) := by omega
       have k4 : (r : Int) < (mid : Int) := by omega
       have k5 : (mid : Int) < (en : Int) := by omega
       have k6 : ¬ (en : Int) < (b : Int) := by omega
       obtain rfl : B2 = [] := List.eq_nil_of_length_eq_zero (by omega)
       have CR2 : Hid (1 = 1 → _) := fun _ => CR.out (by omega) (by omega)
       clear CR HS0
       go_wp2_with fail
       refine (CR2.out (by trivial)).mono ?_
       rintro e w4 ⟨rfl, h4⟩
       have X4 : Hid _ := h4
       clear h4 CR2
       go_wp2_with fail
       refine (CS1.out _ (by omega) (by omega) X4.out).mono ?_
       rintro e w5 ⟨rfl, C1, h5, h6, h7⟩
       have X5 : Hid _ := h5
       have Y5 : Hid (Srt C1 ∧ Eqk _ C1) := ⟨h6, h7⟩
       clear h5 h6 h7
       have Z5 : Hid (C1.length = mid - a) := by show _ = _; rw [Y5.out.2.len, List.length_append]; omega
       go_wp2_with fail
       obtain ⟨C2, X6, Y6⟩ : ∃ C2, Hid (Sz base g cap n w (P ++ (C1 ++ (C2 ++ Q))) w5) ∧ Hid (Srt C2 ∧ Eqk (A2 ++ ([] : List Wr)) C2) := ⟨A2 ++ ([] : List Wr), (show Hid _ from by have k := X5.out; simp only [List.append_assoc, List.nil_append, List.append_nil] at k ⊢; exact k), (show Hid _ from ⟨by have k := SS.out; simp only [List.append_nil, List.nil_append]; first | exact k.2.1 | exact k.2.2.2 | exact List.Pairwise.nil, Eqk.refl _⟩)⟩
       go_end0
       obtain ⟨z1, z2⟩ := FIN.out C1 C2 Y5.out.1 Y5.out.2 Y6.out.1 Y6.out.2
       exact ⟨rfl, C1 ++ C2, by rw [List.append_assoc]; exact X6.out, z1, z2⟩
     ·by_cases d3 : en < b
      ·have k1 : (r : Int) < (m : Int) := by omega
       have k2 : (m : Int) < (en : Int) := by omega
       have k3 : ¬ (a : Int) < (r : Int) := by omega
       have k4 : (r : Int) < (mid : Int) := by omega
       have k5 : (mid : Int) < (en : Int) := by omega
       have k6 : (en : Int) < (b : Int) := by omega
       obtain rfl : A1 = [] := List.eq_nil_of_length_eq_zero (by omega)
       have CR2 : Hid (1 = 1 → _) := fun _ => CR.out (by omega) (by omega)
       clear CR HS0
       go_wp2_with fail
       refine (CR2.out (by trivial)).mono ?_
       rintro e w4 ⟨rfl, h4⟩
       have X4 : Hid _ := h4
       clear h4 CR2
       go_wp2_with fail
       obtain ⟨C1, X5, Y5, Z5⟩ : ∃ C1, Hid (Sz base g cap n w (P ++ (C1 ++ (A2 ++ (B2 ++ Q)))) w4) ∧ Hid (Srt C1 ∧ Eqk (([] : List Wr) ++ B1) C1) ∧ Hid (C1.length = mid - a) := ⟨([] : List Wr) ++ B1, (show Hid _ from by have k := X4.out; simp only [List.append_assoc, List.nil_append, List.append_nil] at k ⊢; exact k), (show Hid _ from ⟨by have k := SS.out; simp only [List.append_nil, List.nil_append]; first | exact k.1 | exact k.2.2.1 | exact List.Pairwise.nil, Eqk.refl _⟩), (show Hid _ from by show _ = _; rw [List.length_append]; simp only [List.length_nil] at *; omega)⟩
       refine (CS2.out C1 _ Z5.out (by omega) (by omega) X5.out).mono ?_
       rintro e w6 ⟨rfl, C2, h8, h9, h10⟩
       have X6 : Hid _ := h8
       have Y6 : Hid (Srt C2 ∧ Eqk _ C2) := ⟨h9, h10⟩
       clear h8 h9 h10
       go_wp2_with fail
       go_end0
       obtain ⟨z1, z2⟩ := FIN.out C1 C2 Y5.out.1 Y5.out.2 Y6.out.1 Y6.out.2
       exact ⟨rfl, C1 ++ C2, by rw [List.append_assoc]; exact X6.out, z1, z2⟩
      ·have k1 : (r : Int) < (m : Int) := by omega
       have k2 : (m : Int) < (en : Int) := by omega
       have k3 : ¬ (a : Int) < (r : Int) := by omega
       have k4 : (r : Int) < (mid : Int) := by omega
       have k5 : (mid : Int) < (en : Int) := by omega
       have k6 : ¬ (en : Int) < (b : Int) := by omega
       obtain rfl : A1 = [] := List.eq_nil_of_length_eq_zero (by omega)
       obtain rfl : B2 = [] := List.eq_nil_of_length_eq_zero (by omega)
       have CR2 : Hid (1 = 1 → _) := fun _ => CR.out (by omega) (by omega)
       clear CR HS0
       go_wp2_with fail
       refine (CR2.out (by trivial)).mono ?_
       rintro e w4 ⟨rfl, h4⟩
       have X4 : Hid _ := h4
       clear h4 CR2
       go_wp2_with fail
       obtain ⟨C1, X5, Y5, Z5⟩ : ∃ C1, Hid (Sz base g cap n w (P ++ (C1 ++ (A2 ++ (([] : List Wr) ++ Q)))) w4) ∧ Hid (Srt C1 ∧ Eqk (([] : List Wr) ++ B1) C1) ∧ Hid (C1.length = mid - a) := ⟨([] : List Wr) ++ B1, (show Hid _ from by have k := X4.out; simp only [List.append_assoc, List.nil_append, List.append_nil] at k ⊢; exact k), (show Hid _ from ⟨by have k := SS.out; simp only [List.append_nil, List.nil_append]; first | exact k.1 | exact k.2.2.1 | exact List.Pairwise.nil, Eqk.refl _⟩), (show Hid _ from by show _ = _; rw [List.length_append]; simp only [List.length_nil] at *; omega)⟩
       obtain ⟨C2, X6, Y6⟩ : ∃ C2, Hid (Sz base g cap n w (P ++ (C1 ++ (C2 ++ Q))) w4) ∧ Hid (Srt C2 ∧ Eqk (A2 ++ ([] : List Wr)) C2) := ⟨A2 ++ ([] : List Wr), (show Hid _ from by have k := X5.out; simp only [List.append_assoc, List.nil_append, List.append_nil] at k ⊢; exact k), (show Hid _ from ⟨by have k := SS.out; simp only [List.append_nil, List.nil_append]; first | exact k.2.1 | exact k.2.2.2 | exact List.Pairwise.nil, Eqk.refl _⟩)⟩
       go_end0
       obtain ⟨z1, z2⟩ := FIN.out C1 C2 Y5.out.1 Y5.out.2 Y6.out.1 Y6.out.2
       exact ⟨rfl, C1 ++ C2, by rw [List.append_assoc]; exact X6.out, z1, z2⟩
    ·by_cases d2 : a < r
     ·by_cases d3 : en < b
      ·have k1 : (r : Int) < (m : Int) := by omega
       have k2 : ¬ (m : Int) < (en : Int) := by omega
       have k3 : (a : Int) < (r : Int) := by omega
       have k4 : ¬ (r : Int) < (mid : Int) := by omega
       have k5 : (mid : Int) < (en : Int) := by omega
       have k6 : (en : Int) < (b : Int) := by omega
       obtain rfl : B1 = [] := List.eq_nil_of_length_eq_zero (by omega)
       have X4 : Hid (Sz base g cap n w (P ++ (A1 ++ (([] : List Wr) ++ (A2 ++ (B2 ++ Q))))) wr) := HS0.out
       clear CR HS0
       go_wp2_with fail
       obtain ⟨C1, X5, Y5, Z5⟩ : ∃ C1, Hid (Sz base g cap n w (P ++ (C1 ++ (A2 ++ (B2 ++ Q)))) wr) ∧ Hid (Srt C1 ∧ Eqk (A1 ++ ([] : List Wr)) C1) ∧ Hid (C1.length = mid - a) := ⟨A1 ++ ([] : List Wr), (show Hid _ from by have k := X4.out; simp only [List.append_assoc, List.nil_append, List.append_nil] at k ⊢; exact k), (show Hid _ from ⟨by have k := SS.out; simp only [List.append_nil, List.nil_append]; first | exact k.1 | exact k.2.2.1 | exact List.Pairwise.nil, Eqk.refl _⟩), (show Hid _ from by show _ = _; rw [List.length_append]; simp only [List.length_nil] at *; omega)⟩
       refine (CS2.out C1 _ Z5.out (by omega) (by omega) X5.out).mono ?_
       rintro e w6 ⟨rfl, C2, h8, h9, h10⟩
       have X6 : Hid _ := h8
       have Y6 : Hid (Srt C2 ∧ Eqk _ C2) := ⟨h9, h10⟩
       clear h8 h9 h10
       go_wp2_with fail
       go_end0
       obtain ⟨z1, z2⟩ := FIN.out C1 C2 Y5.out.1 Y5.out.2 Y6.out.1 Y6.out.2
       exact ⟨rfl, C1 ++ C2, by rw [List.append_assoc]; exact X6.out, z1, z2⟩
      ·exfalso
       omega
     ·by_cases d3 : en < b
      ·exfalso
       omega
      ·exfalso
       omega
   ·by_cases d1 : r < mid
    ·by_cases d2 : a < r
     ·by_cases d3 : en < b
      ·have k1 : ¬ (r : Int) < (m : Int) := by omega
       have k2 : (m : Int) < (en : Int) := by omega
       have k3 : (a : Int) < (r : Int) := by omega
       have k4 : (r : Int) < (mid : Int) := by omega
       have k5 : ¬ (mid : Int) < (en : Int) := by omega
       have k6 : (en : Int) < (b : Int) := by omega
       obtain rfl : A2 = [] := List.eq_nil_of_length_eq_zero (by omega)
       have X4 : Hid (Sz base g cap n w (P ++ (A1 ++ (B1 ++ (([] : List Wr) ++ (B2 ++ Q))))) wr) := HS0.out
       clear CR HS0
       go_wp2_with fail
       refine (CS1.out _ (by omega) (by omega) X4.out).mono ?_
       rintro e w5 ⟨rfl, C1, h5, h6, h7⟩
       have X5 : Hid _ := h5
       have Y5 : Hid (Srt C1 ∧ Eqk _ C1) := ⟨h6, h7⟩
       clear h5 h6 h7
       have Z5 : Hid (C1.length = mid - a) := by show _ = _; rw [Y5.out.2.len, List.length_append]; omega
       go_wp2_with fail
       obtain ⟨C2, X6, Y6⟩ : ∃ C2, Hid (Sz base g cap n w (P ++ (C1 ++ (C2 ++ Q))) w5) ∧ Hid (Srt C2 ∧ Eqk (([] : List Wr) ++ B2) C2) := ⟨([] : List Wr) ++ B2, (show Hid _ from by have k := X5.out; simp only [List.append_assoc, List.nil_append, List.append_nil] at k ⊢; exact k), (show Hid _ from ⟨by have k := SS.out; simp only [List.append_nil, List.nil_append]; first | exact k.2.1 | exact k.2.2.2 | exact List.Pairwise.nil, Eqk.refl _⟩)⟩
       go_end0
       obtain ⟨z1, z2⟩ := FIN.out C1 C2 Y5.out.1 Y5.out.2 Y6.out.1 Y6.out.2
       exact ⟨rfl, C1 ++ C2, by rw [List.append_assoc]; exact X6.out, z1, z2⟩
      ·exfalso
       omega
     ·by_cases d3 : en < b
      ·exfalso
       omega
      ·exfalso
       omega
    ·by_cases d2 : a < r
     ·by_cases d3 : en < b
      ·have k1 : ¬ (r : Int) < (m : Int) := by omega
       have k2 : ¬ (m : Int) < (en : Int) := by omega
       have k3 : (a : Int) < (r : Int) := by omega
       have k4 : ¬ (r : Int) < (mid : Int) := by omega
       have k5 : ¬ (mid : Int) < (en : Int) := by omega
       have k6 : (en : Int) < (b : Int) := by omega
       obtain rfl : A2 = [] := List.eq_nil_of_length_eq_zero (by omega)
       obtain rfl : B1 = [] := List.eq_nil_of_length_eq_zero (by omega)
       have X4 : Hid (Sz base g cap n w (P ++ (A1 ++ (([] : List Wr) ++ (([] : List Wr) ++ (B2 ++ Q))))) wr) := HS0.out
       clear CR HS0
       go_wp2_with fail
       obtain ⟨C1, X5, Y5, Z5⟩ : ∃ C1, Hid (Sz base g cap n w (P ++ (C1 ++ (([] : List Wr) ++ (B2 ++ Q)))) wr) ∧ Hid (Srt C1 ∧ Eqk (A1 ++ ([] : List Wr)) C1) ∧ Hid (C1.length = mid - a) := ⟨A1 ++ ([] : List Wr), (show Hid _ from by have k := X4.out; simp only [List.append_assoc, List.nil_append, List.append_nil] at k ⊢; exact k), (show Hid _ from ⟨by have k := SS.out; simp only [List.append_nil, List.nil_append]; first | exact k.1 | exact k.2.2.1 | exact List.Pairwise.nil, Eqk.refl _⟩), (show Hid _ from by show _ = _; rw [List.length_append]; simp only [List.length_nil] at *; omega)⟩
       obtain ⟨C2, X6, Y6⟩ : ∃ C2, Hid (Sz base g cap n w (P ++ (C1 ++ (C2 ++ Q))) wr) ∧ Hid (Srt C2 ∧ Eqk (([] : List Wr) ++ B2) C2) := ⟨([] : List Wr) ++ B2, (show Hid _ from by have k := X5.out; simp only [List.append_assoc, List.nil_append, List.append_nil] at k ⊢; exact k), (show Hid _ from ⟨by have k := SS.out; simp only [List.append_nil, List.nil_append]; first | exact k.2.1 | exact k.2.2.2 | exact List.Pairwise.nil, Eqk.refl _⟩)⟩
       go_end0
       obtain ⟨z1, z2⟩ := FIN.out C1 C2 Y5.out.1 Y5.out.2 Y6.out.1 Y6.out.2
       exact ⟨rfl, C1 ++ C2, by rw [List.append_assoc]; exact X6.out, z1, z2⟩
      ·exfalso
       omega
     ·by_cases d3 : en < b
      ·exfalso
       omega
      ·exfalso
       omega
theorem sym165 (hn : n ≤ 1000000) : ∀ N, Sym base g cap n w N
 | 0 => fun P A B Q W a m b h0 h1 h2 _ _ _ _ _ _ => by omega
 | N + 1 => fun P A B Q W a m b h0 h1 h2 sA sB h ha hm hb => by
  rcases Nat.lt_or_ge A.length 2 with c1 | c1
  ·obtain ⟨x, rfl⟩ : ∃ x, A = [x] := List.length_eq_one_iff.1 (by omega)
   exact sym165a P B Q x sB hn h a m b ha hm hb
  ·rcases Nat.lt_or_ge B.length 2 with c2 | c2
   ·obtain ⟨y, rfl⟩ : ∃ y, B = [y] := List.length_eq_one_iff.1 (by omega)
    exact sym165b P A Q y c1 sA hn h a m b ha hm hb
   ·rcases Nat.lt_or_ge ((a + b) / 2) m with c3 | c3
    ·exact sym165c N (sym165 hn N) P A B Q _ _ rfl rfl h0 c1 c2 sA sB hn h a m b _ ha hm hb rfl c3
    ·exact sym165d N (sym165 hn N) P A B Q _ _ rfl rfl h0 c1 c2 sA sB hn h a m b _ ha hm hb rfl c3
def Blk (k : Nat) (L : List Wr) : Prop := ∀ i, Srt ((L.drop (i * k)).take k)
theorem Blk.nil (k : Nat) : Blk k [] := fun i => by simp [Srt]
theorem Blk.snoc {k c : Nat} {D C : List Wr} (h : Blk k D) (hd : D.length = c * k) (hs : Srt C) (hc : C.length ≤ k) : Blk k (D ++ C) := fun i => by
 rcases Nat.lt_trichotomy i c with e | e | e
 ·have h1 : i * k + k ≤ c * k := by
   have := Nat.mul_le_mul_right k (show i + 1 ≤ c from e)
   rw [Nat.add_mul, Nat.one_mul] at this
   exact this
  rw [List.drop_append_of_le_length (by omega), List.take_append_of_le_length (by rw [List.length_drop]; omega)]
  exact h i
 ·subst e
  rw [← hd, List.drop_left, List.take_of_length_le hc]
  exact hs
 ·have h1 : c * k + k ≤ i * k := by
   have := Nat.mul_le_mul_right k (show c + 1 ≤ i from e)
   rw [Nat.add_mul, Nat.one_mul] at this
   exact this
  rw [List.drop_of_length_le (by rw [List.length_append]; omega)]
  simp [Srt]
theorem Blk.first {k : Nat} {L : List Wr} (h : Blk k L) : Srt (L.take k) := by
 have := h 0
 rw [Nat.zero_mul] at this
 exact this
theorem Blk.second {k : Nat} {L : List Wr} (h : Blk k L) : Srt ((L.drop k).take k) := by
 have := h 1
 rw [Nat.one_mul] at this
 exact this
theorem Blk.drop {k : Nat} {L : List Wr} (h : Blk k L) (c : Nat) : Blk k (L.drop (c * k)) := fun i => by
 have := h (c + i)
 rw [List.drop_drop, ← Nat.add_mul]
 exact this
theorem Eqk.mid {S D A R C : List Wr} (h : Eqk S (D ++ (A ++ R))) (hc : Eqk A C) : Eqk S (D ++ (C ++ R)) := h.trans ((Eqk.refl D).app (hc.app (Eqk.refl R)))
theorem stab151 (hn : n ≤ 1000000) (h : Sz base g cap n w S W) :
  Calls Tryz.prog 151 #[.slice (some ⟨g, 0, none⟩) n cap, iw (n : Int), .func (.func 122) #[] #[]] W fun e w' => e = .returned (.tuple #[]) ∧ ∃ L, Sz base g cap n w L w' ∧ Srt L ∧ Eqk S L := by
 have H : Hid (Sz base g cap n w S W) := h
 clear h
 go_enter Tryz.func151, Tryz.ntmps151
 go_wp2_with fail
 go_loopw [7, 8] (fun s t wr => ∃ (c a b : Nat) (D R : List Wr), s = iw (a : Int) ∧ t = iw (b : Int) ∧ c * 20 = a ∧ a + 20 = b ∧ D.length = a ∧ a + R.length = n ∧ Hid (Blk 20 D ∧ Eqk S (D ++ R)) ∧ Hid (Sz base g cap n w (D ++ R) wr)) (fun s t _ => n + 1 - (intOf t).toNat)
 case atStart => exact ⟨0, 0, 20, [], S, rfl, rfl, rfl, rfl, rfl, by have := H.out.len; omega, ⟨Blk.nil _, Eqk.refl _⟩, H.out⟩
 case round =>
  obtain ⟨c, a, b, D, R, rfl, rfl, hac, hab, hD, hR, HI, HS⟩ := hrel
  clear H
  by_cases hlt : b ≤ n
  ·have hlt' : (b : Int) ≤ (n : Int) := by omega
   have e1 : (R.take 20).length = 20 := by rw [List.length_take]; omega
   have C1 : Hid (1 = 1 → Calls Tryz.prog 164 #[.slice (some ⟨g, 0, none⟩) n cap, iw (a : Int), iw (b : Int), .func (.func 122) #[] #[]] wr fun e w' => e = .returned (.tuple #[]) ∧ ∃ C, Sz base g cap n w (D ++ C ++ R.drop 20) w' ∧ Srt C ∧ Eqk (R.take 20) C) := fun _ =>
    ins164 D (R.take 20) (R.drop 20) hn (by rw [List.append_assoc, List.take_append_drop]; exact HS.out) a b hD (by omega)
   have hb9 : b ≤ 1000000 := by omega
   have HQ : Hid (D ++ R = D ++ (R.take 20 ++ R.drop 20)) := by show _ = _; rw [List.take_append_drop]
   have e2 : (R.drop 20).length + 20 = R.length := by rw [List.length_drop]; omega
   clear HS
   generalize R.take 20 = R1 at *
   generalize R.drop 20 = R2 at *
   go_wp2_with (go_at_call 164; refine (C1.out (by trivial)).mono ?_; rintro e w2 ⟨rfl, C, h2, h3, h4⟩; have X2 : Hid _ := h2; have Y2 : Hid (Srt C ∧ Eqk R1 C) := ⟨h3, h4⟩; clear h2 h3 h4)
   go_roundw
   case rel =>
    have e3 : C.length = 20 := by rw [Y2.out.2.len]; exact e1
    exact ⟨c + 1, b, b + 20, D ++ C, R2, rfl, by go_num, by omega, rfl, by rw [List.length_append]; omega, by omega, ⟨HI.out.1.snoc (c := c) (by omega) Y2.out.1 (by omega), by
     have k := HI.out.2
     rw [HQ.out] at k
     rw [List.append_assoc]
     exact k.mid Y2.out.2⟩, X2.out⟩
   case measure => simp [intOf]; omega
  ·have hlt' : ¬ (b : Int) ≤ (n : Int) := by omega
   have C1 : Hid (1 = 1 → Calls Tryz.prog 164 #[.slice (some ⟨g, 0, none⟩) n cap, iw (a : Int), iw (n : Int), .func (.func 122) #[] #[]] wr fun e w' => e = .returned (.tuple #[]) ∧ ∃ C, Sz base g cap n w (D ++ C ++ []) w' ∧ Srt C ∧ Eqk R C) := fun _ =>
    ins164 D R [] hn (by rw [List.append_nil]; exact HS.out) a n hD (by omega)
   clear HS
   go_wp2_with (go_at_call 164; refine (C1.out (by trivial)).mono ?_; rintro e w2 ⟨rfl, C, h2, h3, h4⟩; have X2 : Hid _ := h2; have Y2 : Hid (Srt C ∧ Eqk R C) := ⟨h3, h4⟩; clear h2 h3 h4)
   have Z2 : Hid (∃ L, Sz base g cap n w L w2 ∧ Blk 20 L ∧ Eqk S L) := by
    have e3 : C.length = R.length := Y2.out.2.len
    have k := X2.out
    rw [List.append_nil] at k
    exact ⟨D ++ C, k, HI.out.1.snoc (c := c) (by omega) Y2.out.1 (by omega), HI.out.2.trans ((Eqk.refl D).app Y2.out.2)⟩
   clear X2 Y2 HI C1 hac hab hD hR hlt hlt'
   go_loopw [6] (fun s wr => ∃ k : Nat, s = iw (k : Int) ∧ 1 ≤ k ∧ k ≤ 2000000 ∧ Hid (∃ L, Sz base g cap n w L wr ∧ Blk k L ∧ Eqk S L)) (fun s _ => n - (intOf s).toNat)
   case atStart => exact ⟨20, rfl, by omega, by omega, Z2⟩
   case round =>
    obtain ⟨k, rfl, hk1, hk9, HL⟩ := hrel
    clear Z2
    by_cases hkn : k < n
    ·have hkn' : (k : Int) < (n : Int) := by omega
     have c1 : IntKind.i64.wrap (2 * (k : Int)) = ((2 * k : Nat) : Int) := by rw [IntKind.wrap_i64]; omega
     have c1' : IntKind.i64.wrap ((k : Int) * 2) = ((2 * k : Nat) : Int) := by rw [IntKind.wrap_i64]; omega
     obtain ⟨K2, hK2⟩ := xj (2 * k)
     rw [hK2] at c1 c1'
     go_wp2_with fail
     go_loopw [7, 8] (fun s t wr => ∃ (c a b : Nat) (D R : List Wr), s = iw (a : Int) ∧ t = iw (b : Int) ∧ Hid (a = c * K2) ∧ a + K2 = b ∧ D.length = a ∧ a + R.length = n ∧ Hid (Blk K2 D ∧ Blk k R ∧ Eqk S (D ++ R)) ∧ Hid (Sz base g cap n w (D ++ R) wr)) (fun s t _ => n + 1 - (intOf t).toNat)
     case atStart =>
      obtain ⟨L, l1, l2, l3⟩ := HL.out
      exact ⟨0, 0, K2, [], L, rfl, rfl, (show Hid _ from (Nat.zero_mul _).symm), by omega, rfl, by have := l1.len; omega, ⟨Blk.nil _, l2, l3⟩, l1⟩
     case round =>
      obtain ⟨c, a, b, D, R, rfl, rfl, HA, hab, hD, hR, HI, HS⟩ := hrel
      clear HL
      obtain ⟨m, hm⟩ := xj (a + k)
      have c2 : IntKind.i64.wrap ((a : Int) + (k : Int)) = (m : Int) := by rw [IntKind.wrap_i64]; omega
      by_cases hlt : b ≤ n
      ·have hlt' : (b : Int) ≤ (n : Int) := by omega
       have e1 : (R.take k).length = k := by rw [List.length_take]; omega
       have e2 : ((R.drop k).take k).length = k := by rw [List.length_take, List.length_drop]; omega
       have e4 : (R.drop (2 * k)).length + 2 * k = R.length := by rw [List.length_drop]; omega
       have HQ : Hid (R = R.take k ++ ((R.drop k).take k ++ R.drop (2 * k))) := by
        show _ = _
        have : R.drop (2 * k) = (R.drop k).drop k := by rw [List.drop_drop]; congr 1; omega
        rw [this, List.take_append_drop, List.take_append_drop]
       have HB : Hid (Srt (R.take k) ∧ Srt ((R.drop k).take k) ∧ Blk k (R.drop (2 * k))) := ⟨HI.out.2.1.first, HI.out.2.1.second, HI.out.2.1.drop 2⟩
       have C1 : Hid (1 = 1 → Calls Tryz.prog 165 #[.slice (some ⟨g, 0, none⟩) n cap, iw (a : Int), iw (m : Int), iw (b : Int), .func (.func 122) #[] #[]] wr fun e w' => e = .returned (.tuple #[]) ∧ ∃ C, Sz base g cap n w (D ++ (C ++ R.drop (2 * k))) w' ∧ Srt C ∧ Eqk (R.take k ++ (R.drop k).take k) C) := fun _ =>
        sym165 hn _ D (R.take k) ((R.drop k).take k) (R.drop (2 * k)) wr a m b (Nat.le_refl _) (by omega) (by omega) HB.out.1 HB.out.2.1 (by rw [← HQ.out]; exact HS.out) hD (by omega) (by omega)
       have HI2 : Hid (Blk K2 D ∧ Eqk S (D ++ ((R.take k ++ (R.drop k).take k) ++ R.drop (2 * k)))) := ⟨HI.out.1, by rw [List.append_assoc, ← HQ.out]; exact HI.out.2.2⟩
       have hb9 : b ≤ 1000000 := by omega
       have c3 : IntKind.i64.wrap ((b : Int) + (K2 : Int)) = ((b + K2 : Nat) : Int) := by rw [IntKind.wrap_i64]; omega
       clear HS HI HQ
       generalize R.take k = R1 at *
       generalize (R.drop k).take k = R2 at *
       generalize R.drop (2 * k) = R3 at *
       obtain ⟨b2, hb2⟩ := xj (b + K2)
       rw [hb2] at c3
       go_wp2_with (go_at_call 165; refine (C1.out (by trivial)).mono ?_; rintro e w2 ⟨rfl, C, h2, h3, h4⟩; have X2 : Hid _ := h2; have Y2 : Hid (Srt C ∧ Eqk (R1 ++ R2) C) := ⟨h3, h4⟩; clear h2 h3 h4)
       go_roundw
       case rel =>
        have e3 : C.length = k + k := by rw [Y2.out.2.len, List.length_append]; omega
        exact ⟨c + 1, b, b2, D ++ C, R3, rfl, rfl, (show Hid _ from by show _ = _; rw [Nat.add_mul, Nat.one_mul, ← HA.out]; exact hab.symm), by omega, by rw [List.length_append]; omega, by omega, ⟨HI2.out.1.snoc (c := c) (by rw [hD]; exact HA.out) Y2.out.1 (by omega), HB.out.2.2, by
         rw [List.append_assoc]
         exact HI2.out.2.mid Y2.out.2⟩, by have q := X2.out; rw [← List.append_assoc] at q; exact q⟩
       case measure => simp [intOf]; omega
      ·have hlt' : ¬ (b : Int) ≤ (n : Int) := by omega
       have hK9 : K2 ≤ 2000000 := by omega
       by_cases hmn : m < n
       ·have hmn' : (m : Int) < (n : Int) := by omega
        have e1 : (R.take k).length = k := by rw [List.length_take]; omega
        have e2 : (R.drop k).length + k = R.length := by rw [List.length_drop]; omega
        have C1 : Hid (1 = 1 → Calls Tryz.prog 165 #[.slice (some ⟨g, 0, none⟩) n cap, iw (a : Int), iw (m : Int), iw (n : Int), .func (.func 122) #[] #[]] wr fun e w' => e = .returned (.tuple #[]) ∧ ∃ C, Sz base g cap n w (D ++ (C ++ [])) w' ∧ Srt C ∧ Eqk (R.take k ++ R.drop k) C) := fun _ =>
         sym165 hn _ D (R.take k) (R.drop k) [] wr a m n (Nat.le_refl _) (by omega) (by omega) HI.out.2.1.first (by have q := HI.out.2.1.second; rw [List.take_of_length_le (by omega)] at q; exact q) (by rw [List.append_nil, List.take_append_drop]; exact HS.out) hD (by omega) (by omega)
        rw [List.take_append_drop] at C1
        clear HS
        go_wp2_with (go_at_call 165; refine (C1.out (by trivial)).mono ?_; rintro e w2 ⟨rfl, C, h2, h3, h4⟩; have X2 : Hid _ := h2; have Y2 : Hid (Srt C ∧ Eqk R C) := ⟨h3, h4⟩; clear h2 h3 h4)
        go_roundw
        case rel =>
         have e3 : C.length = R.length := Y2.out.2.len
         exact ⟨K2, rfl, by omega, hK9, D ++ C, by have q := X2.out; rw [List.append_nil] at q; exact q, HI.out.1.snoc (c := c) (by rw [hD]; exact HA.out) Y2.out.1 (by omega), HI.out.2.2.trans ((Eqk.refl D).app Y2.out.2)⟩
        case measure => simp [intOf]; omega
       ·have hmn' : ¬ (m : Int) < (n : Int) := by omega
        go_wp2_with fail
        go_roundw
        case rel => exact ⟨K2, rfl, by omega, hK9, D ++ R, HS.out, HI.out.1.snoc (c := c) (by rw [hD]; exact HA.out) (by have q := HI.out.2.1.first; rw [List.take_of_length_le (by omega)] at q; exact q) (by omega), HI.out.2.2⟩
        case measure => simp [intOf]; omega
    ·have hkn' : ¬ (k : Int) < (n : Int) := by omega
     go_wp2_with fail
     go_end0
     obtain ⟨L, l1, l2, l3⟩ := HL.out
     exact ⟨rfl, L, l1, by have q := l2.first; rw [List.take_of_length_le (by rw [l1.len]; omega)] at q; exact q, l3⟩
theorem sort121 (hn : n ≤ 1000000) (h : Sz base g cap n w S W) :
  Calls Tryz.prog 121 #[.slice (some ⟨g, 0, none⟩) n cap, .func (.func 122) #[] #[]] W fun e w' => e = .returned (.tuple #[]) ∧ ∃ L, Sz base g cap n w L w' ∧ Srt L ∧ Eqk S L := by
 have C1 : Hid (1 = 1 → Calls Tryz.prog 151 #[.slice (some ⟨g, 0, none⟩) n cap, iw (n : Int), .func (.func 122) #[] #[]] W fun e w' => e = .returned (.tuple #[]) ∧ ∃ L, Sz base g cap n w L w' ∧ Srt L ∧ Eqk S L) := fun _ => stab151 hn h
 clear h
 go_enter Tryz.func121, Tryz.ntmps121
 go_wp2_with (go_at_call 151; refine (C1.out (by trivial)).mono ?_; rintro e w2 ⟨rfl, L, h2, h3, h4⟩)
 go_end0
 exact ⟨rfl, L, h2, h3, h4⟩
end Go.Proofs.YtkdkgdollmmcnaaGreat
