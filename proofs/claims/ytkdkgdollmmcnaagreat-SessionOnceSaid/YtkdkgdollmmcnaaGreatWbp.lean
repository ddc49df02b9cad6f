import Derived.Test.YtkdkgdollmmcnaaGreatWbo
set_option maxHeartbeats 4000000
set_option maxRecDepth 100000
set_option linter.unusedVariables false
set_option linter.unusedSimpArgs false
namespace Go.Proofs.YtkdkgdollmmcnaaGreat
open Go.RowKit Go.Sort Go.Shelf
variable {base g cap n : Nat} {w W W' : World} {S : List Wr}
theorem lt_le {a b c : List UInt8} (h1 : ¬ b < a) (h2 : c < a) : c < b := by
 by_cases h : c < b
 ·exact h
 ·exact absurd (List.lt_of_le_of_lt (show b ≤ c from h) h2) h1
theorem sym165b (P A Q : List Wr) (y : Wr) (hA : 2 ≤ A.length) (hs : Srt A) (hn : n ≤ 1000000) (h : Sz base g cap n w (P ++ (A ++ y :: Q)) W) (a m b : Nat) (ha : P.length = a) (hm : a + A.length = m) (hb : m + 1 = b) :
  Calls Tryz.prog 165 #[.slice (some ⟨g, 0, none⟩) n cap, iw (a : Int), iw (m : Int), iw (b : Int), .func (.func 122) #[] #[]] W fun e w' => e = .returned (.tuple #[]) ∧ ∃ C, Sz base g cap n w (P ++ (C ++ Q)) w' ∧ Srt C ∧ Eqk (A ++ [y]) C := by
 have hl := h.len
 simp only [List.length_append, List.length_cons] at hl
 have H : Hid (Sz base g cap n w (P ++ (A ++ y :: Q)) W) := h
 have HSr : Hid (Srt A) := hs
 have hm9 : m < n := by omega
 obtain ⟨l, hlA⟩ := xj A.length
 have c0 : IntKind.i64.wrap ((m : Int) - (a : Int)) = (l : Int) := by rw [IntKind.wrap_i64]; omega
 have c00 : ((l : Int) == 1) = false := by simp; omega
 have c0b : IntKind.i64.wrap ((b : Int) - (m : Int)) = 1 := by rw [IntKind.wrap_i64]; omega
 obtain ⟨L, hL⟩ := xj (P ++ (A ++ y :: Q))
 have HLL : Hid (P ++ (A ++ y :: Q) = L) := hL
 have GM : Hid (L.getD m wz = y) := by
  show _ = _
  have k := getD_app (P ++ A) [y] Q (t := 0) (by simp)
  rw [List.length_append, ha, hm, Nat.add_zero, List.append_assoc] at k
  rw [← hL]
  exact k
 have GB : Hid (∀ t, t < A.length → L.getD (a + t) wz = A.getD t wz) := fun t ht => by
  have k := getD_app P A (y :: Q) ht
  rw [ha] at k
  rw [← hL]
  exact k
 rw [hL] at H
 rw [hlA] at hm hl GB
 clear h hs hL hA
 go_enter Tryz.func165, Tryz.ntmps165
 go_wp2_with fail
 go_loopw [14, 15] (fun s t wr => ∃ lo hi : Nat, s = iw ((a + lo : Nat) : Int) ∧ t = iw ((a + hi : Nat) : Int) ∧ lo ≤ hi ∧ hi ≤ l ∧ Hid ((∀ t, t < lo → ¬ y.key < (A.getD t wz).key) ∧ (∀ t, hi ≤ t → t < l → y.key < (A.getD t wz).key)) ∧ Hid (Sz base g cap n w L wr)) (fun s t _ => (intOf t).toNat - (intOf s).toNat)
 case atStart => exact ⟨0, l, rfl, by rw [hm], Nat.zero_le _, Nat.le_refl _, ⟨fun t ht => absurd ht (by omega), fun t h1 h2 => by omega⟩, H.out⟩
 case round =>
  obtain ⟨lo, hi, rfl, rfl, hlh, hhi, HI, HS⟩ := hrel
  clear H c0 c00 c0b
  by_cases hlt : lo < hi
  ·obtain ⟨i, hi'⟩ := xj (a + lo)
   obtain ⟨j, hj'⟩ := xj (a + hi)
   obtain ⟨t, ht⟩ := xj ((lo + hi) / 2)
   obtain ⟨q, hq⟩ := xj (a + t)
   have hmid : ((i : Int) + (j : Int)) / 2 = (q : Int) := by omega
   have hij : (i : Int) < (j : Int) := by omega
   obtain ⟨v, gv⟩ := xj (L.getD q wz)
   have gu := GM.out
   have HU : Hid (A.getD t wz = v) := by show _ = _; rw [← GB.out t (by omega), hq]; exact gv
   have hn1 : m < n := by omega
   have hn2 : q < n := by omega
   have htb : lo ≤ t ∧ t < hi := by omega
   have hi9 : i < 1000000 := by omega
   have hj9 : j ≤ 1000000 := by omega
   rw [hi', hj']
   have SN : Hid (∀ W, Sz base g cap n w L W → W.rangeAt g (m * 3) (wrc y) ∧ W.rangeAt g (q * 3) (wrc v)) := fun W s => ⟨by rw [← gu]; exact s.rng hn1, by rw [← gv]; exact s.rng hn2⟩
   have C122 : Hid (∀ W, Sz base g cap n w L W → Calls Tryz.prog 122 #[.agg (wrc y).toArray, .agg (wrc v).toArray] W fun e w' => e = .returned (iw (cmpF y.key v.key)) ∧ Sz base g cap n w L w') := fun W s => (cmp122 y v W).mono fun e w' q => ⟨q.1, s.on q.2⟩
   have HD : Hid (Sz base g cap n w L wr.drew) := HS.out.drew
   obtain ⟨z, hz⟩ := xj (cmpF y.key v.key)
   have HZ : Hid (z < 0 ↔ y.key < v.key) := by show _ ↔ _; rw [← hz]; exact cmpF_lt _ _
   rw [hz] at C122
   clear hz gu gv HS
   clear GM GB
   by_cases hlv : z < 0
   ·go_wp2_with fail
    refine wp_region_held_drew (S := (fun W => W.rangeAt g (m * 3) (wrc y) ∧ W.rangeAt g (q * 3) (wrc v))) (by kernel_rfl) (SN.out _ HD.out) (fun hHeld => ?_)
    refine tq 0 ?_
    refine tq 1 ?_
    refine tq 2 ?_
    refine tq 3 ?_
    refine tl 4 70 g (m * 3) (wrc y) (fun W hW => hW.1) Tryz.underlying70 ?_
    refine tq 5 ?_
    refine tq 6 ?_
    refine tq 7 ?_
    refine tl 8 70 g (q * 3) (wrc v) (fun W hW => hW.2) Tryz.underlying70 ?_
    refine rd 9 (fun K hK => ?_)
    go_simp
    refine (C122.out _ HD.out).mono ?_
    rintro e w3 ⟨rfl, h3⟩
    have X3 : Hid _ := h3
    clear h3
    go_wp2_with fail
    refine kj hK (SN.out _ X3.out) (fun hHeld => ?_)
    clear hK K
    refine tq 10 ?_
    refine tq 11 ?_
    refine wpAnyH_done (by kernel_rfl) ?_ _
    clear hHeld SN C122 HD
    go_wp2_with fail
    go_roundw
    case rel => exact ⟨lo, t, by rw [hi'], by rw [hq], by omega, by omega, ⟨HI.out.1, fun k hk hkb => by
     have k1 := HSr.out.get (i := t) (j := k) (by omega) (by rw [hlA]; omega)
     rw [HU.out] at k1
     exact lt_le k1 (HZ.out.1 hlv)⟩, X3.out⟩
    case measure => simp [intOf]; omega
   ·have HV : Hid (¬ z < 0) := hlv
    have hz0 : 0 ≤ z := Int.not_lt.1 hlv
    have hz1 : decide (z < 0) = false := decide_eq_false hlv
    go_wp2_with fail
    refine wp_region_held_drew (S := (fun W => W.rangeAt g (m * 3) (wrc y) ∧ W.rangeAt g (q * 3) (wrc v))) (by kernel_rfl) (SN.out _ HD.out) (fun hHeld => ?_)
    refine tq 0 ?_
    refine tq 1 ?_
    refine tq 2 ?_
    refine tq 3 ?_
    refine tl 4 70 g (m * 3) (wrc y) (fun W hW => hW.1) Tryz.underlying70 ?_
    refine tq 5 ?_
    refine tq 6 ?_
    refine tq 7 ?_
    refine tl 8 70 g (q * 3) (wrc v) (fun W hW => hW.2) Tryz.underlying70 ?_
    refine rd 9 (fun K hK => ?_)
    go_simp
    refine (C122.out _ HD.out).mono ?_
    rintro e w3 ⟨rfl, h3⟩
    have X3 : Hid _ := h3
    clear h3
    go_wp2_with fail
    refine kj hK (SN.out _ X3.out) (fun hHeld => ?_)
    clear hK K
    refine tq 10 ?_
    refine tq 11 ?_
    refine wpAnyH_done (by kernel_rfl) ?_ _
    clear hHeld SN C122 HD
    go_wp2_with fail
    go_roundw
    case rel => exact ⟨t + 1, hi, by rw [show a + (t + 1) = q + 1 by omega]; go_num, by rw [hj'], by omega, hhi, ⟨fun k hk => by
     have k1 := HSr.out.get (i := k) (j := t) (by omega) (by rw [hlA]; omega)
     rw [HU.out] at k1
     exact fun e => by have e1 := HZ.out.2 (lt_le k1 e); have e2 := HV.out; omega, HI.out.2⟩, X3.out⟩
    case measure => simp [intOf]; omega
  ·have hlo : hi = lo := by omega
   subst hlo
   have HR : Hid (Srt (A.take hi ++ y :: A.drop hi) ∧ Eqk (A ++ [y]) (A.take hi ++ y :: A.drop hi)) := one_last HSr.out (fun t h1 _ => HI.out.1 t h1) (fun t h1 h2 => HI.out.2 t h1 (by rw [hlA] at h2; exact h2))
   obtain ⟨i, hi'⟩ := xj (a + hi)
   have hii : ¬ (i : Int) < (i : Int) := by omega
   have hB1 : (A.take hi).length = hi := by rw [List.length_take]; omega
   have hB2 : (A.drop hi).length = l - hi := by rw [List.length_drop]; omega
   have HS1 : Hid (Sz base g cap n w (P ++ A.take hi ++ A.drop hi ++ y :: (([] : List Wr) ++ Q)) wr) := by
    show Sz _ _ _ _ _ _ _
    rw [List.append_assoc P, List.take_append_drop, List.append_assoc, List.nil_append, HLL.out]
    exact HS.out
   clear HI HS GM GB HSr HLL
   generalize A.take hi = B1 at *
   generalize A.drop hi = B2 at *
   rw [hi']
   go_wp2_with fail
   go_loopw [17] (fun s wr => ∃ D E : List Wr, s = iw ((i + D.length : Nat) : Int) ∧ D.length + E.length = l - hi ∧ Hid (D ++ E = B2) ∧ Hid (Sz base g cap n w (P ++ B1 ++ D ++ y :: (E ++ Q)) wr)) (fun s _ => (intOf s).toNat)
   case atStart => exact ⟨B2, [], by rw [hB2]; congr 1; omega, by simp [hB2], List.append_nil _, HS1.out⟩
   case round =>
    obtain ⟨D, E, rfl, hde, HE, HS⟩ := hrel
    clear HS1
    rcases List.eq_nil_or_concat D with rfl | ⟨D, d, rfl⟩
    ·have hlt2 : ¬ (i : Int) < ((i + ([] : List Wr).length : Nat) : Int) := by simp
     have HEE : Hid (E = B2) := HE.out
     go_wp2_with fail
     refine bodyPost_ret (results_none rfl _ _ _) rfl ?_
     refine ⟨rfl, B1 ++ y :: B2, ?_, HR.out.1, HR.out.2⟩
     have k := HS.out
     rw [HEE.out] at k
     simpa using k
    ·rw [List.concat_eq_append] at *
     rw [List.length_append, List.length_singleton] at *
     obtain ⟨q, hq⟩ := xj (P ++ B1 ++ D).length
     obtain ⟨p, hp⟩ := xj (q + 1)
     have hpd : i + (D.length + 1) = p := by rw [← hp, ← hq, List.length_append, List.length_append]; omega
     obtain ⟨gx, gy⟩ := get_adj (P ++ B1 ++ D) (E ++ Q) y d
     have ga := swp_adj (P ++ B1 ++ D) (E ++ Q) y d
     rw [hq, hp] at gx ga
     rw [hq] at gy
     replace HS : Hid (Sz base g cap n w (P ++ B1 ++ D ++ d :: y :: (E ++ Q)) wr) := by
      have k := HS.out
      rw [show P ++ B1 ++ (D ++ [d]) ++ y :: (E ++ Q) = P ++ B1 ++ D ++ d :: y :: (E ++ Q) by simp] at k
      exact k
     have hpn : p < n := by have := HS.out.len; simp only [List.length_append, List.length_cons] at this hq; omega
     have hqn : q < n := by omega
     have hlt2 : (i : Int) < (p : Int) := by omega
     have c2 : IntKind.i64.wrap ((p : Int) - 1) = (q : Int) := by rw [IntKind.wrap_i64]; omega
     rw [hpd]
     have hp9 : p < 1000000 := by omega
     have HE2 : Hid (D ++ d :: E = B2) := by show _ = _; rw [← HE.out]; simp
     have hd := HS.out.drew
     have S2 : Hid (Sz base g cap n w (P ++ B1 ++ D ++ y :: d :: (E ++ Q)) ((wr.drew.setCells g (p * 3) (wrc d)).setCells g (q * 3) (wrc y))) := by
      have k := hd.swp (i := p) (j := q) hpn hqn
      rw [gx, gy, ga] at k
      exact k
     have RX : Hid (wr.drew.rangeAt g (p * 3) (wrc y)) := by have k := hd.rng (i := p) hpn; rw [gx] at k; exact k
     have RY : Hid (wr.drew.rangeAt g (q * 3) (wrc d)) := by have k := hd.rng (i := q) hqn; rw [gy] at k; exact k
     have TA : Hid (wr.drew.there g (p * 3) 3) := hd.there hpn
     have TB : Hid ((wr.drew.setCells g (p * 3) (wrc d)).there g (q * 3) 3) := (hd.put (i := p) hpn d).there hqn
     clear gx gy ga hd HS
     go_wp2_with fail
     refine wp_region_held_drew (S := (fun _ => True)) (by kernel_rfl) trivial (fun hHeld => ?_)
     refine tq 0 ?_
     refine tq 1 ?_
     refine tq 2 ?_
     refine tq 3 ?_
     refine tq 4 ?_
     refine tq 5 ?_
     refine tq 6 ?_
     refine tq 7 ?_
     refine tq 8 ?_
     refine tq 10 ?_
     refine tq 11 ?_
     refine tq 12 ?_
     refine wpAnyH_ready (rs := [9, 13]) (by kernel_rfl) (by simp) ?_
     refine AllReadyH.cons rfl (fun K hK => ?_) (AllReadyH.cons rfl (fun K hK => ?_) AllReadyH.nil)
     ·rw [if_pos (by rfl)]
      refine wp_load_mid 70 _ rfl g (q * 3) (by simp [Act.eval, Act.put]) (wrc d) _ RY.out Tryz.underlying70 rfl rfl ?_
      refine kj hK trivial (fun hHeld => ?_)
      clear hK K
      refine rd 13 (fun K hK => ?_)
      rw [if_pos (by rfl)]
      refine wp_load_mid 70 _ rfl g (p * 3) (by simp [Act.eval, Act.put]) (wrc y) _ RX.out Tryz.underlying70 rfl rfl ?_
      refine kj hK trivial (fun hHeld => ?_)
      clear hK K
      refine tq 14 ?_
      refine rd 15 (fun K hK => ?_)
      rw [if_pos (by rfl)]
      refine wp_store_mid 70 _ _ rfl g (p * 3) (wrc d).toArray (by simp [Act.eval, Act.put]) (by simp [Act.eval, Act.put]) TA.out rfl (all_oneCell_toArray (wrc_one d)) ?_
      refine kj hK trivial (fun hHeld => ?_)
      clear hK K
      refine tq 16 ?_
      refine rd 17 (fun K hK => ?_)
      rw [if_pos (by rfl)]
      refine wp_store_mid 70 _ _ rfl g (q * 3) (wrc y).toArray (by simp [Act.eval, Act.put]) (by simp [Act.eval, Act.put]) TB.out rfl (all_oneCell_toArray (wrc_one y)) ?_
      refine kj hK trivial (fun hHeld => ?_)
      clear hK K
      refine wpAnyH_done (by kernel_rfl) ?_ _
      clear hHeld TA TB RX RY
      generalize (wr.drew.setCells g (p * 3) (wrc d)).setCells g (q * 3) (wrc y) = w2 at S2 ⊢
      go_wp2_with fail
      go_roundw
      case rel => exact ⟨D, d :: E, by congr 1; simp only [List.length_append] at hq; omega, by rw [List.length_cons]; omega, HE2.out, S2.out⟩
      case measure => simp [intOf]; omega
     ·rw [if_pos (by rfl)]
      refine wp_load_mid 70 _ rfl g (p * 3) (by simp [Act.eval, Act.put]) (wrc y) _ RX.out Tryz.underlying70 rfl rfl ?_
      refine kj hK trivial (fun hHeld => ?_)
      clear hK K
      refine rd 9 (fun K hK => ?_)
      rw [if_pos (by rfl)]
      refine wp_load_mid 70 _ rfl g (q * 3) (by simp [Act.eval, Act.put]) (wrc d) _ RY.out Tryz.underlying70 rfl rfl ?_
      refine kj hK trivial (fun hHeld => ?_)
      clear hK K
      refine tq 14 ?_
      refine rd 15 (fun K hK => ?_)
      rw [if_pos (by rfl)]
      refine wp_store_mid 70 _ _ rfl g (p * 3) (wrc d).toArray (by simp [Act.eval, Act.put]) (by simp [Act.eval, Act.put]) TA.out rfl (all_oneCell_toArray (wrc_one d)) ?_
      refine kj hK trivial (fun hHeld => ?_)
      clear hK K
      refine tq 16 ?_
      refine rd 17 (fun K hK => ?_)
      rw [if_pos (by rfl)]
      refine wp_store_mid 70 _ _ rfl g (q * 3) (wrc y).toArray (by simp [Act.eval, Act.put]) (by simp [Act.eval, Act.put]) TB.out rfl (all_oneCell_toArray (wrc_one y)) ?_
      refine kj hK trivial (fun hHeld => ?_)
      clear hK K
      refine wpAnyH_done (by kernel_rfl) ?_ _
      clear hHeld TA TB RX RY
      generalize (wr.drew.setCells g (p * 3) (wrc d)).setCells g (q * 3) (wrc y) = w2 at S2 ⊢
      go_wp2_with fail
      go_roundw
      case rel => exact ⟨D, d :: E, by congr 1; simp only [List.length_append] at hq; omega, by rw [List.length_cons]; omega, HE2.out, S2.out⟩
      case measure => simp [intOf]; omega
def Sym (base g cap n : Nat) (w : World) (N : Nat) : Prop := ∀ (P A B Q : List Wr) (W : World) (a m b : Nat), A.length + B.length ≤ N → 1 ≤ A.length → 1 ≤ B.length → Srt A → Srt B → Sz base g cap n w (P ++ (A ++ (B ++ Q))) W → P.length = a → a + A.length = m → m + B.length = b →
 Calls Tryz.prog 165 #[.slice (some ⟨g, 0, none⟩) n cap, iw (a : Int), iw (m : Int), iw (b : Int), .func (.func 122) #[] #[]] W fun e w' => e = .returned (.tuple #[]) ∧ ∃ C, Sz base g cap n w (P ++ (C ++ Q)) w' ∧ Srt C ∧ Eqk (A ++ B) C
theorem Eqk.len {A B : List Wr} (h : Eqk A B) : B.length = A.length := by
 classical
 have hp : B.Perm A := by
  rw [List.perm_iff_count]
  intro x
  have e : ∀ L : List Wr, L.count x = (L.filter (fun z => decide (z.key = x.key))).count x := fun L => by
   rw [List.count_filter]
   simp
  rw [e B, e A, h]
 exact hp.length_eq
theorem sym_parts {A B : List Wr} {s e : Nat} (hA : Srt A) (hB : Srt B) (h1 : ∀ x ∈ A.take s, ∀ y ∈ B.drop e, ¬ y.key < x.key) (h2 : ∀ x ∈ A.drop s, ∀ y ∈ B.take e, y.key < x.key) {C1 C2 : List Wr}
  (k1 : Srt C1) (q1 : Eqk (A.take s ++ B.take e) C1) (k2 : Srt C2) (q2 : Eqk (A.drop s ++ B.drop e) C2) : Srt (C1 ++ C2) ∧ Eqk (A ++ B) (C1 ++ C2) := by
 have hA' : Srt (A.take s ++ A.drop s) := by rw [List.take_append_drop]; exact hA
 have hB' : Srt (B.take e ++ B.drop e) := by rw [List.take_append_drop]; exact hB
 constructor
 ·refine Srt.app.2 ⟨k1, k2, fun x hx y hy => ?_⟩
  rw [q1.mem, List.mem_append] at hx
  rw [q2.mem, List.mem_append] at hy
  rcases hx with hx | hx <;> rcases hy with hy | hy
  ·exact (Srt.app.1 hA').2.2 x hx y hy
  ·exact h1 x hx y hy
  ·exact lt_nlt (h2 y hy x hx)
  ·exact (Srt.app.1 hB').2.2 x hx y hy
 ·have e1 := ((Eqk.refl (A.take s)).app (Eqk.blocks (U := A.drop s) (V := B.take e) h2)).app (Eqk.refl (B.drop e))
  have e2 : A ++ B = (A.take s ++ (A.drop s ++ B.take e)) ++ B.drop e := by
   rw [← List.append_assoc, List.take_append_drop, List.append_assoc, List.take_append_drop]
  rw [e2]
  refine e1.trans ?_
  have e3 := q1.app q2
  rw [show A.take s ++ (B.take e ++ A.drop s) ++ B.drop e = A.take s ++ B.take e ++ (A.drop s ++ B.drop e) by simp]
  exact e3
theorem sym_search {A B : List Wr} {a mid lo hi st : Nat} (hA : Srt A) (hB : Srt B) (h0 : a ≤ lo) (h1 : lo ≤ st) (h2 : st ≤ hi) (hm : hi ≤ mid) (hh : hi ≤ a + A.length) (hb : mid - lo ≤ B.length) (hlo : lo = a ∨ mid - lo = B.length) (hhi : hi = mid ∨ hi = a + A.length)
  (i1 : st = lo ∨ ¬ (B.getD (mid - st) wz).key < (A.getD (st - 1 - a) wz).key) (i2 : st = hi ∨ (B.getD (mid - st - 1) wz).key < (A.getD (st - a) wz).key) :
  (∀ x ∈ A.take (st - a), ∀ y ∈ B.drop (mid - st), ¬ y.key < x.key) ∧ (∀ x ∈ A.drop (st - a), ∀ y ∈ B.take (mid - st), y.key < x.key) := by
 constructor
 ·intro x hx y hy
  obtain ⟨t, ht, ht', rfl⟩ := mem_take_get hx
  obtain ⟨u, hu, hu', rfl⟩ := mem_drop_get hy
  rcases i1 with e | i1
  ·subst e
   rcases hlo with e | e <;> omega
  ·by_cases e : st = lo
   ·subst e
    rcases hlo with e | e <;> omega
   ·have g1 := hA.get (i := t) (j := st - 1 - a) (by omega) (by omega)
    have g2 := hB.get (i := mid - st) (j := u) hu hu'
    exact nlt_trans (nlt_trans g1 i1) g2
 ·intro x hx y hy
  obtain ⟨t, ht, ht', rfl⟩ := mem_drop_get hx
  obtain ⟨u, hu, hu', rfl⟩ := mem_take_get hy
  rcases i2 with e | i2
  ·subst e
   rcases hhi with e | e <;> omega
  ·by_cases e : st = hi
   ·subst e
    rcases hhi with e | e <;> omega
   ·have g1 := hA.get (i := st - a) (j := t) ht ht'
    have g2 := hB.get (i := u) (j := mid - st - 1) (by omega) (by omega)
    exact lt_le g1 (key_lt g2 i2)
theorem sym165c (N : Nat) (IH : Sym base g cap n w N) (P A B Q : List Wr) (l1 l2 : Nat) (hA : A.length = l1) (hB : B.length = l2) (hN : l1 + l2 ≤ N + 1) (h1 : 2 ≤ l1) (h2 : 2 ≤ l2) (sA : Srt A) (sB : Srt B) (hn : n ≤ 1000000) (h : Sz base g cap n w (P ++ (A ++ (B ++ Q))) W) (a m b mid : Nat) (ha : P.length = a) (hm : a + l1 = m) (hb : m + l2 = b) (hd : (a + b) / 2 = mid) (hmm : mid < m) :
  Calls Tryz.prog 165 #[.slice (some ⟨g, 0, none⟩) n cap, iw (a : Int), iw (m : Int), iw (b : Int), .func (.func 122) #[] #[]] W fun e w' => e = .returned (.tuple #[]) ∧ ∃ C, Sz base g cap n w (P ++ (C ++ Q)) w' ∧ Srt C ∧ Eqk (A ++ B) C := by
 have hl := h.len
 simp only [List.length_append, hA, hB, ha] at hl
 have H : Hid (Sz base g cap n w (P ++ (A ++ (B ++ Q))) W) := h
 have HIH : Hid (Sym base g cap n w N) := IH
 have HSA : Hid (Srt A ∧ Srt B) := ⟨sA, sB⟩
 have hb9 : b ≤ n := by omega
 obtain ⟨nn, hnn⟩ := xj (mid + m)
 obtain ⟨lo, hlo⟩ := xj (nn - b)
 obtain ⟨pp, hpp⟩ := xj (nn - 1)
 have c0 : IntKind.i64.wrap ((m : Int) - (a : Int)) = (l1 : Int) := by rw [IntKind.wrap_i64]; omega
 have c00 : ((l1 : Int) == 1) = false := by simp; omega
 have c1 : IntKind.i64.wrap ((b : Int) - (m : Int)) = (l2 : Int) := by rw [IntKind.wrap_i64]; omega
 have c11 : ((l2 : Int) == 1) = false := by simp; omega
 have hmid : ((a : Int) + (b : Int)) / 2 = (mid : Int) := by omega
 have c2 : IntKind.i64.wrap ((mid : Int) + (m : Int)) = (nn : Int) := by rw [IntKind.wrap_i64]; omega
 have c3 : IntKind.i64.wrap ((nn : Int) - 1) = (pp : Int) := by rw [IntKind.wrap_i64]; omega
 have c4 : IntKind.i64.wrap ((nn : Int) - (b : Int)) = (lo : Int) := by rw [IntKind.wrap_i64]; omega
 have hmi : (mid : Int) < (m : Int) := by omega
 have b1 : a ≤ lo ∧ lo ≤ mid ∧ mid ≤ mid ∧ mid ≤ m ∧ mid - lo ≤ l2 ∧ lo ≤ mid ∧ m < nn ∧ nn - lo ≤ b := by omega
 have b2 : lo = a ∨ mid - lo = l2 := by omega
 have b3 : mid = mid ∨ mid = a + l1 := by omega
 obtain ⟨L, hL⟩ := xj (P ++ (A ++ (B ++ Q)))
 have HLL : Hid (P ++ (A ++ (B ++ Q)) = L) := hL
 have GA : Hid (∀ t, t < l1 → L.getD (a + t) wz = A.getD t wz) := fun t ht => by
  have k := getD_app P A (B ++ Q) (t := t) (by omega)
  rw [ha, hL] at k
  exact k
 have GB : Hid (∀ t, t < l2 → L.getD (m + t) wz = B.getD t wz) := fun t ht => by
  have k := getD_app (P ++ A) B Q (t := t) (by omega)
  rw [List.length_append, ha, hA, hm, List.append_assoc, hL] at k
  exact k
 rw [hL] at H
 have hm9 : m < 1000000 ∧ b ≤ 1000000 ∧ mid < 1000000 ∧ nn < 2000000 := by omega
 have HC : Hid (∀ st, lo ≤ st → st ≤ mid → (st = lo ∨ ¬ (B.getD (mid - st) wz).key < (A.getD (st - 1 - a) wz).key) → (st = mid ∨ (B.getD (mid - st - 1) wz).key < (A.getD (st - a) wz).key) → (∀ x ∈ A.take (st - a), ∀ y ∈ B.drop (mid - st), ¬ y.key < x.key) ∧ (∀ x ∈ A.drop (st - a), ∀ y ∈ B.take (mid - st), y.key < x.key)) := fun st e1 e2 => sym_search sA sB (by omega) e1 e2 (by omega) (by omega) (by omega) (by omega) (by omega)
 clear h IH sA sB hL
 go_enter Tryz.func165, Tryz.ntmps165
 go_wp2_with fail
 go_loopw [20, 21] (fun s t wr => ∃ st r : Nat, s = iw (st : Int) ∧ t = iw (r : Int) ∧ lo ≤ st ∧ st ≤ r ∧ r ≤ mid ∧ Hid (st = lo ∨ ¬ (B.getD (mid - st) wz).key < (A.getD (st - 1 - a) wz).key) ∧ Hid (r = mid ∨ (B.getD (mid - r - 1) wz).key < (A.getD (r - a) wz).key) ∧ Hid (Sz base g cap n w L wr)) (fun s t _ => (intOf t).toNat - (intOf s).toNat)
 case atStart => exact ⟨lo, mid, rfl, rfl, Nat.le_refl _, by omega, Nat.le_refl _, .inl rfl, .inl rfl, H.out⟩
 case round =>
  obtain ⟨st, r, rfl, rfl, hs1, hs2, hs3, I1, I2, HS⟩ := hrel
  clear H c0 c00 c1 c11 c2 c3 c4
  by_cases hlt : st < r
  ·obtain ⟨q, hq⟩ := xj ((st + r) / 2)
   obtain ⟨o1, ho1⟩ := xj (pp - q)
   have hq2 : ((st : Int) + (r : Int)) / 2 = (q : Int) := by omega
   have hij : (st : Int) < (r : Int) := by omega
   have hqb : st ≤ q ∧ q < r := by omega
   have c5 : IntKind.i64.wrap ((pp : Int) - (q : Int)) = (o1 : Int) := by rw [IntKind.wrap_i64]; omega
   obtain ⟨u, gu⟩ := xj (L.getD o1 wz)
   obtain ⟨v, gv⟩ := xj (L.getD q wz)
   have HU : Hid (B.getD (mid - q - 1) wz = u) := by show _ = _; rw [← GB.out (mid - q - 1) (by omega), show m + (mid - q - 1) = o1 by omega]; exact gu
   have HV2 : Hid (A.getD (q - a) wz = v) := by show _ = _; rw [← GA.out (q - a) (by omega), show a + (q - a) = q by omega]; exact gv
   have hn1 : o1 < n := by omega
   have hn2 : q < n := by omega
   have hst9 : st < 1000000 := by omega
   have hr9 : r < 1000000 := by omega
   have SN : Hid (∀ W, Sz base g cap n w L W → W.rangeAt g (o1 * 3) (wrc u) ∧ W.rangeAt g (q * 3) (wrc v)) := fun W s => ⟨by rw [← gu]; exact s.rng hn1, by rw [← gv]; exact s.rng hn2⟩
   have C122 : Hid (∀ W, Sz base g cap n w L W → Calls Tryz.prog 122 #[.agg (wrc u).toArray, .agg (wrc v).toArray] W fun e w' => e = .returned (iw (cmpF u.key v.key)) ∧ Sz base g cap n w L w') := fun W s => (cmp122 u v W).mono fun e w' q => ⟨q.1, s.on q.2⟩
   have HD : Hid (Sz base g cap n w L wr.drew) := HS.out.drew
   obtain ⟨z, hz⟩ := xj (cmpF u.key v.key)
   have HZ : Hid (z < 0 ↔ u.key < v.key) := by show _ ↔ _; rw [← hz]; exact cmpF_lt _ _
   rw [hz] at C122
   clear hz gu gv HS
   clear GA GB HC HIH HLL
   by_cases hlv : z < 0
   ·go_wp2_with fail
    refine wp_region_held_drew (S := (fun W => W.rangeAt g (o1 * 3) (wrc u) ∧ W.rangeAt g (q * 3) (wrc v))) (by kernel_rfl) (SN.out _ HD.out) (fun hHeld => ?_)
    refine tq 0 ?_
    refine tq 1 ?_
    refine tq 2 ?_
    refine tq 3 ?_
    refine tq 4 ?_
    refine tq 5 ?_
    refine tl 6 70 g (o1 * 3) (wrc u) (fun W hW => hW.1) Tryz.underlying70 ?_
    refine tq 7 ?_
    refine tq 8 ?_
    refine tq 9 ?_
    refine tl 10 70 g (q * 3) (wrc v) (fun W hW => hW.2) Tryz.underlying70 ?_
    refine rd 11 (fun K hK => ?_)
    go_simp
    refine (C122.out _ HD.out).mono ?_
    rintro e w3 ⟨rfl, h3⟩
    have X3 : Hid _ := h3
    clear h3
    go_wp2_with fail
    refine kj hK (SN.out _ X3.out) (fun hHeld => ?_)
    clear hK K
    refine tq 12 ?_
    refine tq 13 ?_
    refine wpAnyH_done (by kernel_rfl) ?_ _
    clear hHeld SN C122 HD
    go_wp2_with fail
    go_roundw
    case rel => exact ⟨st, q, rfl, rfl, by omega, by omega, by omega, I1, (show Hid _ from .inr (by rw [HU.out, HV2.out]; exact HZ.out.1 hlv)), X3.out⟩
    case measure => simp [intOf]; omega
   ·have HV : Hid (¬ z < 0) := hlv
    have hz0 : 0 ≤ z := Int.not_lt.1 hlv
    have hz1 : decide (z < 0) = false := decide_eq_false hlv
    go_wp2_with fail
    refine wp_region_held_drew (S := (fun W => W.rangeAt g (o1 * 3) (wrc u) ∧ W.rangeAt g (q * 3) (wrc v))) (by kernel_rfl) (SN.out _ HD.out) (fun hHeld => ?_)
    refine tq 0 ?_
    refine tq 1 ?_
    refine tq 2 ?_
    refine tq 3 ?_
    refine tq 4 ?_
    refine tq 5 ?_
    refine tl 6 70 g (o1 * 3) (wrc u) (fun W hW => hW.1) Tryz.underlying70 ?_
    refine tq 7 ?_
    refine tq 8 ?_
    refine tq 9 ?_
    refine tl 10 70 g (q * 3) (wrc v) (fun W hW => hW.2) Tryz.underlying70 ?_
    refine rd 11 (fun K hK => ?_)
    go_simp
    refine (C122.out _ HD.out).mono ?_
    rintro e w3 ⟨rfl, h3⟩
    have X3 : Hid _ := h3
    clear h3
    go_wp2_with fail
    refine kj hK (SN.out _ X3.out) (fun hHeld => ?_)
    clear hK K
    refine tq 12 ?_
    refine tq 13 ?_
    refine wpAnyH_done (by kernel_rfl) ?_ _
    clear hHeld SN C122 HD
    go_wp2_with fail
    go_roundw
    case rel => exact ⟨q + 1, r, by go_num, rfl, by omega, by omega, by omega, (show Hid _ from .inr (by rw [show mid - (q + 1) = mid - q - 1 by omega, show q + 1 - 1 - a = q - a by omega, HU.out, HV2.out]; exact fun e => by have e1 := HZ.out.2 e; have e2 := HV.out; omega)), I2, X3.out⟩
    case measure => simp [intOf]; omega
  ·have hr : r = st := by omega
   subst hr
   have hii : ¬ (r : Int) < (r : Int) := by omega
   obtain ⟨D1, D2⟩ := HC.out r hs1 hs3 I1.out I2.out
   obtain ⟨en, hen⟩ := xj (nn - r)
   have c6 : IntKind.i64.wrap ((nn : Int) - (r : Int)) = (en : Int) := by rw [IntKind.wrap_i64]; omega
   have FIN : Hid (∀ C1 C2, Srt C1 → Eqk (A.take (r - a) ++ B.take (mid - r)) C1 → Srt C2 → Eqk (A.drop (r - a) ++ B.drop (mid - r)) C2 → Srt (C1 ++ C2) ∧ Eqk (A ++ B) (C1 ++ C2)) := fun C1 C2 k1 q1 k2 q2 => sym_parts HSA.out.1 HSA.out.2 D1 D2 k1 q1 k2 q2
   have SS : Hid (Srt (A.take (r - a)) ∧ Srt (A.drop (r - a)) ∧ Srt (B.take (mid - r)) ∧ Srt (B.drop (mid - r))) := ⟨HSA.out.1.take _, HSA.out.1.drop _, HSA.out.2.take _, HSA.out.2.drop _⟩
   have e1 : (A.take (r - a)).length = r - a := by rw [List.length_take]; omega
   have e2 : (A.drop (r - a)).length = m - r := by rw [List.length_drop]; omega
   have e3 : (B.take (mid - r)).length = mid - r := by rw [List.length_take]; omega
   have e4 : (B.drop (mid - r)).length = b - en := by rw [List.length_drop]; omega
   have HS0 : Hid (Sz base g cap n w (P ++ (A.take (r - a) ++ (A.drop (r - a) ++ (B.take (mid - r) ++ (B.drop (mid - r) ++ Q))))) wr) := by
    have k := HS.out
    rw [← HLL.out] at k
    show Sz _ _ _ _ _ _ _
    rw [← List.append_assoc (A.take (r - a)), List.take_append_drop, ← List.append_assoc (B.take (mid - r)), List.take_append_drop]
    exact k
   clear HC I1 I2 D1 D2 GA GB HS HLL HSA
   generalize A.take (r - a) = A1 at *
   generalize A.drop (r - a) = A2 at *
   generalize B.take (mid - r) = B1 at *
   generalize B.drop (mid - r) = B2 at *
   have CR : Hid (1 ≤ A2.length → 1 ≤ B1.length → Calls Tryz.prog 171 #[.slice (some ⟨g, 0, none⟩) n cap, iw (r : Int), iw (m : Int), iw (en : Int), .func (.func 122) #[] #[]] wr fun e w' => e = .returned (.tuple #[]) ∧ Sz base g cap n w (P ++ (A1 ++ (B1 ++ (A2 ++ (B2 ++ Q))))) w') := fun x1 x2 => by
    have k := rot171 (base := base) (g := g) (cap := cap) (n := n) (w := w) (W := wr) (P ++ A1) A2 B1 (B2 ++ Q) x1 x2 (.func (.func 122) #[] #[]) hn (by rw [show P ++ A1 ++ A2 ++ B1 ++ (B2 ++ Q) = P ++ (A1 ++ (A2 ++ (B1 ++ (B2 ++ Q)))) by simp]; exact HS0.out) m en (by rw [List.length_append]; omega) (by omega)
    rw [List.length_append, show P.length + A1.length = r by omega, show P ++ A1 ++ B1 ++ A2 ++ (B2 ++ Q) = P ++ (A1 ++ (B1 ++ (A2 ++ (B2 ++ Q)))) by simp] at k
    exact k
   have CS1 : Hid (∀ W, 1 ≤ A1.length → 1 ≤ B1.length → Sz base g cap n w (P ++ (A1 ++ (B1 ++ (A2 ++ (B2 ++ Q))))) W → Calls Tryz.prog 165 #[.slice (some ⟨g, 0, none⟩) n cap, iw (a : Int), iw (r : Int), iw (mid : Int), .func (.func 122) #[] #[]] W fun e w' => e = .returned (.tuple #[]) ∧ ∃ C, Sz base g cap n w (P ++ (C ++ (A2 ++ (B2 ++ Q)))) w' ∧ Srt C ∧ Eqk (A1 ++ B1) C) := fun W x1 x2 k => HIH.out P A1 B1 (A2 ++ (B2 ++ Q)) W a r mid (by omega) x1 x2 SS.out.1 SS.out.2.2.1 k ha (by omega) (by omega)
   have CS2 : Hid (∀ C1 W, C1.length = mid - a → 1 ≤ A2.length → 1 ≤ B2.length → Sz base g cap n w (P ++ (C1 ++ (A2 ++ (B2 ++ Q)))) W → Calls Tryz.prog 165 #[.slice (some ⟨g, 0, none⟩) n cap, iw (mid : Int), iw (en : Int), iw (b : Int), .func (.func 122) #[] #[]] W fun e w' => e = .returned (.tuple #[]) ∧ ∃ C, Sz base g cap n w (P ++ (C1 ++ (C ++ Q))) w' ∧ Srt C ∧ Eqk (A2 ++ B2) C) := fun C1 W x0 x1 x2 k => by
    have q := HIH.out (P ++ C1) A2 B2 Q W mid en b (by omega) x1 x2 SS.out.2.1 SS.out.2.2.2 (by rw [List.append_assoc]; exact k) (by rw [List.length_append]; omega) (by omega) (by omega)
    simp only [List.append_assoc] at q ⊢
    exact q
   clear HIH
   by_cases d0 : r < m
   ·by_cases d1 : r < mid
    ·by_cases d2 : a < r
     ·by_cases d3 : en < b
      ·have k1 : (r : Int) < (m : Int) := by omega
       have k2 : (m : Int) < (en : Int) := by omega
       have k3 : (a : Int) < (r : Int) := by omega
       have k4 : (r : Int) < (mid : Int) := by omega
       have k5 : (mid : Int) < (en : Int) := by omega
       have k6 : (en : Int) < (b : Int) := by omega
       have CR2 : Hid (1 = 1 → _) := fun _ => CR.out (by omega) (by omega)
       clear CR HS0
       go_wp2_with fail
       refine (CR2.out (by trivial)).mono ?_
       rintro e w4 ⟨rfl, h4⟩
       have X4 : Hid _ := h4
       clear h4 CR2
       go_wp2_with fail
       refine (CS1.out _ (by omega) (by omega) X4.out).mono ?_
       rintro e w5 ⟨rfl, C1, h5, h6, h7⟩
       have X5 : Hid _ := h5
       have Y5 : Hid (Srt C1 ∧ Eqk _ C1) := ⟨h6, h7⟩
       clear h5 h6 h7
       have Z5 : Hid (C1.length = mid - a) := by show _ = _; rw [Y5.out.2.len, List.length_append]; omega
       go_wp2_with fail
       refine (CS2.out C1 _ Z5.out (by omega) (by omega) X5.out).mono ?_
       rintro e w6 ⟨rfl, C2, h8, h9, h10⟩
       have X6 : Hid _ := h8
       have Y6 : Hid (Srt C2 ∧ Eqk _ C2) := ⟨h9, h10⟩
       clear h8 h9 h10
       go_wp2_with fail
       go_end0
       obtain ⟨z1, z2⟩ := FIN.out C1 C2 Y5.out.1 Y5.out.2 Y6.out.1 Y6.out.2
       exact ⟨rfl, C1 ++ C2, by rw [List.append_assoc]; exact X6.out, z1, z2⟩
      ·have k1 : (r : Int) < (m : Int) := by omega
       have k2 : (m : Int) < (en : Int) := by omega
       have k3 : (a : Int) < (r : Int) := by omega
       have k4 : (r : Int) < (mid : Int) := by omega
       have k5 : (mid : Int) < (en : Int) := by omega
       have k6 : ¬ (en : Int) < (b : Int) := by omega
       obtain rfl : B2 = [] := List.eq_nil_of_length_eq_zero (by omega)
       have CR2 : Hid (1 = 1 → _) := fun _ => CR.out (by omega) (by omega)
       clear CR HS0
       go_wp2_with fail
       refine (CR2.out (by trivial)).mono ?_
       rintro e w4 ⟨rfl, h4⟩
       have X4 : Hid _ := h4
       clear h4 CR2
       go_wp2_with fail
       refine (CS1.out _ (by omega) (by omega) X4.out).mono ?_
       rintro e w5 ⟨rfl, C1, h5, h6, h7⟩
       have X5 : Hid _ := h5
       have Y5 : Hid (Srt C1 ∧ Eqk _ C1) := ⟨h6, h7⟩
       clear h5 h6 h7
       have Z5 : Hid (C1.length = mid - a) := by show _ = _; rw [Y5.out.2.len, List.length_append]; omega
       go_wp2_with fail
       obtain ⟨C2, X6, Y6⟩ : ∃ C2, Hid (Sz base g cap n w (P ++ (C1 ++ (C2 ++ Q))) w5) ∧ Hid (Srt C2 ∧ Eqk (A2 ++ ([] : List Wr)) C2) := ⟨A2 ++ ([] : List Wr), (show Hid _ from by have k := X5.out; simp only [List.append_assoc, List.nil_append, List.append_nil] at k ⊢; exact k), (show Hid _ from ⟨by have k := SS.out; simp only [List.append_nil, List.nil_append]; first | exact k.2.1 | exact k.2.2.2 | exact List.Pairwise.nil, Eqk.refl _⟩)⟩
       go_end0
       obtain ⟨z1, z2⟩ := FIN.out C1 C2 Y5.out.1 Y5.out.2 Y6.out.1 Y6.out.2
       exact ⟨rfl, C1 ++ C2, by rw [List.append_assoc]; exact X6.out, z1, z2⟩
     ·by_cases d3 : en < b
      ·have k1 : (r : Int) < (m : Int) := by omega
       have k2 : (m : Int) < (en : Int) := by omega
       have k3 : ¬ (a : Int) < (r : Int) := by omega
       have k4 : (r : Int) < (mid : Int) := by omega
       have k5 : (mid : Int) < (en : Int) := by omega
       have k6 : (en : Int) < (b : Int) := by omega
       obtain rfl : A1 = [] := List.eq_nil_of_length_eq_zero (by omega)
       have CR2 : Hid (1 = 1 → _) := fun _ => CR.out (by omega) (by omega)
       clear CR HS0
       go_wp2_with fail
       refine (CR2.out (by trivial)).mono ?_
       rintro e w4 ⟨rfl, h4⟩
       have X4 : Hid _ := h4
       clear h4 CR2
       go_wp2_with fail
       obtain ⟨C1, X5, Y5, Z5⟩ : ∃ C1, Hid (Sz base g cap n w (P ++ (C1 ++ (A2 ++ (B2 ++ Q)))) w4) ∧ Hid (Srt C1 ∧ Eqk (([] : List Wr) ++ B1) C1) ∧ Hid (C1.length = mid - a) := ⟨([] : List Wr) ++ B1, (show Hid _ from by have k := X4.out; simp only [List.append_assoc, List.nil_append, List.append_nil] at k ⊢; exact k), (show Hid _ from ⟨by have k := SS.out; simp only [List.append_nil, List.nil_append]; first | exact k.1 | exact k.2.2.1 | exact List.Pairwise.nil, Eqk.refl _⟩), (show Hid _ from by show _ = _; rw [List.length_append]; simp only [List.length_nil] at *; omega)⟩
       refine (CS2.out C1 _ Z5.out (by omega) (by omega) X5.out).mono ?_
       rintro e w6 ⟨rfl, C2, h8, h9, h10⟩
       have X6 : Hid _ := h8
       have Y6 : Hid (Srt C2 ∧ Eqk _ C2) := ⟨h9, h10⟩
       clear h8 h9 h10
       go_wp2_with fail
       go_end0
       obtain ⟨z1, z2⟩ := FIN.out C1 C2 Y5.out.1 Y5.out.2 Y6.out.1 Y6.out.2
       exact ⟨rfl, C1 ++ C2, by rw [List.append_assoc]; exact X6.out, z1, z2⟩
      ·have k1 : (r : Int) < (m : Int) := by omega
       have k2 : (m : Int) < (en : Int) := by omega
       have k3 : ¬ (a : Int) < (r : Int) := by omega
       have k4 : (r : Int) < (mid : Int) := by omega
       have k5 : (mid : Int) < (en : Int) := by omega
       have k6 : ¬ (en : Int) < (b : Int) := by omega
       obtain rfl : A1 = [] := List.eq_nil_of_length_eq_zero (by omega)
       obtain rfl : B2 = [] := List.eq_nil_of_length_eq_zero (by omega)
       have CR2 : Hid (1 = 1 → _) := fun _ => CR.out (by omega) (by omega)
       clear CR HS0
       go_wp2_with fail
       refine (CR2.out (by trivial)).mono ?_
       rintro e w4 ⟨rfl, h4⟩
       have X4 : Hid _ := h4
       clear h4 CR2
       go_wp2_with fail
       obtain ⟨C1, X5, Y5, Z5⟩ : ∃ C1, Hid (Sz base g cap n w (P ++ (C1 ++ (A2 ++ (([] : List Wr) ++ Q)))) w4) ∧ Hid (Srt C1 ∧ Eqk (([] : List Wr) ++ B1) C1) ∧ Hid (C1.length = mid - a) := ⟨([] : List Wr) ++ B1, (show Hid _ from by have k := X4.out; simp only [List.append_assoc, List.nil_append, List.append_nil] at k ⊢; exact k), (show Hid _ from ⟨by have k := SS.out; simp only [List.append_nil, List.nil_append]; first | exact k.1 | exact k.2.2.1 | exact List.Pairwise.nil, Eqk.refl _⟩), (show Hid _ from by show _ = _; rw [List.length_append]; simp only [List.length_nil] at *; omega)⟩
       obtain ⟨C2, X6, Y6⟩ : ∃ C2, Hid (Sz base g cap n w (P ++ (C1 ++ (C2 ++ Q))) w4) ∧ Hid (Srt C2 ∧ Eqk (A2 ++ ([] : List Wr)) C2) := ⟨A2 ++ ([] : List Wr), (show Hid _ from by have k := X5.out; simp only [List.append_assoc, List.nil_append, List.append_nil] at k ⊢; exact k), (show Hid _ from ⟨by have k := SS.out; simp only [List.append_nil, List.nil_append]; first | exact k.2.1 | exact k.2.2.2 | exact List.Pairwise.nil, Eqk.refl _⟩)⟩
       go_end0
       obtain ⟨z1, z2⟩ := FIN.out C1 C2 Y5.out.1 Y5.out.2 Y6.out.1 Y6.out.2
       exact ⟨rfl, C1 ++ C2, by rw [List.append_assoc]; exact X6.out, z1, z2⟩
    ·by_cases d2 : a < r
     ·by_cases d3 : en < b
      ·have k1 : (r : Int) < (m : Int) := by omega
       have k2 : ¬ (m : Int) < (en : Int) := by omega
       have k3 : (a : Int) < (r : Int) := by omega
       have k4 : ¬ (r : Int) < (mid : Int) := by omega
       have k5 : (mid : Int) < (en : Int) := by omega
       have k6 : (en : Int) < (b : Int) := by omega
       obtain rfl : B1 = [] := List.eq_nil_of_length_eq_zero (by omega)
       have X4 : Hid (Sz base g cap n w (P ++ (A1 ++ (([] : List Wr) ++ (A2 ++ (B2 ++ Q))))) wr) := HS0.out
       clear CR HS0
       go_wp2_with fail
       obtain ⟨C1, X5, Y5, Z5⟩ : ∃ C1, Hid (Sz base g cap n w (P ++ (C1 ++ (A2 ++ (B2 ++ Q)))) wr) ∧ Hid (Srt C1 ∧ Eqk (A1 ++ ([] : List Wr)) C1) ∧ Hid (C1.length = mid - a) := ⟨A1 ++ ([] : List Wr), (show Hid _ from by have k := X4.out; simp only [List.append_assoc, List.nil_append, List.append_nil] at k ⊢; exact k), (show Hid _ from ⟨by have k := SS.out; simp only [List.append_nil, List.nil_append]; first | exact k.1 | exact k.2.2.1 | exact List.Pairwise.nil, Eqk.refl _⟩), (show Hid _ from by show _ = _; rw [List.length_append]; simp only [List.length_nil] at *; omega)⟩
       refine (CS2.out C1 _ Z5.out (by omega) (by omega) X5.out).mono ?_
       rintro e w6 ⟨rfl, C2, h8, h9, h10⟩
       have X6 : Hid _ := h8
       have Y6 : Hid (Srt C2 ∧ Eqk _ C2) := ⟨h9, h10⟩
       clear h8 h9 h10
       go_wp2_with fail
       go_end0
       obtain ⟨z1, z2⟩ := FIN.out C1 C2 Y5.out.1 Y5.out.2 Y6.out.1 Y6.out.2
       exact ⟨rfl, C1 ++ C2, by rw [List.append_assoc]; exact X6.out, z1, z2⟩
      ·exfalso
       omega
     ·by_cases d3 : en < b
      ·have k1 : (r : Int) < (m : Int) := by omega
       have k2 : ¬ (m : Int) < (en : Int) := by omega
       have k3 : ¬ (a : Int) < (r : Int) := by omega
       have k4 : ¬ (r : Int) < (mid : Int) := by omega
       have k5 : (mid : Int) < (en : Int) := by omega
       have k6 : (en : Int) < (b : Int) := by omega
       obtain rfl : B1 = [] := List.eq_nil_of_length_eq_zero (by omega)
       obtain rfl : A1 = [] := List.eq_nil_of_length_eq_zero (by omega)
       have X4 : Hid (Sz base g cap n w (P ++ (([] : List Wr) ++ (([] : List Wr) ++ (A2 ++ (B2 ++ Q))))) wr) := HS0.out
       clear CR HS0
       go_wp2_with fail
       obtain ⟨C1, X5, Y5, Z5⟩ : ∃ C1, Hid (Sz base g cap n w (P ++ (C1 ++ (A2 ++ (B2 ++ Q)))) wr) ∧ Hid (Srt C1 ∧ Eqk (([] : List Wr) ++ ([] : List Wr)) C1) ∧ Hid (C1.length = mid - a) := ⟨([] : List Wr) ++ ([] : List Wr), (show Hid _ from by have k := X4.out; simp only [List.append_assoc, List.nil_append, List.append_nil] at k ⊢; exact k), (show Hid _ from ⟨by have k := SS.out; simp only [List.append_nil, List.nil_append]; first | exact k.1 | exact k.2.2.1 | exact List.Pairwise.nil, Eqk.refl _⟩), (show Hid _ from by show _ = _; rw [List.length_append]; simp only [List.length_nil] at *; omega)⟩
       refine (CS2.out C1 _ Z5.out (by omega) (by omega) X5.out).mono ?_
       rintro e w6 ⟨rfl, C2, h8, h9, h10⟩
       have X6 : Hid _ := h8
       have Y6 : Hid (Srt C2 ∧ Eqk _ C2) := ⟨h9, h10⟩
       clear h8 h9 h10
       go_wp2_with fail
       go_end0
       obtain ⟨z1, z2⟩ := FIN.out C1 C2 Y5.out.1 Y5.out.2 Y6.out.1 Y6.out.2
       exact ⟨rfl, C1 ++ C2, by rw [List.append_assoc]; exact X6.out, z1, z2⟩
      ·exfalso
       omega
   ·by_cases d1 : r < mid
    ·by_cases d2 : a < r
     ·by_cases d3 : en < b
      ·exfalso
       omega
      ·exfalso
       omega
     ·by_cases d3 : en < b
      ·exfalso
       omega
      ·exfalso
       omega
    ·by_cases d2 : a < r
     ·by_cases d3 : en < b
      ·exfalso
       omega
      ·exfalso
       omega
     ·by_cases d3 : en < b
      ·exfalso
       omega
      ·exfalso
       omega
end Go.Proofs.YtkdkgdollmmcnaaGreat
