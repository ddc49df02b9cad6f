import Derived.Test.YtkdkgdollmmcnaaGreatWbn
set_option maxHeartbeats 4000000
set_option maxRecDepth 100000
set_option linter.unusedVariables false
set_option linter.unusedSimpArgs false
namespace Go.Proofs.YtkdkgdollmmcnaaGreat
open Go.RowKit Go.Sort Go.Shelf
variable {base g cap n : Nat} {w W W' : World} {S : List Wr}
theorem ins164z (a b : Nat) (hb : b ≤ a) (hn : a ≤ 1000000) (h : Sz base g cap n w S W) :
  Calls Tryz.prog 164 #[.slice (some ⟨g, 0, none⟩) n cap, iw (a : Int), iw (b : Int), .func (.func 122) #[] #[]] W fun e w' => e = .returned (.tuple #[]) ∧ Sz base g cap n w S w' := by
 have H : Hid (Sz base g cap n w S W) := h
 clear h
 have c1 : IntKind.i64.wrap ((a : Int) + 1) = ((a + 1 : Nat) : Int) := by rw [IntKind.wrap_i64]; omega
 go_enter Tryz.func164, Tryz.ntmps164
 go_wp2_with fail
 go_loopw [8] (fun s wr => s = iw ((a + 1 : Nat) : Int) ∧ Hid (Sz base g cap n w S wr)) (fun s _ => 0)
 case atStart => exact ⟨rfl, H.out⟩
 case round =>
  obtain ⟨rfl, HS⟩ := hrel
  have hlt : ¬ ((a + 1 : Nat) : Int) < (b : Int) := by omega
  go_wp2_with fail
  go_end0
  exact ⟨rfl, HS.out⟩
theorem ins164a (P A Q : List Wr) (hA : 1 ≤ A.length) (hn : n ≤ 1000000) (h : Sz base g cap n w (P ++ A ++ Q) W) (a b : Nat) (ha : P.length = a) (hb : a + A.length = b) :
  Calls Tryz.prog 164 #[.slice (some ⟨g, 0, none⟩) n cap, iw (a : Int), iw (b : Int), .func (.func 122) #[] #[]] W fun e w' => e = .returned (.tuple #[]) ∧ ∃ C, Sz base g cap n w (P ++ C ++ Q) w' ∧ Srt C ∧ Eqk A C := by
 have hl := h.len
 simp only [List.length_append] at hl
 have ha9 : a < 1000000 := by omega
 have hb9 : b ≤ 1000000 := by omega
 have H : Hid (Sz base g cap n w (P ++ A ++ Q) W) := h
 clear h
 have c1 : IntKind.i64.wrap ((a : Int) + 1) = ((a + 1 : Nat) : Int) := by rw [IntKind.wrap_i64]; omega
 go_enter Tryz.func164, Tryz.ntmps164
 go_wp2_with fail
 go_loopw [8] (fun s wr => ∃ C R : List Wr, s = iw ((a + C.length : Nat) : Int) ∧ 1 ≤ C.length ∧ a + C.length + R.length = b ∧ Hid (Srt C ∧ Eqk A (C ++ R)) ∧ Hid (Sz base g cap n w (P ++ (C ++ R) ++ Q) wr)) (fun s _ => b - (intOf s).toNat)
 case atStart =>
  obtain ⟨x0, A1, rfl⟩ : ∃ x0 A1, A = x0 :: A1 := by
   cases A with
   | nil => simp at hA
   | cons x l => exact ⟨x, l, rfl⟩
  exact ⟨[x0], A1, rfl, Nat.le_refl _, by simp at hb ⊢; omega, ⟨List.pairwise_singleton .., Eqk.refl _⟩, H.out⟩
 case round =>
  obtain ⟨C, R, rfl, hc1, hcr, HC, HS⟩ := hrel
  clear H c1 hA hb
  cases R with
  | nil =>
   have hlt : ¬ ((a + C.length : Nat) : Int) < (b : Int) := by simp at hcr; omega
   go_wp2_with fail
   go_end0
   exact ⟨rfl, C, by have k := HS.out; rw [show P ++ (C ++ []) ++ Q = P ++ C ++ Q by simp] at k; first | exact k | (rw [List.append_assoc] at k; exact k), HC.out.1, by have k := HC.out.2; rw [List.append_nil] at k; exact k⟩
  | cons x R =>
   rw [List.length_cons] at hcr
   have hlt : ((a + C.length : Nat) : Int) < (b : Int) := by omega
   obtain ⟨i, hi⟩ := xj (a + C.length)
   have c1 : IntKind.i64.wrap ((i : Int) + 1) = ((i + 1 : Nat) : Int) := by rw [IntKind.wrap_i64]; omega
   have HS1 : Hid (Sz base g cap n w (P ++ C ++ x :: (R ++ Q)) wr) := by
    have k := HS.out
    rw [show P ++ (C ++ x :: R) ++ Q = P ++ C ++ x :: (R ++ Q) by simp] at k
    exact k
   clear HS
   rw [hi] at hlt ⊢
   go_wp2_with fail
   have OUT : Hid (∀ C1 C2 W, C1 ++ C2 = C → (∀ y ∈ C2, x.key < y.key) → (∀ y ∈ C1, ¬ x.key < y.key) → Sz base g cap n w (P ++ C1 ++ x :: (C2 ++ (R ++ Q))) W → ∃ C' R' : List Wr, Value.int .i64 ((i : Int) + 1) = iw ((a + C'.length : Nat) : Int) ∧ 1 ≤ C'.length ∧ a + C'.length + R'.length = b ∧ Hid (Srt C' ∧ Eqk A (C' ++ R')) ∧ Hid (Sz base g cap n w (P ++ (C' ++ R') ++ Q) W)) := fun C1 C2 W e h1 h2 k => by
    have el : C1.length + C2.length = C.length := by rw [← e, List.length_append]
    refine ⟨C1 ++ x :: C2, R, by rw [List.length_append, List.length_cons]; congr 1; omega, by rw [List.length_append, List.length_cons]; omega, by rw [List.length_append, List.length_cons]; omega, ⟨Srt.place (by rw [e]; exact HC.out.1) h2 h1, ?_⟩, ?_⟩
    ·have q := (Eqk.place (C1 := C1) h1).app (Eqk.refl R)
     rw [e, List.append_assoc C] at q
     exact HC.out.2.trans q
    ·show Sz _ _ _ _ _ _ _
     rw [show P ++ (C1 ++ x :: C2 ++ R) ++ Q = P ++ C1 ++ x :: (C2 ++ (R ++ Q)) by simp]
     exact k
   go_loopw [9] (fun s wr2 => ∃ C1 C2 : List Wr, s = iw ((a + C1.length : Nat) : Int) ∧ Hid (C1 ++ C2 = C) ∧ Hid (∀ y ∈ C2, x.key < y.key) ∧ C1.length ≤ C.length ∧ Hid (Sz base g cap n w (P ++ C1 ++ x :: (C2 ++ (R ++ Q))) wr2)) (fun s _ => (intOf s).toNat)
   case atStart => exact ⟨C, [], by rw [hi], List.append_nil C, (show Hid (∀ y ∈ ([] : List Wr), x.key < y.key) from fun y hy => (List.not_mem_nil hy).elim), Nat.le_refl _, HS1.out⟩
   case round =>
    obtain ⟨C1, C2, rfl, HE, HX, hcl, HS⟩ := hrel
    clear HS1
    rcases List.eq_nil_or_concat C1 with rfl | ⟨C0, y, rfl⟩
    ·have hg : decide (((a + ([] : List Wr).length : Nat) : Int) > (a : Int)) = false := decide_eq_false (by simp)
     have hg' : ¬ (a : Int) < ((a + ([] : List Wr).length : Nat) : Int) := by simp
     have K : Hid (_) := OUT.out [] C2 wr.drew HE.out HX.out (fun y hy => (List.not_mem_nil hy).elim) HS.out.drew
     clear OUT HS HC
     go_wp2_with fail
     go_region
     go_wp2_with fail
     go_roundw
     case rel => exact K.out
     case measure => simp [intOf]; omega
    ·rw [List.concat_eq_append] at *
     rw [List.length_append, List.length_singleton] at *
     obtain ⟨p, hp⟩ := xj (P ++ C0).length
     obtain ⟨p1, hp1⟩ := xj (p + 1)
     have hpa : a + (C0.length + 1) = p1 := by rw [← hp1, ← hp, List.length_append]; omega
     have hg : (a : Int) < (p1 : Int) := by omega
     have hg2 : decide ((p1 : Int) > (a : Int)) = true := decide_eq_true (by omega)
     have hs : P ++ (C0 ++ [y]) ++ x :: (C2 ++ (R ++ Q)) = (P ++ C0) ++ y :: x :: (C2 ++ (R ++ Q)) := by simp
     have HS2 : Hid (Sz base g cap n w ((P ++ C0) ++ y :: x :: (C2 ++ (R ++ Q))) wr) := by
      show Sz _ _ _ _ _ _ _
      rw [← hs]
      exact HS.out
     obtain ⟨gx, gy⟩ := get_adj (P ++ C0) (C2 ++ (R ++ Q)) x y
     have ga := swp_adj (P ++ C0) (C2 ++ (R ++ Q)) x y
     rw [hp, hp1] at gx ga
     rw [hp] at gy
     rw [hpa]
     have hpn : p1 < n := by have := HS2.out.len; simp only [List.length_append, List.length_cons] at this hp; omega
     clear HS
     obtain ⟨L, hL⟩ := xj ((P ++ C0) ++ y :: x :: (C2 ++ (R ++ Q)))
     rw [hL] at HS2 gx gy ga
     have SN : Hid (∀ W, Sz base g cap n w L W → W.rangeAt g (p1 * 3) (wrc x) ∧ W.rangeAt g (p * 3) (wrc y)) := fun W s => ⟨by rw [← gx]; exact s.rng hpn, by rw [← gy]; exact s.rng (by omega)⟩
     have C122 : Hid (∀ W, Sz base g cap n w L W → Calls Tryz.prog 122 #[.agg (wrc x).toArray, .agg (wrc y).toArray] W fun e w' => e = .returned (iw (cmpF x.key y.key)) ∧ Sz base g cap n w L w') := fun W s => (cmp122 x y W).mono fun e w' q => ⟨q.1, s.on q.2⟩
     have HD : Hid (Sz base g cap n w L wr.drew) := HS2.out.drew
     have c2 : IntKind.i64.wrap ((p1 : Int) - 1) = (p : Int) := by rw [IntKind.wrap_i64]; omega
     obtain ⟨z, hz⟩ := xj (cmpF x.key y.key)
     have HZ : Hid (z < 0 ↔ x.key < y.key) := by show _ ↔ _; rw [← hz]; exact cmpF_lt _ _
     rw [hz] at C122
     have hpn1 : p < n := by omega
     have GA : Hid _ := And.intro gx (And.intro gy ga)
     have HLL : Hid _ := hL
     clear hs hz gx gy ga hL HS2
     by_cases hlv : z < 0
     ·go_wp2_with fail
      refine wp_region_held_drew (S := (fun W => W.rangeAt g (p1 * 3) (wrc x) ∧ W.rangeAt g (p * 3) (wrc y))) (by kernel_rfl) (SN.out _ HD.out) (fun hHeld => ?_)
      refine tq 0 ?_
      refine tq 1 ?_
      refine tq 2 ?_
      refine tq 3 ?_
      refine tq 4 ?_
      refine tq 5 ?_
      refine tq 6 ?_
      refine tq 7 ?_
      refine tl 8 70 g (p1 * 3) (wrc x) (fun W hW => hW.1) Tryz.underlying70 ?_
      refine tq 9 ?_
      refine tq 10 ?_
      refine tq 11 ?_
      refine tq 12 ?_
      refine tl 13 70 g (p * 3) (wrc y) (fun W hW => hW.2) Tryz.underlying70 ?_
      refine rd 14 (fun K hK => ?_)
      go_simp
      refine (C122.out _ HD.out).mono ?_
      rintro e w3 ⟨rfl, h3⟩
      have X3 : Hid _ := h3
      clear h3
      go_wp2_with fail
      refine kj hK (SN.out _ X3.out) (fun hHeld => ?_)
      clear hK K
      refine tq 15 ?_
      refine tq 16 ?_
      refine wpAnyH_done (by kernel_rfl) ?_ _
      clear hHeld SN C122 HD
      go_wp2_with fail
      have HS := X3
      obtain ⟨gx, gy, ga⟩ := GA.out
      have hd := HS.out.drew
      have S2 : Hid (Sz base g cap n w ((P ++ C0) ++ x :: (y :: C2 ++ (R ++ Q))) ((w3.drew.setCells g (p1 * 3) (wrc y)).setCells g (p * 3) (wrc x))) := by
       have k := hd.swp (i := p1) (j := p) hpn hpn1
       rw [gx, gy, ga] at k
       exact k
      have RX : Hid (w3.drew.rangeAt g (p1 * 3) (wrc x)) := by have k := hd.rng (i := p1) hpn; rw [gx] at k; exact k
      have RY : Hid (w3.drew.rangeAt g (p * 3) (wrc y)) := by have k := hd.rng (i := p) hpn1; rw [gy] at k; exact k
      have TA : Hid (w3.drew.there g (p1 * 3) 3) := hd.there hpn
      have TB : Hid ((w3.drew.setCells g (p1 * 3) (wrc y)).there g (p * 3) 3) := (hd.put (i := p1) hpn y).there hpn1
      have HY : Hid (x.key < y.key) := HZ.out.1 hlv
      clear gx gy ga hd HS X3 GA
      refine wp_region_held_drew (S := (fun _ => True)) (by kernel_rfl) trivial (fun hHeld => ?_)
      refine tq 0 ?_
      refine tq 1 ?_
      refine tq 2 ?_
      refine tq 3 ?_
      refine tq 4 ?_
      refine tq 5 ?_
      refine tq 6 ?_
      refine tq 7 ?_
      refine tq 8 ?_
      refine tq 10 ?_
      refine tq 11 ?_
      refine tq 12 ?_
      refine wpAnyH_ready (rs := [9, 13]) (by kernel_rfl) (by simp) ?_
      refine AllReadyH.cons rfl (fun K hK => ?_) (AllReadyH.cons rfl (fun K hK => ?_) AllReadyH.nil)
      ·rw [if_pos (by rfl)]
       refine wp_load_mid 70 _ rfl g (p * 3) (by simp [Act.eval, Act.put]) (wrc y) _ RY.out Tryz.underlying70 rfl rfl ?_
       refine kj hK trivial (fun hHeld => ?_)
       clear hK K
       refine rd 13 (fun K hK => ?_)
       rw [if_pos (by rfl)]
       refine wp_load_mid 70 _ rfl g (p1 * 3) (by simp [Act.eval, Act.put]) (wrc x) _ RX.out Tryz.underlying70 rfl rfl ?_
       refine kj hK trivial (fun hHeld => ?_)
       clear hK K
       refine tq 14 ?_
       refine rd 15 (fun K hK => ?_)
       rw [if_pos (by rfl)]
       refine wp_store_mid 70 _ _ rfl g (p1 * 3) (wrc y).toArray (by simp [Act.eval, Act.put]) (by simp [Act.eval, Act.put]) TA.out rfl (all_oneCell_toArray (wrc_one y)) ?_
       refine kj hK trivial (fun hHeld => ?_)
       clear hK K
       refine tq 16 ?_
       refine rd 17 (fun K hK => ?_)
       rw [if_pos (by rfl)]
       refine wp_store_mid 70 _ _ rfl g (p * 3) (wrc x).toArray (by simp [Act.eval, Act.put]) (by simp [Act.eval, Act.put]) TB.out rfl (all_oneCell_toArray (wrc_one x)) ?_
       refine kj hK trivial (fun hHeld => ?_)
       clear hK K
       refine wpAnyH_done (by kernel_rfl) ?_ _
       clear hHeld TA TB RX RY
       generalize (w3.drew.setCells g (p1 * 3) (wrc y)).setCells g (p * 3) (wrc x) = w2 at S2 ⊢
       go_wp2_with fail
       go_roundw
       case rel => exact ⟨C0, y :: C2, by congr 1; simp only [List.length_append] at hp; omega, by have k := HE.out; rw [List.append_assoc] at k; exact k, fun u hu => by { rcases List.mem_cons.1 hu with rfl | hu; exact HY.out; exact HX.out u hu }, by omega, S2.out⟩
       case measure => simp [intOf]; omega
      ·rw [if_pos (by rfl)]
       refine wp_load_mid 70 _ rfl g (p1 * 3) (by simp [Act.eval, Act.put]) (wrc x) _ RX.out Tryz.underlying70 rfl rfl ?_
       refine kj hK trivial (fun hHeld => ?_)
       clear hK K
       refine rd 9 (fun K hK => ?_)
       rw [if_pos (by rfl)]
       refine wp_load_mid 70 _ rfl g (p * 3) (by simp [Act.eval, Act.put]) (wrc y) _ RY.out Tryz.underlying70 rfl rfl ?_
       refine kj hK trivial (fun hHeld => ?_)
       clear hK K
       refine tq 14 ?_
       refine rd 15 (fun K hK => ?_)
       rw [if_pos (by rfl)]
       refine wp_store_mid 70 _ _ rfl g (p1 * 3) (wrc y).toArray (by simp [Act.eval, Act.put]) (by simp [Act.eval, Act.put]) TA.out rfl (all_oneCell_toArray (wrc_one y)) ?_
       refine kj hK trivial (fun hHeld => ?_)
       clear hK K
       refine tq 16 ?_
       refine rd 17 (fun K hK => ?_)
       rw [if_pos (by rfl)]
       refine wp_store_mid 70 _ _ rfl g (p * 3) (wrc x).toArray (by simp [Act.eval, Act.put]) (by simp [Act.eval, Act.put]) TB.out rfl (all_oneCell_toArray (wrc_one x)) ?_
       refine kj hK trivial (fun hHeld => ?_)
       clear hK K
       refine wpAnyH_done (by kernel_rfl) ?_ _
       clear hHeld TA TB RX RY
       generalize (w3.drew.setCells g (p1 * 3) (wrc y)).setCells g (p * 3) (wrc x) = w2 at S2 ⊢
       go_wp2_with fail
       go_roundw
       case rel => exact ⟨C0, y :: C2, by congr 1; simp only [List.length_append] at hp; omega, by have k := HE.out; rw [List.append_assoc] at k; exact k, fun u hu => by { rcases List.mem_cons.1 hu with rfl | hu; exact HY.out; exact HX.out u hu }, by omega, S2.out⟩
       case measure => simp [intOf]; omega
     ·have K : Hid (∀ W, Sz base g cap n w L W → _) := fun W s => OUT.out (C0 ++ [y]) C2 W HE.out HX.out (Srt.last (by have k := HC.out.1; rw [← HE.out] at k; exact (Srt.app.1 k).1) (fun e => hlv (HZ.out.2 e))) (by rw [← HLL.out] at s; rw [show P ++ (C0 ++ [y]) ++ x :: (C2 ++ (R ++ Q)) = (P ++ C0) ++ y :: x :: (C2 ++ (R ++ Q)) by simp]; exact s)
      clear OUT HC
      go_wp2_with fail
      refine wp_region_held_drew (S := (fun W => W.rangeAt g (p1 * 3) (wrc x) ∧ W.rangeAt g (p * 3) (wrc y))) (by kernel_rfl) (SN.out _ HD.out) (fun hHeld => ?_)
      refine tq 0 ?_
      refine tq 1 ?_
      refine tq 2 ?_
      refine tq 3 ?_
      refine tq 4 ?_
      refine tq 5 ?_
      refine tq 6 ?_
      refine tq 7 ?_
      refine tl 8 70 g (p1 * 3) (wrc x) (fun W hW => hW.1) Tryz.underlying70 ?_
      refine tq 9 ?_
      refine tq 10 ?_
      refine tq 11 ?_
      refine tq 12 ?_
      refine tl 13 70 g (p * 3) (wrc y) (fun W hW => hW.2) Tryz.underlying70 ?_
      refine rd 14 (fun K hK => ?_)
      go_simp
      refine (C122.out _ HD.out).mono ?_
      rintro e w3 ⟨rfl, h3⟩
      have X3 : Hid _ := h3
      clear h3
      go_wp2_with fail
      refine kj hK (SN.out _ X3.out) (fun hHeld => ?_)
      clear hK K
      refine tq 15 ?_
      refine tq 16 ?_
      refine wpAnyH_done (by kernel_rfl) ?_ _
      clear hHeld SN C122 HD
      go_wp2_with fail
      go_roundw
      case rel => exact K.out _ X3.out
      case measure => simp [intOf]; omega
theorem ins164 (P A Q : List Wr) (hn : n ≤ 1000000) (h : Sz base g cap n w (P ++ A ++ Q) W) (a b : Nat) (ha : P.length = a) (hb : a + A.length = b) :
  Calls Tryz.prog 164 #[.slice (some ⟨g, 0, none⟩) n cap, iw (a : Int), iw (b : Int), .func (.func 122) #[] #[]] W fun e w' => e = .returned (.tuple #[]) ∧ ∃ C, Sz base g cap n w (P ++ C ++ Q) w' ∧ Srt C ∧ Eqk A C := by
 have hl := h.len
 simp only [List.length_append] at hl
 cases A with
 | nil => exact (ins164z a b (by simp at hb; omega) (by omega) h).mono fun e w' q => ⟨q.1, [], q.2, List.Pairwise.nil, Eqk.refl _⟩
 | cons x l => exact ins164a P (x :: l) Q (by simp) hn h a b ha hb
theorem Srt.get {L : List Wr} (h : Srt L) {i j : Nat} (hij : i ≤ j) (hj : j < L.length) : ¬ (L.getD j wz).key < (L.getD i wz).key := by
 have e : ∀ k, (hk : k < L.length) → L.getD k wz = L[k] := fun k hk => by simp [List.getD, hk]
 rw [e j hj, e i (by omega)]
 rcases Nat.lt_or_ge i j with h1 | h1
 ·exact (List.pairwise_iff_getElem.1 h) i j (by omega) hj h1
 ·have : i = j := by omega
  subst this
  exact List.lt_irrefl _
theorem mem_take_get {L : List Wr} {k : Nat} {y : Wr} (h : y ∈ L.take k) : ∃ t, t < k ∧ t < L.length ∧ L.getD t wz = y := by
 obtain ⟨t, ht, e⟩ := List.mem_iff_getElem.1 h
 rw [List.length_take] at ht
 rw [List.getElem_take] at e
 exact ⟨t, by omega, by omega, by rw [← e]; simp [List.getD, show t < L.length by omega]⟩
theorem mem_drop_get {L : List Wr} {k : Nat} {y : Wr} (h : y ∈ L.drop k) : ∃ t, k ≤ t ∧ t < L.length ∧ L.getD t wz = y := by
 obtain ⟨t, ht, e⟩ := List.mem_iff_getElem.1 h
 rw [List.length_drop] at ht
 rw [List.getElem_drop] at e
 exact ⟨k + t, by omega, by omega, by rw [← e]; simp [List.getD, show k + t < L.length by omega]⟩
theorem getD_app (F B Q : List Wr) {t : Nat} (ht : t < B.length) : (F ++ (B ++ Q)).getD (F.length + t) wz = B.getD t wz := by
 simp only [List.getD, List.getElem?_append]
 rw [if_neg (by omega), if_pos (by omega)]
 congr 2
 omega
theorem Srt.take {L : List Wr} (h : Srt L) (k : Nat) : Srt (L.take k) := List.Pairwise.sublist (List.take_sublist ..) h
theorem Srt.drop {L : List Wr} (h : Srt L) (k : Nat) : Srt (L.drop k) := List.Pairwise.sublist (List.drop_sublist ..) h
theorem one_first {x : Wr} {B : List Wr} {lo : Nat} (hs : Srt B) (h1 : ∀ t, t < lo → (B.getD t wz).key < x.key) (h2 : ∀ t, lo ≤ t → t < B.length → ¬ (B.getD t wz).key < x.key) :
  Srt (B.take lo ++ x :: B.drop lo) ∧ Eqk (x :: B) (B.take lo ++ x :: B.drop lo) := by
 have g1 : ∀ y ∈ B.take lo, y.key < x.key := fun y hy => by
  obtain ⟨t, ht, _, rfl⟩ := mem_take_get hy
  exact h1 t ht
 have g2 : ∀ y ∈ B.drop lo, ¬ y.key < x.key := fun y hy => by
  obtain ⟨t, ht, ht', rfl⟩ := mem_drop_get hy
  exact h2 t ht ht'
 have hs' : Srt (B.take lo ++ B.drop lo) := by rw [List.take_append_drop]; exact hs
 obtain ⟨ha, hb, hc⟩ := Srt.app.1 hs'
 constructor
 ·refine Srt.app.2 ⟨ha, List.pairwise_cons.2 ⟨fun y hy => g2 y hy, hb⟩, fun y hy z hz => ?_⟩
  rcases List.mem_cons.1 hz with rfl | hz
  ·exact lt_nlt (g1 y hy)
  ·exact hc y hy z hz
 ·have e := (Eqk.blocks (U := [x]) (V := B.take lo) (fun a ha b hb => by rw [List.mem_singleton.1 ha]; exact g1 b hb)).app (Eqk.refl (B.drop lo))
  rw [List.append_assoc, List.take_append_drop, List.append_assoc] at e
  exact e
theorem one_last {y : Wr} {A : List Wr} {lo : Nat} (hs : Srt A) (h1 : ∀ t, t < lo → t < A.length → ¬ y.key < (A.getD t wz).key) (h2 : ∀ t, lo ≤ t → t < A.length → y.key < (A.getD t wz).key) :
  Srt (A.take lo ++ y :: A.drop lo) ∧ Eqk (A ++ [y]) (A.take lo ++ y :: A.drop lo) := by
 have g1 : ∀ z ∈ A.take lo, ¬ y.key < z.key := fun z hz => by
  obtain ⟨t, ht, ht', rfl⟩ := mem_take_get hz
  exact h1 t ht ht'
 have g2 : ∀ z ∈ A.drop lo, y.key < z.key := fun z hz => by
  obtain ⟨t, ht, ht', rfl⟩ := mem_drop_get hz
  exact h2 t ht ht'
 have hs' : Srt (A.take lo ++ A.drop lo) := by rw [List.take_append_drop]; exact hs
 refine ⟨Srt.place hs' g1 g2, ?_⟩
 have e := Eqk.place (C1 := A.take lo) (x := y) g2
 rw [List.take_append_drop] at e
 exact e
theorem sym165a (P B Q : List Wr) (x : Wr) (hs : Srt B) (hn : n ≤ 1000000) (h : Sz base g cap n w (P ++ x :: (B ++ Q)) W) (a m b : Nat) (ha : P.length = a) (hm : a + 1 = m) (hb : m + B.length = b) :
  Calls Tryz.prog 165 #[.slice (some ⟨g, 0, none⟩) n cap, iw (a : Int), iw (m : Int), iw (b : Int), .func (.func 122) #[] #[]] W fun e w' => e = .returned (.tuple #[]) ∧ ∃ C, Sz base g cap n w (P ++ (C ++ Q)) w' ∧ Srt C ∧ Eqk (x :: B) C := by
 have hl := h.len
 simp only [List.length_append, List.length_cons] at hl
 have H : Hid (Sz base g cap n w (P ++ x :: (B ++ Q)) W) := h
 have HSr : Hid (Srt B) := hs
 have hb9 : b ≤ n := by omega
 have c0 : IntKind.i64.wrap ((m : Int) - (a : Int)) = 1 := by rw [IntKind.wrap_i64]; omega
 obtain ⟨L, hL⟩ := xj (P ++ x :: (B ++ Q))
 have HLL : Hid (P ++ x :: (B ++ Q) = L) := hL
 have GA : Hid (L.getD a wz = x) := by show _ = _; rw [← hL, ← ha]; simp [List.getD]
 have GB : Hid (∀ t, t < B.length → L.getD (m + t) wz = B.getD t wz) := fun t ht => by
  have k := getD_app (P ++ [x]) B Q ht
  rw [List.length_append, List.length_singleton, ha, hm, List.append_assoc] at k
  rw [← hL]
  exact k
 rw [hL] at H
 clear h hs hL
 go_enter Tryz.func165, Tryz.ntmps165
 go_wp2_with fail
 go_loopw [10, 11] (fun s t wr => ∃ lo hi : Nat, s = iw ((m + lo : Nat) : Int) ∧ t = iw ((m + hi : Nat) : Int) ∧ lo ≤ hi ∧ hi ≤ B.length ∧ Hid ((∀ t, t < lo → (B.getD t wz).key < x.key) ∧ (∀ t, hi ≤ t → t < B.length → ¬ (B.getD t wz).key < x.key)) ∧ Hid (Sz base g cap n w L wr)) (fun s t _ => (intOf t).toNat - (intOf s).toNat)
 case atStart => exact ⟨0, B.length, rfl, by rw [hb], Nat.zero_le _, Nat.le_refl _, ⟨fun t ht => absurd ht (by omega), fun t h1 h2 => by omega⟩, H.out⟩
 case round =>
  obtain ⟨lo, hi, rfl, rfl, hlh, hhi, HI, HS⟩ := hrel
  clear H c0
  by_cases hlt : lo < hi
  ·obtain ⟨i, hi'⟩ := xj (m + lo)
   obtain ⟨j, hj'⟩ := xj (m + hi)
   obtain ⟨t, ht⟩ := xj ((lo + hi) / 2)
   obtain ⟨q, hq⟩ := xj (m + t)
   have hmid : ((i : Int) + (j : Int)) / 2 = (q : Int) := by omega
   have hij : (i : Int) < (j : Int) := by omega
   obtain ⟨u, gu⟩ := xj (L.getD q wz)
   have gv := GA.out
   have HU : Hid (B.getD t wz = u) := by show _ = _; rw [← GB.out t (by omega), hq]; exact gu
   have hn1 : q < n := by omega
   have hn2 : a < n := by omega
   have htb : lo ≤ t ∧ t < hi := by omega
   have hi9 : i < 1000000 := by omega
   have hj9 : j ≤ 1000000 := by omega
   rw [hi', hj']
   have SN : Hid (∀ W, Sz base g cap n w L W → W.rangeAt g (q * 3) (wrc u) ∧ W.rangeAt g (a * 3) (wrc x)) := fun W s => ⟨by rw [← gu]; exact s.rng hn1, by rw [← gv]; exact s.rng hn2⟩
   have C122 : Hid (∀ W, Sz base g cap n w L W → Calls Tryz.prog 122 #[.agg (wrc u).toArray, .agg (wrc x).toArray] W fun e w' => e = .returned (iw (cmpF u.key x.key)) ∧ Sz base g cap n w L w') := fun W s => (cmp122 u x W).mono fun e w' q => ⟨q.1, s.on q.2⟩
   have HD : Hid (Sz base g cap n w L wr.drew) := HS.out.drew
   obtain ⟨z, hz⟩ := xj (cmpF u.key x.key)
   have HZ : Hid (z < 0 ↔ u.key < x.key) := by show _ ↔ _; rw [← hz]; exact cmpF_lt _ _
   rw [hz] at C122
   clear hz gu gv HS
   clear GA GB
   by_cases hlv : z < 0
   ·go_wp2_with fail
    refine wp_region_held_drew (S := (fun W => W.rangeAt g (q * 3) (wrc u) ∧ W.rangeAt g (a * 3) (wrc x))) (by kernel_rfl) (SN.out _ HD.out) (fun hHeld => ?_)
    refine tq 0 ?_
    refine tq 1 ?_
    refine tq 2 ?_
    refine tq 3 ?_
    refine tl 4 70 g (q * 3) (wrc u) (fun W hW => hW.1) Tryz.underlying70 ?_
    refine tq 5 ?_
    refine tq 6 ?_
    refine tq 7 ?_
    refine tl 8 70 g (a * 3) (wrc x) (fun W hW => hW.2) Tryz.underlying70 ?_
    refine rd 9 (fun K hK => ?_)
    go_simp
    refine (C122.out _ HD.out).mono ?_
    rintro e w3 ⟨rfl, h3⟩
    have X3 : Hid _ := h3
    clear h3
    go_wp2_with fail
    refine kj hK (SN.out _ X3.out) (fun hHeld => ?_)
    clear hK K
    refine tq 10 ?_
    refine wpAnyH_done (by kernel_rfl) ?_ _
    clear hHeld SN C122 HD
    go_wp2_with fail
    go_roundw
    case rel => exact ⟨t + 1, hi, by rw [show m + (t + 1) = q + 1 by omega]; go_num, by rw [hj'], by omega, hhi, ⟨fun k hk => by
     have k1 := HSr.out.get (i := k) (j := t) (by omega) (by omega)
     rw [HU.out] at k1
     exact key_lt k1 (HZ.out.1 hlv), HI.out.2⟩, X3.out⟩
    case measure => simp [intOf]; omega
   ·have HV : Hid (¬ z < 0) := hlv
    go_wp2_with fail
    refine wp_region_held_drew (S := (fun W => W.rangeAt g (q * 3) (wrc u) ∧ W.rangeAt g (a * 3) (wrc x))) (by kernel_rfl) (SN.out _ HD.out) (fun hHeld => ?_)
    refine tq 0 ?_
    refine tq 1 ?_
    refine tq 2 ?_
    refine tq 3 ?_
    refine tl 4 70 g (q * 3) (wrc u) (fun W hW => hW.1) Tryz.underlying70 ?_
    refine tq 5 ?_
    refine tq 6 ?_
    refine tq 7 ?_
    refine tl 8 70 g (a * 3) (wrc x) (fun W hW => hW.2) Tryz.underlying70 ?_
    refine rd 9 (fun K hK => ?_)
    go_simp
    refine (C122.out _ HD.out).mono ?_
    rintro e w3 ⟨rfl, h3⟩
    have X3 : Hid _ := h3
    clear h3
    go_wp2_with fail
    refine kj hK (SN.out _ X3.out) (fun hHeld => ?_)
    clear hK K
    refine tq 10 ?_
    refine wpAnyH_done (by kernel_rfl) ?_ _
    clear hHeld SN C122 HD
    go_wp2_with fail
    go_roundw
    case rel => exact ⟨lo, t, by rw [hi'], by rw [hq], by omega, by omega, ⟨HI.out.1, fun k hk hkb => by
     have k1 := HSr.out.get (i := t) (j := k) (by omega) (by omega)
     rw [HU.out] at k1
     exact fun e => by have e1 := HZ.out.2 (key_lt k1 e); have e2 := HV.out; omega⟩, X3.out⟩
    case measure => simp [intOf]; omega
  ·have hlo : hi = lo := by omega
   subst hlo
   have HR : Hid (Srt (B.take hi ++ x :: B.drop hi) ∧ Eqk (x :: B) (B.take hi ++ x :: B.drop hi)) := one_first HSr.out HI.out.1 HI.out.2
   obtain ⟨i, hi'⟩ := xj (m + hi)
   have hii : ¬ (i : Int) < (i : Int) := by omega
   have c1 : IntKind.i64.wrap ((i : Int) - 1) = ((a + hi : Nat) : Int) := by rw [IntKind.wrap_i64]; omega
   have hB1 : (B.take hi).length = hi := by rw [List.length_take]; omega
   have HS1 : Hid (Sz base g cap n w (P ++ ([] : List Wr) ++ x :: (B.take hi ++ (B.drop hi ++ Q))) wr) := by
    show Sz _ _ _ _ _ _ _
    rw [← List.append_assoc (B.take hi), List.take_append_drop, List.append_nil, HLL.out]
    exact HS.out
   clear HI HS GA GB HSr HLL
   generalize B.take hi = B1 at *
   generalize B.drop hi = B2 at *
   rw [hi']
   obtain ⟨e1, he1⟩ := xj (a + hi)
   rw [he1] at c1
   go_wp2_with fail
   go_loopw [13] (fun s wr => ∃ D E : List Wr, s = iw ((a + D.length : Nat) : Int) ∧ D.length + E.length = hi ∧ Hid (D ++ E = B1) ∧ Hid (Sz base g cap n w (P ++ D ++ x :: (E ++ (B2 ++ Q))) wr)) (fun s _ => e1 - (intOf s).toNat)
   case atStart => exact ⟨[], B1, rfl, by simp [hB1], rfl, HS1.out⟩
   case round =>
    obtain ⟨D, E, rfl, hde, HE, HS⟩ := hrel
    clear HS1
    cases E with
    | nil =>
     have hlt2 : ¬ ((a + D.length : Nat) : Int) < (e1 : Int) := by simp at hde; omega
     rw [List.append_nil] at HE
     go_wp2_with fail
     refine bodyPost_ret (results_none rfl _ _ _) rfl ?_
     refine ⟨rfl, B1 ++ x :: B2, ?_, HR.out.1, HR.out.2⟩
     have k := HS.out
     rw [HE.out] at k
     simpa using k
    | cons y E =>
     rw [List.length_cons] at hde
     obtain ⟨p, hp⟩ := xj (P ++ D).length
     obtain ⟨q, hq⟩ := xj (p + 1)
     have hpd : a + D.length = p := by rw [← hp, List.length_append]; omega
     obtain ⟨gy, gx⟩ := get_adj (P ++ D) (E ++ (B2 ++ Q)) y x
     have ga := swp_adj' (P ++ D) (E ++ (B2 ++ Q)) x y
     rw [hp, hq] at gy ga
     rw [hp] at gx
     have hqn : q < n := by have := HS.out.len; simp only [List.length_append, List.length_cons] at this hp; omega
     have hpn : p < n := by omega
     have hlt2 : (p : Int) < (e1 : Int) := by omega
     have c2 : IntKind.i64.wrap ((p : Int) + 1) = (q : Int) := by rw [IntKind.wrap_i64]; omega
     rw [hpd]
     replace HS : Hid (Sz base g cap n w (P ++ D ++ x :: y :: (E ++ (B2 ++ Q))) wr) := HS.out
     have hp9 : p < 1000000 := by omega
     have HE2 : Hid ((D ++ [y]) ++ E = B1) := by show _ = _; rw [← HE.out]; simp
     have hd := HS.out.drew
     have S2 : Hid (Sz base g cap n w (P ++ D ++ y :: x :: (E ++ (B2 ++ Q))) ((wr.drew.setCells g (p * 3) (wrc y)).setCells g (q * 3) (wrc x))) := by
      have k := hd.swp (i := p) (j := q) hpn hqn
      rw [gx, gy, ga] at k
      exact k
     have RX : Hid (wr.drew.rangeAt g (p * 3) (wrc x)) := by have k := hd.rng (i := p) hpn; rw [gx] at k; exact k
     have RY : Hid (wr.drew.rangeAt g (q * 3) (wrc y)) := by have k := hd.rng (i := q) hqn; rw [gy] at k; exact k
     have TA : Hid (wr.drew.there g (p * 3) 3) := hd.there hpn
     have TB : Hid ((wr.drew.setCells g (p * 3) (wrc y)).there g (q * 3) 3) := (hd.put (i := p) hpn y).there hqn
     clear gx gy ga hd HS
     go_wp2_with fail
     refine wp_region_held_drew (S := (fun _ => True)) (by kernel_rfl) trivial (fun hHeld => ?_)
     refine tq 0 ?_
     refine tq 1 ?_
     refine tq 2 ?_
     refine tq 3 ?_
     refine tq 4 ?_
     refine tq 5 ?_
     refine tq 6 ?_
     refine tq 7 ?_
     refine tq 8 ?_
     refine tq 10 ?_
     refine tq 11 ?_
     refine tq 12 ?_
     refine wpAnyH_ready (rs := [9, 13]) (by kernel_rfl) (by simp) ?_
     refine AllReadyH.cons rfl (fun K hK => ?_) (AllReadyH.cons rfl (fun K hK => ?_) AllReadyH.nil)
     ·rw [if_pos (by rfl)]
      refine wp_load_mid 70 _ rfl g (q * 3) (by simp [Act.eval, Act.put]) (wrc y) _ RY.out Tryz.underlying70 rfl rfl ?_
      refine kj hK trivial (fun hHeld => ?_)
      clear hK K
      refine rd 13 (fun K hK => ?_)
      rw [if_pos (by rfl)]
      refine wp_load_mid 70 _ rfl g (p * 3) (by simp [Act.eval, Act.put]) (wrc x) _ RX.out Tryz.underlying70 rfl rfl ?_
      refine kj hK trivial (fun hHeld => ?_)
      clear hK K
      refine tq 14 ?_
      refine rd 15 (fun K hK => ?_)
      rw [if_pos (by rfl)]
      refine wp_store_mid 70 _ _ rfl g (p * 3) (wrc y).toArray (by simp [Act.eval, Act.put]) (by simp [Act.eval, Act.put]) TA.out rfl (all_oneCell_toArray (wrc_one y)) ?_
      refine kj hK trivial (fun hHeld => ?_)
      clear hK K
      refine tq 16 ?_
      refine rd 17 (fun K hK => ?_)
      rw [if_pos (by rfl)]
      refine wp_store_mid 70 _ _ rfl g (q * 3) (wrc x).toArray (by simp [Act.eval, Act.put]) (by simp [Act.eval, Act.put]) TB.out rfl (all_oneCell_toArray (wrc_one x)) ?_
      refine kj hK trivial (fun hHeld => ?_)
      clear hK K
      refine wpAnyH_done (by kernel_rfl) ?_ _
      clear hHeld TA TB RX RY
      generalize (wr.drew.setCells g (p * 3) (wrc y)).setCells g (q * 3) (wrc x) = w2 at S2 ⊢
      go_wp2_with fail
      go_roundw
      case rel => exact ⟨D ++ [y], E, by rw [List.length_append, List.length_singleton, ← Nat.add_assoc, hpd, hq], by rw [List.length_append, List.length_singleton]; omega, HE2.out, by have k := S2.out; rw [show P ++ D ++ y :: x :: (E ++ (B2 ++ Q)) = P ++ (D ++ [y]) ++ x :: (E ++ (B2 ++ Q)) by simp] at k; exact k⟩
      case measure => simp [intOf]; omega
     ·rw [if_pos (by rfl)]
      refine wp_load_mid 70 _ rfl g (p * 3) (by simp [Act.eval, Act.put]) (wrc x) _ RX.out Tryz.underlying70 rfl rfl ?_
      refine kj hK trivial (fun hHeld => ?_)
      clear hK K
      refine rd 9 (fun K hK => ?_)
      rw [if_pos (by rfl)]
      refine wp_load_mid 70 _ rfl g (q * 3) (by simp [Act.eval, Act.put]) (wrc y) _ RY.out Tryz.underlying70 rfl rfl ?_
      refine kj hK trivial (fun hHeld => ?_)
      clear hK K
      refine tq 14 ?_
      refine rd 15 (fun K hK => ?_)
      rw [if_pos (by rfl)]
      refine wp_store_mid 70 _ _ rfl g (p * 3) (wrc y).toArray (by simp [Act.eval, Act.put]) (by simp [Act.eval, Act.put]) TA.out rfl (all_oneCell_toArray (wrc_one y)) ?_
      refine kj hK trivial (fun hHeld => ?_)
      clear hK K
      refine tq 16 ?_
      refine rd 17 (fun K hK => ?_)
      rw [if_pos (by rfl)]
      refine wp_store_mid 70 _ _ rfl g (q * 3) (wrc x).toArray (by simp [Act.eval, Act.put]) (by simp [Act.eval, Act.put]) TB.out rfl (all_oneCell_toArray (wrc_one x)) ?_
      refine kj hK trivial (fun hHeld => ?_)
      clear hK K
      refine wpAnyH_done (by kernel_rfl) ?_ _
      clear hHeld TA TB RX RY
      generalize (wr.drew.setCells g (p * 3) (wrc y)).setCells g (q * 3) (wrc x) = w2 at S2 ⊢
      go_wp2_with fail
      go_roundw
      case rel => exact ⟨D ++ [y], E, by rw [List.length_append, List.length_singleton, ← Nat.add_assoc, hpd, hq], by rw [List.length_append, List.length_singleton]; omega, HE2.out, by have k := S2.out; rw [show P ++ D ++ y :: x :: (E ++ (B2 ++ Q)) = P ++ (D ++ [y]) ++ x :: (E ++ (B2 ++ Q)) by simp] at k; exact k⟩
      case measure => simp [intOf]; omega
end Go.Proofs.YtkdkgdollmmcnaaGreat
