import Derived.Test.YtkdkgdollmmcnaaGreatWbh
set_option maxHeartbeats 4000000
set_option maxRecDepth 100000
set_option linter.unusedVariables false
set_option linter.unusedSimpArgs false
namespace Go.Proofs.YtkdkgdollmmcnaaGreat
open Go.RowKit Go.Sort Go.Shelf
section
variable {P : Program} {ops : Array Oper} {Q : Exit → Act → World → Prop} {S : World → Prop} {md : Region.Mode}
theorem wpAnyH_inv {k : Nat} (I T : Nat → Array Bool → Act → World → Prop) (hr : ∀ n ℓ a w, I (n + 1) ℓ a w → Region.ready md ops ℓ ≠ [])
  (hs : ∀ n ℓ a w i, I (n + 1) ℓ a w → i ∈ Region.ready md ops ℓ → wpOp P ops Q i (fun a' w' => S w' ∧ (I n (ℓ.setIfInBounds i true) a' w' ∨ T n (ℓ.setIfInBounds i true) a' w')) a w)
  (ht : ∀ n ℓ a w, T n ℓ a w → (∀ m ℓ a w, m < n → I m ℓ a w → wpAnyH P md ops Q S (m + k) ℓ a w) → S w → wpAnyH P md ops Q S (n + k) ℓ a w)
  (he : ∀ ℓ a w, I 0 ℓ a w → wpAnyH P md ops Q S k ℓ a w) (n : Nat) : ∀ m ℓ a w, m ≤ n → I m ℓ a w → wpAnyH P md ops Q S (m + k) ℓ a w := by
 induction n with
 | zero =>
  intro m ℓ a w hm h
  obtain rfl : m = 0 := by omega
  rw [Nat.zero_add]
  exact he ℓ a w h
 | succ n ih =>
  intro m ℓ a w hm h
  cases m with
  | zero =>
   rw [Nat.zero_add]
   exact he ℓ a w h
  | succ m =>
   rw [show m + 1 + k = (m + k) + 1 by omega]
   refine ⟨fun e => absurd e (hr m ℓ a w h), fun i hi => wpOp_mono (fun a' w' h' => ⟨h'.1, ?_⟩) (hs m ℓ a w i h hi)⟩
   rcases h'.2 with e | e
   ·exact ih m _ a' w' (by omega) e
   ·exact ht m _ a' w' e (fun m2 ℓ2 a2 w2 h2 h3 => ih m2 ℓ2 a2 w2 (by omega) h3) h'.1
def L4 (d6 d7 d8 : Bool) (c : Nat) : Array Bool := #[true, true, true, true, true, true, true, true, decide (1 ≤ c), true, decide (2 ≤ c), decide (3 ≤ c), decide (4 ≤ c), d6, d7, d8, false, false, false]
def rdy (d6 d7 d8 : Bool) (c : Nat) : List Nat := (match c with | 0 => [8] | 1 => [10] | 2 => [11] | 3 => [12] | _ => []) ++ ((if d6 then [] else [13]) ++ ((if d7 then [] else [14]) ++ (if d8 then [] else [15])))
def cnt4 (d6 d7 d8 : Bool) (c : Nat) : Nat := (4 - c) + ((if d6 then 0 else 1) + ((if d7 then 0 else 1) + (if d8 then 0 else 1)))
variable {W0 : World} {A : Option Nat → Option Nat → Option Nat → Nat → Value → Act}
def I4 (W0 : World) (A : Option Nat → Option Nat → Option Nat → Nat → Value → Act) (n : Nat) (ℓ : Array Bool) (a : Act) (w : World) : Prop :=
 ∃ o6 o7 o8 c v, (c = 0 ∨ c = 1 ∨ c = 4) ∧ n = cnt4 o6.isSome o7.isSome o8.isSome c ∧ ℓ = L4 o6.isSome o7.isSome o8.isSome c ∧ a = A o6 o7 o8 c v ∧ R4 W0 o6 o7 o8 w
def T4 (V : Value → Prop) (W0 : World) (A : Option Nat → Option Nat → Option Nat → Nat → Value → Act) (n : Nat) (ℓ : Array Bool) (a : Act) (w : World) : Prop :=
 ∃ o6 o7 o8 v, n = cnt4 o6.isSome o7.isSome o8.isSome 2 ∧ ℓ = L4 o6.isSome o7.isSome o8.isSome 2 ∧ a = A o6 o7 o8 2 v ∧ V v ∧ R4 W0 o6 o7 o8 w
theorem rdy_ne {d6 d7 d8 : Bool} {c n : Nat} (hc : c = 0 ∨ c = 1 ∨ c = 4) (h : n + 1 = cnt4 d6 d7 d8 c) : rdy d6 d7 d8 c ≠ [] := by
 rcases hc with rfl | rfl | rfl <;> cases d6 <;> cases d7 <;> cases d8 <;> simp [rdy, cnt4] at h ⊢
theorem five {k : Nat} {V : Value → Prop} (hrd : ∀ d6 d7 d8 c, (c = 0 ∨ c = 1 ∨ c = 4) → cnt4 d6 d7 d8 c ≠ 0 → Region.ready md ops (L4 d6 d7 d8 c) = rdy d6 d7 d8 c)
  (hS : ∀ w, Below W0.heap.size W0 w → S w)
  (s8 : ∀ K o6 o7 o8 v w, R4 W0 o6 o7 o8 w → (∀ w', R4 W0 o6 o7 o8 w' → K (A o6 o7 o8 1 v) w') → wpOp P ops Q 8 K (A o6 o7 o8 0 v) w)
  (s10 : ∀ K o6 o7 o8 v w, R4 W0 o6 o7 o8 w → (∀ v' w', V v' → R4 W0 o6 o7 o8 w' → K (A o6 o7 o8 2 v') w') → wpOp P ops Q 10 K (A o6 o7 o8 1 v) w)
  (s11 : ∀ o6 o7 o8 v w n, V v → S w → wpAnyH P md ops Q S n (L4 o6.isSome o7.isSome o8.isSome 4) (A o6 o7 o8 4 v) w → wpAnyH P md ops Q S (n + 2) (L4 o6.isSome o7.isSome o8.isSome 2) (A o6 o7 o8 2 v) w)
  (s13 : ∀ K o7 o8 c v w, R4 W0 none o7 o8 w → (∀ b w', R4 W0 (some b) o7 o8 w' → K (A (some b) o7 o8 c v) w') → wpOp P ops Q 13 K (A none o7 o8 c v) w)
  (s14 : ∀ K o6 o8 c v w, R4 W0 o6 none o8 w → (∀ b w', R4 W0 o6 (some b) o8 w' → K (A o6 (some b) o8 c v) w') → wpOp P ops Q 14 K (A o6 none o8 c v) w)
  (s15 : ∀ K o6 o7 c v w, R4 W0 o6 o7 none w → (∀ b w', R4 W0 o6 o7 (some b) w' → K (A o6 o7 (some b) c v) w') → wpOp P ops Q 15 K (A o6 o7 none c v) w)
  (he : ∀ b6 b7 b8 v w, R4 W0 (some b6) (some b7) (some b8) w → wpAnyH P md ops Q S k (L4 true true true 4) (A (some b6) (some b7) (some b8) 4 v) w)
  (v : Value) : wpAnyH P md ops Q S (7 + k) (L4 false false false 0) (A none none none 0 v) W0 := by
 refine wpAnyH_inv (I4 W0 A) (T4 V W0 A) ?_ ?_ ?_ ?_ 7 7 _ _ _ (Nat.le_refl _) ⟨none, none, none, 0, v, .inl rfl, rfl, rfl, rfl, R4.new W0⟩
 ·rintro n ℓ a w ⟨o6, o7, o8, c, v, hc, hn, rfl, rfl, hR⟩
  rw [hrd _ _ _ _ hc (by omega)]
  exact rdy_ne hc hn
 ·rintro n ℓ a w i ⟨o6, o7, o8, c, v, hc, hn, rfl, rfl, hR⟩ hi
  rw [hrd _ _ _ _ hc (by omega)] at hi
  unfold rdy at hi
  rcases List.mem_append.1 hi with hi | hi
  ·rcases hc with rfl | rfl | rfl
   ·obtain rfl : i = 8 := by simpa using hi
    exact s8 _ o6 o7 o8 v w hR fun w' h => ⟨hS w' h.bel, .inl ⟨o6, o7, o8, 1, v, .inr (.inl rfl), by simp only [cnt4] at hn ⊢; omega, rfl, rfl, h⟩⟩
   ·obtain rfl : i = 10 := by simpa using hi
    exact s10 _ o6 o7 o8 v w hR fun v' w' hv h => ⟨hS w' h.bel, .inr ⟨o6, o7, o8, v', by simp only [cnt4] at hn ⊢; omega, rfl, rfl, hv, h⟩⟩
   ·simp at hi
  ·rcases List.mem_append.1 hi with hi | hi
   ·cases o6 with
    | some b => simp at hi
    | none =>
     obtain rfl : i = 13 := by simpa using hi
     exact s13 _ o7 o8 c v w hR fun b w' h => ⟨hS w' h.bel, .inl ⟨some b, o7, o8, c, v, hc, by simp only [cnt4, Option.isSome_none, Option.isSome_some, if_true, Bool.false_eq_true, if_false] at hn ⊢; omega, rfl, rfl, h⟩⟩
   ·rcases List.mem_append.1 hi with hi | hi
    ·cases o7 with
     | some b => simp at hi
     | none =>
      obtain rfl : i = 14 := by simpa using hi
      exact s14 _ o6 o8 c v w hR fun b w' h => ⟨hS w' h.bel, .inl ⟨o6, some b, o8, c, v, hc, by simp only [cnt4, Option.isSome_none, Option.isSome_some, if_true, Bool.false_eq_true, if_false] at hn ⊢; omega, rfl, rfl, h⟩⟩
    ·cases o8 with
     | some b => simp at hi
     | none =>
      obtain rfl : i = 15 := by simpa using hi
      exact s15 _ o6 o7 c v w hR fun b w' h => ⟨hS w' h.bel, .inl ⟨o6, o7, some b, c, v, hc, by simp only [cnt4, Option.isSome_none, Option.isSome_some, if_true, Bool.false_eq_true, if_false] at hn ⊢; omega, rfl, rfl, h⟩⟩
 ·rintro n ℓ a w ⟨o6, o7, o8, v, hn, rfl, rfl, hV, hR⟩ ih hSw
  obtain ⟨m, rfl⟩ : ∃ m, n = m + 2 := ⟨n - 2, by simp only [cnt4] at hn; omega⟩
  rw [show m + 2 + k = (m + k) + 2 by omega]
  exact s11 o6 o7 o8 v w (m + k) hV hSw (ih m _ _ _ (by omega) ⟨o6, o7, o8, 4, v, .inr (.inr rfl), by simp only [cnt4] at hn ⊢; omega, rfl, rfl, hR⟩)
 ·rintro ℓ a w ⟨o6, o7, o8, c, v, hc, hn, rfl, rfl, hR⟩
  cases o6 <;> cases o7 <;> cases o8 <;> simp [cnt4] at hn
  obtain rfl : c = 4 := by omega
  exact he _ _ _ v w hR
def pv (a : Act) (d : Nat) (o : Option Nat) : Act := match o with
 | none => a
 | some b => a.put (some d) (pz b)
def pc (a : Act) (hm ln l1 v : Value) : Nat → Act
 | 0 => a
 | 1 => a.put (some 35) hm
 | 2 => (a.put (some 35) hm).put (some 37) v
 | 3 => ((a.put (some 35) hm).put (some 37) v).put (some 38) ln
 | _ => (((a.put (some 35) hm).put (some 37) v).put (some 38) ln).put (some 39) l1
def A4 (a : Act) (hm ln l1 : Value) (o6 o7 o8 : Option Nat) (c : Nat) (v : Value) : Act := pv (pv (pv (pc a hm ln l1 v c) 6 o6) 7 o7) 8 o8
theorem ne_some {d e : Nat} (h : d ≠ e) : ∀ x : Tmp, some d = some x → some e ≠ some x := fun x h1 h2 => by
 injection h1 with h1
 injection h2 with h2
 exact h (h1.trans h2.symm)
theorem pv_put (a : Act) {d e : Nat} (o : Option Nat) (v : Value) (h : d ≠ e) : pv (a.put (some e) v) d o = (pv a d o).put (some e) v := by
 cases o with
 | none => rfl
 | some b => exact Act.put_comm a v _ (ne_some (Ne.symm h))
variable {a : Act} {hm ln l1 v : Value} {o6 o7 o8 : Option Nat} {c b : Nat}
theorem A4_6 : A4 a hm ln l1 (some b) o7 o8 c v = (A4 a hm ln l1 none o7 o8 c v).put (some 6) (pz b) := by
 show pv (pv ((pc a hm ln l1 v c).put (some 6) _) 7 o7) 8 o8 = _
 rw [pv_put _ _ _ (by decide), pv_put _ _ _ (by decide)]
 rfl
theorem A4_7 : A4 a hm ln l1 o6 (some b) o8 c v = (A4 a hm ln l1 o6 none o8 c v).put (some 7) (pz b) := by
 show pv ((pv (pc a hm ln l1 v c) 6 o6).put (some 7) _) 8 o8 = _
 rw [pv_put _ _ _ (by decide)]
 rfl
theorem A4_8 : A4 a hm ln l1 o6 o7 (some b) c v = (A4 a hm ln l1 o6 o7 none c v).put (some 8) (pz b) := rfl
theorem A4_c {c' : Nat} {d : Nat} {u v' : Value} (h : pc a hm ln l1 v' c' = (pc a hm ln l1 v c).put (some d) u) (h1 : d ≠ 6) (h2 : d ≠ 7) (h3 : d ≠ 8) : A4 a hm ln l1 o6 o7 o8 c' v' = (A4 a hm ln l1 o6 o7 o8 c v).put (some d) u := by
 unfold A4
 rw [h, pv_put _ _ _ (Ne.symm h1), pv_put _ _ _ (Ne.symm h2), pv_put _ _ _ (Ne.symm h3)]
theorem put_get {d t : Nat} (u : Value) (h : d ≠ t) : (a.put (some d) u).tmps.getD t undef = a.tmps.getD t undef := by
 show (a.tmps.setIfInBounds d u).getD t undef = _
 rw [Array.getD_eq_getD_getElem?, Array.getD_eq_getD_getElem?, Array.getElem?_setIfInBounds_ne h]
theorem pv_get {d t : Nat} (h : d ≠ t) : (pv a d o6).tmps.getD t undef = a.tmps.getD t undef := by
 cases o6 with
 | none => rfl
 | some b => exact put_get _ h
theorem pc_get {t : Nat} (h1 : 35 ≠ t) (h2 : 37 ≠ t) (h3 : 38 ≠ t) (h4 : 39 ≠ t) : (pc a hm ln l1 v c).tmps.getD t undef = a.tmps.getD t undef := by
 match c with
 | 0 => rfl
 | 1 => exact put_get _ h1
 | 2 => exact (put_get _ h2).trans (put_get _ h1)
 | 3 => exact (put_get _ h3).trans ((put_get _ h2).trans (put_get _ h1))
 | c + 4 => exact (put_get _ h4).trans ((put_get _ h3).trans ((put_get _ h2).trans (put_get _ h1)))
theorem A4_get {t : Nat} (h6 : 6 ≠ t) (h7 : 7 ≠ t) (h8 : 8 ≠ t) : (A4 a hm ln l1 o6 o7 o8 c v).tmps.getD t undef = (pc a hm ln l1 v c).tmps.getD t undef := by
 unfold A4
 rw [pv_get h8, pv_get h7, pv_get h6]
theorem put_at {d : Nat} (u : Value) (h : d < a.tmps.size) : (a.put (some d) u).tmps.getD d undef = u := by
 show (a.tmps.setIfInBounds d u).getD d undef = _
 rw [Array.getD_eq_getD_getElem?, Array.getElem?_setIfInBounds_self]
 simp [h]
theorem put_size (d : Option Nat) (u : Value) : (a.put d u).tmps.size = a.tmps.size := by
 cases d with
 | none => rfl
 | some d => show (a.tmps.setIfInBounds d u).size = _; simp
theorem pv_size {d : Nat} : (pv a d o6).tmps.size = a.tmps.size := by
 cases o6 with
 | none => rfl
 | some b => exact put_size _ _
theorem five4 {k : Nat} {V : Value → Prop} {a0 : Act} {x34 x36 : Value} (hz : 40 ≤ a0.tmps.size) (e34 : a0.tmps.getD 34 undef = x34) (e36 : a0.tmps.getD 36 undef = x36)
  (hrd : ∀ d6 d7 d8 c, (c = 0 ∨ c = 1 ∨ c = 4) → cnt4 d6 d7 d8 c ≠ 0 → Region.ready md ops (L4 d6 d7 d8 c) = rdy d6 d7 d8 c)
  (hS : ∀ w, Below W0.heap.size W0 w → S w)
  (s8 : ∀ K a w, Below W0.heap.size W0 w → a.tmps.getD 34 undef = x34 → (∀ w', Below w.heap.size w w' → K (a.put (some 35) hm) w') → wpOp P ops Q 8 K a w)
  (s10 : ∀ K a w, Below W0.heap.size W0 w → a.tmps.getD 36 undef = x36 → (∀ v' w', V v' → Below w.heap.size w w' → K (a.put (some 37) v') w') → wpOp P ops Q 10 K a w)
  (s11 : ∀ d6 d7 d8 a w v n, 40 ≤ a.tmps.size → a.tmps.getD 37 undef = v → V v → S w → wpAnyH P md ops Q S n (L4 d6 d7 d8 4) ((a.put (some 38) ln).put (some 39) l1) w → wpAnyH P md ops Q S (n + 2) (L4 d6 d7 d8 2) a w)
  (s13 : ∀ K a w, K (a.put (some 6) (pz w.heap.size)) (w.alloc (.cells #[.int .u32 0, .int .u32 0] 38)) → wpOp P ops Q 13 K a w)
  (s14 : ∀ K a w, K (a.put (some 7) (pz w.heap.size)) (w.alloc (.cells #[iw 0] 3)) → wpOp P ops Q 14 K a w)
  (s15 : ∀ K a w, K (a.put (some 8) (pz w.heap.size)) (w.alloc (.cells #[iw 0] 3)) → wpOp P ops Q 15 K a w)
  (he : ∀ b6 b7 b8 v w, R4 W0 (some b6) (some b7) (some b8) w → wpAnyH P md ops Q S k (L4 true true true 4) (A4 a0 hm ln l1 (some b6) (some b7) (some b8) 4 v) w) : wpAnyH P md ops Q S (7 + k) (L4 false false false 0) a0 W0 := by
 refine five (V := V) (A := A4 a0 hm ln l1) hrd hS ?_ ?_ ?_ ?_ ?_ ?_ he undef
 ·intro K o6 o7 o8 v w hR hK
  refine s8 K _ w hR.bel ((A4_get (by decide) (by decide) (by decide)).trans e34) fun w' hb => ?_
  have := hK w' (hR.on hb)
  rwa [A4_c (c := 0) (v := v) (d := 35) (u := hm) rfl (by decide) (by decide) (by decide)] at this
 ·intro K o6 o7 o8 v w hR hK
  refine s10 K _ w hR.bel ((A4_get (by decide) (by decide) (by decide)).trans ((pc_get (by decide) (by decide) (by decide) (by decide)).trans e36)) fun v' w' hv hb => ?_
  have := hK v' w' hv (hR.on hb)
  rwa [A4_c (c := 1) (v := v) (d := 37) (u := v') rfl (by decide) (by decide) (by decide)] at this
 ·intro o6 o7 o8 v w n hV hSw h
  have e3 : A4 a0 hm ln l1 o6 o7 o8 4 v = ((A4 a0 hm ln l1 o6 o7 o8 2 v).put (some 38) ln).put (some 39) l1 := by
   rw [A4_c (c := 3) (v := v) (d := 39) (u := l1) rfl (by decide) (by decide) (by decide), A4_c (c := 2) (v := v) (d := 38) (u := ln) rfl (by decide) (by decide) (by decide)]
  rw [e3] at h
  exact s11 _ _ _ _ w v n (by unfold A4; rw [pv_size, pv_size, pv_size]; simp only [pc, put_size]; omega) ((A4_get (by decide) (by decide) (by decide)).trans (put_at _ (by simp only [put_size]; omega))) hV hSw h
 ·intro K o7 o8 c v w hR hK
  refine s13 K _ w ?_
  have := hK _ _ hR.a6
  rwa [A4_6] at this
 ·intro K o6 o8 c v w hR hK
  refine s14 K _ w ?_
  have := hK _ _ hR.a7
  rwa [A4_7] at this
 ·intro K o6 o7 c v w hR hK
  refine s15 K _ w ?_
  have := hK _ _ hR.a8
  rwa [A4_8] at this
theorem wpAnyH_at {n n' : Nat} {ℓ ℓ' : Array Bool} {w : World} (h1 : n = n') (h2 : ℓ = ℓ') (h : wpAnyH P md ops Q S n' ℓ' a w) : wpAnyH P md ops Q S n ℓ a w := by
 subst h1 h2
 exact h
end
end Go.Proofs.YtkdkgdollmmcnaaGreat
