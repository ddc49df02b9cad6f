/-
  Contract of pack.first: the number with which bytes begin, how many it takes, or why there is none.
-/
import Derived.Test.YtmldgfepnmencaaWriter
import Derived.ScopeJumps
import Derived.WalkMore
namespace Go.Proofs.Ytmldgfepnmencaa
open Go.RowKit

/-- The number with which bytes begin, how many it takes; or 0, 0 and why there is none. -/
def rdFirst : List UInt8 → Nat × Nat × Nat
  | [] => (0, 0, 4)
  | b :: r => if b.toNat ≤ 247 then (b.toNat, 1, 0) else
      if r.length < b.toNat - 247 then (0, 0, 4) else
      if 1 + (b.toNat - 247) = sz (vl (r.take (b.toNat - 247))) then (vl (r.take (b.toNat - 247)), 1 + (b.toNat - 247), 0) else (0, 0, 2)

/-- As Q; by a goto to a label: J. -/
def onJump (J : Nat → Act → World → Prop) (Q : Exit → Act → World → Prop) : Exit → Act → World → Prop
  | .goto l, a, w => J l a w
  | e, a, w => Q e a w

theorem scope_labels {P : Program} {a : Act} {w : World} {Q : Exit → Act → World → Prop} {c : Code} (J : Nat → Act → World → Prop) (μ : Nat → Act → World → Nat)
    (pass : ∀ l a w, J l a w → ∃ rest, findLabel c l = some (Code.skip.seq rest) ∧ rest.wp P (onJump (fun l' a' w' => J l' a' w' ∧ μ l' a' w' < μ l a w) Q) a w)
    (first : (∀ l a w rest, findLabel c l = some (Code.skip.seq rest) → J l a w → rest.wp P (onJump J Q) a w) → c.wp P (onJump J Q) a w) : (Code.scope c).wp P Q a w := by
  have first := first (fun l a w rest hr hJ => by
    obtain ⟨r, hr', hwp⟩ := pass l a w hJ
    rw [hr] at hr'
    injection hr' with hr'
    injection hr' with _ hr'
    subst hr'
    refine Code.wp_mono ?_ hwp
    intro e a1 w1 hq
    cases e with
    | goto l' => exact hq.1
    | normal => exact hq
    | exit id => exact hq
    | ret => exact hq
    | panic ch => exact hq
    | outgrown => exact hq)
  intro b k cs
  have key : ∀ n l a w rest, findLabel c l = some rest → μ l a w = n → J l a w → ∃ e a' w', Q e a' w' ∧ Arrives P (lone (b.at a (.code rest :: .inScope c :: k)) cs w) b k cs e a' w' := by
    intro n
    induction n using Nat.strongRecOn with
    | ind n ih =>
      intro l a w rest hr hn hJ
      obtain ⟨rest', hr', hwp⟩ := pass l a w hJ
      rw [hr] at hr'
      injection hr' with hr'
      subst hr'
      have hwp2 : (Code.skip.seq rest').wp P (onJump (fun l' a' w' => J l' a' w' ∧ μ l' a' w' < μ l a w) Q) a w := wp_seq (wp_skip hwp)
      obtain ⟨e, a1, w1, hq, harr⟩ := hwp2 b (.inScope c :: k) cs
      cases e with
      | normal => exact ⟨.normal, a1, w1, hq, Steps.trans harr (.one step_inScope)⟩
      | exit id => exact ⟨.exit id, a1, w1, hq, fun k' hk => harr k' (by simp [exitTo, hk])⟩
      | goto l' =>
        obtain ⟨hJ', hlt⟩ := hq
        obtain ⟨r2, hr2, _⟩ := pass l' a1 w1 hJ'
        obtain ⟨e2, a2, w2, hq2, harr2⟩ := ih _ (by omega) l' a1 w1 _ hr2 rfl hJ'
        exact ⟨e2, a2, w2, hq2, .of_steps (harr _ (by simp [gotoIn, hr2])) harr2⟩
      | ret => exact ⟨_, a1, w1, hq, harr⟩
      | panic ch => exact ⟨_, a1, w1, hq, harr⟩
      | outgrown => exact ⟨_, a1, w1, hq, harr⟩
  obtain ⟨e, a1, w1, hq, harr⟩ := first b (.inScope c :: k) cs
  cases e with
  | normal => exact ⟨.normal, a1, w1, hq, .head step_scope (Steps.trans harr (.one step_inScope))⟩
  | exit id => exact ⟨.exit id, a1, w1, hq, fun k' hk => .head step_scope (harr k' (by simp [exitTo, hk]))⟩
  | goto l' =>
    obtain ⟨r2, hr2, _⟩ := pass l' a1 w1 hq
    obtain ⟨e2, a2, w2, hq2, harr2⟩ := key _ l' a1 w1 _ hr2 rfl hq
    exact ⟨e2, a2, w2, hq2, .of_steps (.head step_scope (harr _ (by simp [gotoIn, hr2]))) harr2⟩
  | ret => exact ⟨_, a1, w1, hq, .of_steps (.one step_scope) harr⟩
  | panic ch => exact ⟨_, a1, w1, hq, .of_steps (.one step_scope) harr⟩
  | outgrown => exact ⟨_, a1, w1, hq, .of_steps (.one step_scope) harr⟩

theorem or_byte (N c : Nat) (hN : N < 72057594037927936) (hc : c < 256) : bits BinOp.or IntKind.u64 ((N : Int) * 256) (c : Int) = ((N * 256 + c : Nat) : Int) := by
  have h := u64_or_nat (N * 256) c (by omega) (by omega)
  have e : N * 256 ||| c = N * 256 + c := by
    have := Nat.shiftLeft_add_eq_or_of_lt (i := 8) (b := c) (by omega) N
    rw [Nat.shiftLeft_eq] at this
    exact this.symm
  rw [e] at h
  rw [← h]
  rfl

theorem wrap_byte (c : Nat) (hc : c < 256) : IntKind.u64.wrap (c : Int) = c := by
  simp [IntKind.wrap, IntKind.bits, IntKind.signed]; omega

theorem get_list (s : ByteArray) (t : Nat) (h : t < s.size) : s.data.toList[t]? = some (s[t]'h) := by
  rw [List.getElem?_eq_some_iff]
  exact ⟨by simpa using h, by simp [ByteArray.getElem_eq_getElem_data]⟩

theorem list_ne {s : ByteArray} (h : 0 < s.size) : ∃ r, s.data.toList = (s[0]'h) :: r ∧ r.length = s.size - 1 := by
  have h1 := get_list s 0 h
  have h2 : s.data.toList.length = s.size := by simp
  cases e : s.data.toList with
  | nil => rw [e] at h1; simp at h1
  | cons b r =>
    rw [e] at h1 h2
    simp at h1
    exact ⟨r, by rw [h1], by simp at h2; omega⟩

theorem toList_list (s : ByteArray) : s.toList = s.data.toList := Lib.toList_data s

theorem rd_long (s : ByteArray) (h0 : 0 < s.size) (h : 247 < (s.data.toList.headD 0).toNat) : rdFirst s.data.toList =
    if s.size - 1 < (s.data.toList.headD 0).toNat - 247 then (0, 0, 4) else
    if 1 + ((s.data.toList.headD 0).toNat - 247) = sz (vl ((s.data.toList.drop 1).take ((s.data.toList.headD 0).toNat - 247))) then
      (vl ((s.data.toList.drop 1).take ((s.data.toList.headD 0).toNat - 247)), 1 + ((s.data.toList.headD 0).toNat - 247), 0) else (0, 0, 2) := by
  obtain ⟨r, hr, hl⟩ := list_ne h0
  rw [hr] at h ⊢
  rw [List.headD_cons] at h
  rw [rdFirst, if_neg (show ¬ (s[0]'h0).toNat ≤ 247 by omega), hl]
  rfl

theorem head_at (s : ByteArray) (h : 0 < s.size) : s.data.toList.headD 0 = s[0]'h := by
  obtain ⟨r, hr, _⟩ := list_ne h
  rw [hr]; rfl

/-- One byte more. -/
theorem vl_more (s : ByteArray) (t : Nat) (h1 : 1 ≤ t) (h : t < s.size) : vl ((s.data.toList.drop 1).take t) = vl ((s.data.toList.drop 1).take (t - 1)) * 256 + (s[t]'h).toNat := by
  obtain ⟨k, rfl⟩ : ∃ k, t = k + 1 := ⟨t - 1, by omega⟩
  have hg : (s.data.toList.drop 1)[k]? = some (s[k + 1]'h) := by rw [List.getElem?_drop, Nat.add_comm 1 k]; exact get_list s _ h
  rw [List.take_add_one, hg, Nat.add_sub_cancel]
  exact vl_snoc _ _

theorem vl_small (s : ByteArray) (t : Nat) (ht : t ≤ 8) : vl ((s.data.toList.drop 1).take (t - 1)) < 72057594037927936 := by
  have h := vl_lt ((s.data.toList.drop 1).take (t - 1))
  have hl : ((s.data.toList.drop 1).take (t - 1)).length ≤ 7 := by rw [List.length_take]; omega
  have : 256 ^ ((s.data.toList.drop 1).take (t - 1)).length ≤ 256 ^ 7 := Nat.pow_le_pow_right (by decide) hl
  omega

/-- The frame at the label 'next': t bytes are taken. -/
def AtNext (s : ByteArray) (t : Nat) (a : Act) : Prop :=
  ∃ u6 u7 u8 u9 u10 u11 u12 u13 u14 u15 u16 u17 u18 u19 u20 u21 u22 u23 u24 u25 u26 u27 u28 u29 u30 u31 u32 u33 u34 u35 u36 u37 u38 u39 u40 u41 u42 : Value, a = { tmps := #[.string s, undef, .int .u64 (vl ((s.data.toList.drop 1).take (t - 1))), .int .i64 t, .int .i64 0, .int .i64 (((s.data.toList.headD 0).toNat : Int) - 246), u6, u7, u8, u9, u10, u11, u12, u13, u14, u15, u16, u17, u18, u19, u20, u21, u22, u23, u24, u25, u26, u27, u28, u29, u30, u31, u32, u33, u34, u35, u36, u37, u38, u39, u40, u41, u42], defers := [] }
/-- The frame at the label 'cut'. -/
def AtCut (s : ByteArray) (a : Act) : Prop :=
  ∃ u2 u3 u4 u5 u6 u7 u8 u9 u10 u11 u12 u13 u14 u15 u16 u17 u18 u19 u20 u21 u22 u23 u24 u25 u26 u27 u28 u29 u30 u31 u32 u33 u34 u35 u36 u37 u38 u39 u40 u41 u42 : Value, a = { tmps := #[.string s, undef, u2, u3, u4, u5, u6, u7, u8, u9, u10, u11, u12, u13, u14, u15, u16, u17, u18, u19, u20, u21, u22, u23, u24, u25, u26, u27, u28, u29, u30, u31, u32, u33, u34, u35, u36, u37, u38, u39, u40, u41, u42], defers := [] }

theorem atNext {s : ByteArray} {t : Nat} {x2 x3 x5 u6 u7 u8 u9 u10 u11 u12 u13 u14 u15 u16 u17 u18 u19 u20 u21 u22 u23 u24 u25 u26 u27 u28 u29 u30 u31 u32 u33 u34 u35 u36 u37 u38 u39 u40 u41 u42 : Value} (h2 : x2 = .int .u64 (vl ((s.data.toList.drop 1).take (t - 1)))) (h3 : x3 = .int .i64 t) (h5 : x5 = .int .i64 (((s.data.toList.headD 0).toNat : Int) - 246)) :
    AtNext s t { tmps := #[.string s, undef, x2, x3, .int .i64 0, x5, u6, u7, u8, u9, u10, u11, u12, u13, u14, u15, u16, u17, u18, u19, u20, u21, u22, u23, u24, u25, u26, u27, u28, u29, u30, u31, u32, u33, u34, u35, u36, u37, u38, u39, u40, u41, u42], defers := [] } := by
  subst h2; subst h3; subst h5
  exact ⟨u6, u7, u8, u9, u10, u11, u12, u13, u14, u15, u16, u17, u18, u19, u20, u21, u22, u23, u24, u25, u26, u27, u28, u29, u30, u31, u32, u33, u34, u35, u36, u37, u38, u39, u40, u41, u42, rfl⟩
theorem atCut {s : ByteArray} {u2 u3 u4 u5 u6 u7 u8 u9 u10 u11 u12 u13 u14 u15 u16 u17 u18 u19 u20 u21 u22 u23 u24 u25 u26 u27 u28 u29 u30 u31 u32 u33 u34 u35 u36 u37 u38 u39 u40 u41 u42 : Value} : AtCut s { tmps := #[.string s, undef, u2, u3, u4, u5, u6, u7, u8, u9, u10, u11, u12, u13, u14, u15, u16, u17, u18, u19, u20, u21, u22, u23, u24, u25, u26, u27, u28, u29, u30, u31, u32, u33, u34, u35, u36, u37, u38, u39, u40, u41, u42], defers := [] } := ⟨u2, u3, u4, u5, u6, u7, u8, u9, u10, u11, u12, u13, u14, u15, u16, u17, u18, u19, u20, u21, u22, u23, u24, u25, u26, u27, u28, u29, u30, u31, u32, u33, u34, u35, u36, u37, u38, u39, u40, u41, u42, rfl⟩

set_option maxHeartbeats 1600000 in
set_option maxRecDepth 100000 in
theorem first35 (s : ByteArray) (w : World) (hs : s.size < 9223372036854775808) :
    Calls Try.prog 58 #[.string s] w fun e w' => e = .returned (.tuple #[.int .u64 (rdFirst s.data.toList).1, .int .i64 (rdFirst s.data.toList).2.1, .int .i64 (rdFirst s.data.toList).2.2]) ∧ w = w' := by
  go_enter Try.func58, Try.ntmps58
  go_wp2
  refine scope_labels (fun l a' w' => w = w' ∧ (l = 0 ∧ rdFirst s.data.toList = (0, 0, 4) ∧ AtCut s a' ∨ l = 1 ∧ 0 < s.size ∧ 247 < (s.data.toList.headD 0).toNat ∧ ∃ t, 1 ≤ t ∧ t < (s.data.toList.headD 0).toNat - 246 ∧ t ≤ s.size ∧ AtNext s t a'))
    (fun l a' _ => if l = 0 then 0 else 1000 - (intOf (a'.tmps.getD 3 undef)).toNat) ?_ ?_
  · rintro l a' w' ⟨rfl, ⟨rfl, hc, hat⟩ | ⟨rfl, h0, hb, t, ht1, htw, hts, hat⟩⟩
    · obtain ⟨u2, u3, u4, u5, u6, u7, u8, u9, u10, u11, u12, u13, u14, u15, u16, u17, u18, u19, u20, u21, u22, u23, u24, u25, u26, u27, u28, u29, u30, u31, u32, u33, u34, u35, u36, u37, u38, u39, u40, u41, u42, rfl⟩ := hat
      refine ⟨_, rfl, ?_⟩
      go_wp2
      simp only [onJump]
      go_ret3
      rw [hc]
      exact ⟨rfl, rfl⟩
    · obtain ⟨u6, u7, u8, u9, u10, u11, u12, u13, u14, u15, u16, u17, u18, u19, u20, u21, u22, u23, u24, u25, u26, u27, u28, u29, u30, u31, u32, u33, u34, u35, u36, u37, u38, u39, u40, u41, u42, rfl⟩ := hat
      refine ⟨_, rfl, ?_⟩
      obtain ⟨N, hN⟩ : ∃ N : Nat, N = vl ((s.data.toList.drop 1).take (t - 1)) := ⟨_, rfl⟩
      obtain ⟨B, hB⟩ : ∃ B : Nat, B = (s.data.toList.headD 0).toNat := ⟨_, rfl⟩
      rw [← hN, ← hB]
      rw [← hB] at hb htw
      have hB256 : B < 256 := by rw [hB]; exact u8_lt _
      have hN56 : N < 72057594037927936 := by rw [hN]; exact vl_small s t (by omega)
      have HN : Hid (N = vl ((s.data.toList.drop 1).take (t - 1)) ∧ B = (s.data.toList.headD 0).toNat) := ⟨hN, hB⟩
      clear hN hB
      by_cases hte : t = s.size
      · have hte' : ((t : Int) == s.size) = true := by simp; omega
        have hcut : rdFirst s.data.toList = (0, 0, 4) := by
          rw [rd_long s h0 (by rw [← HN.out.2]; exact hb), ← HN.out.2, if_pos (by omega)]
        have HC : Hid (rdFirst s.data.toList = (0, 0, 4)) := hcut
        clear hcut
        go_wp2
        go_step3
        exact ⟨⟨rfl, .inl ⟨rfl, HC.out, atCut⟩⟩, by simp [intOf]; omega⟩
      · have hte' : ((t : Int) == s.size) = false := by simp; omega
        have hlt : t < s.size := by omega
        have hc := u8_lt (s[t]'hlt)
        obtain ⟨M, hM⟩ : ∃ M : Nat, M = N * 256 + (s[t]'hlt).toNat := ⟨_, rfl⟩
        have hor : bits BinOp.or IntKind.u64 ((N : Int) * 256) (IntKind.u64.wrap ((s[t]'hlt).toNat : Int)) = (M : Int) := by rw [wrap_byte _ hc, hM]; exact or_byte N _ hN56 hc
        have hor2 : bits BinOp.or IntKind.u64 ((N : Int) * 256) ((s[t]'hlt).toNat : Int) = (M : Int) := by rw [hM]; exact or_byte N _ hN56 hc
        have HM : Hid (M = N * 256 + (s[t]'hlt).toNat) := hM
        clear hM hc
        by_cases hl : t + 1 < B - 246
        · have hl' : (t : Int) + 1 < (B : Int) - 246 := by omega
          go_wp2_with fail
          go_step3
          refine ⟨⟨rfl, .inr ⟨rfl, h0, hb, t + 1, by omega, hl, by omega, atNext ?_ (by go_num) (by rw [← HN.out.2])⟩⟩, ?_⟩
          · rw [Nat.add_sub_cancel, vl_more s t ht1 hlt, ← HN.out.1, ← HM.out]
          · simp [intOf]; omega
        · have hl' : ¬ (t : Int) + 1 < (B : Int) - 246 := by omega
          have hML : M = vl ((s.data.toList.drop 1).take (B - 247)) := by rw [HM.out, HN.out.1, ← vl_more s t ht1 hlt]; congr 2; omega
          have hrd : rdFirst s.data.toList = if 1 + (B - 247) = sz M then (M, 1 + (B - 247), 0) else (0, 0, 2) := by
            rw [rd_long s h0 (by rw [← HN.out.2]; exact hb), ← HN.out.2, if_neg (by omega), ← hML]
          have hM64 : M < 18446744073709551616 := by
            rw [HM.out]; have := u8_lt (s[t]'hlt); omega
          have HR : Hid (rdFirst s.data.toList = if 1 + (B - 247) = sz M then (M, 1 + (B - 247), 0) else (0, 0, 2)) := hrd
          clear hrd hML
          go_wp2_with fail
          refine (size34 M _ hM64).mono ?_
          rintro e w1 ⟨rfl, rfl⟩
          by_cases hz : 1 + (B - 247) = sz M
          · have hz' : ((B : Int) - 246 != (sz M : Int)) = false := by simp; omega
            go_wp2
            simp only [onJump]
            go_ret3
            rw [HR.out, if_pos hz]
            refine ⟨?_, rfl⟩
            have e1 : (t : Int) + 1 = ((1 + (B - 247) : Nat) : Int) := by omega
            show Ending.returned (.tuple #[.int .u64 (M : Int), .int .i64 ((t : Int) + 1), .int .i64 0]) = _
            rw [e1]
            rfl
          · have hz' : ((B : Int) - 246 != (sz M : Int)) = true := by simp; omega
            go_wp2
            simp only [onJump]
            go_ret3
            rw [HR.out, if_neg hz]
            exact ⟨rfl, rfl⟩
  · intro hp
    by_cases h0 : s.size = 0
    · have hd : s.data.toList = [] := List.length_eq_zero_iff.1 (by simpa using h0)
      have hE : s.toList.isEmpty = true := by rw [toList_list, hd]; rfl
      have HC : Hid (rdFirst s.data.toList = (0, 0, 4)) := by rw [hd]; rfl
      clear hp hd
      go_wp2
      go_step3
      exact ⟨rfl, .inl ⟨rfl, HC.out, atCut⟩⟩
    · have h0' : 0 < s.size := by omega
      obtain ⟨r, hr, hrl⟩ := list_ne h0'
      have hE : s.toList.isEmpty = false := by rw [toList_list, hr]; rfl
      have hb : ((s[0]'h0').toNat : Int) < 256 := by have := u8_lt (s[0]'h0'); omega
      have HP : Hid _ := hp
      have HRL : Hid (s.data.toList = (s[0]'h0') :: r) := hr
      clear hp hr
      by_cases h247 : ((s[0]'h0').toNat : Int) ≤ 247
      · go_wp2
        simp only [onJump]
        go_ret3
        rw [HRL.out, rdFirst, if_pos (by omega)]
        exact ⟨rfl, rfl⟩
      · have h248 : (247 : Int) < ((s[0]'h0').toNat : Int) := by omega
        go_wp2
        go_step3
        rename_i K hK
        refine hK _ _ ?_
        refine HP.out 1 _ _ _ rfl ⟨rfl, .inr ⟨rfl, h0', ?_, 1, Nat.le_refl _, ?_, by omega, atNext rfl (by go_num) ?_⟩⟩
        · rw [head_at s h0']; omega
        · rw [head_at s h0']; omega
        · rw [head_at s h0']
          congr 1
          omega

end Go.Proofs.Ytmldgfepnmencaa
