import Derived.Test.YtkdkgdollmmcnaaGreatWbq
set_option maxHeartbeats 4000000
set_option maxRecDepth 100000
set_option linter.unusedVariables false
set_option linter.unusedSimpArgs false
namespace Go.Proofs.YtkdkgdollmmcnaaGreat
open Go.RowKit Go.Sort
theorem idx152 {α : Type} (vc : α → List Value) (hsz : ∀ a, (vc a).length = 3) (d : α) (f : Nat) (cf : Array Value) (p : α → Bool) (L : List α) (v : Value) (w : World) (hL : RwAt w.heap.size 3 v L.length (rowC vc L) w) (ef : ∀ args w, (callFunc f args).run Tryz.prog w = .ok (.enter f args) w)
  (HF : Hid (∀ (x : α) W, Below w.heap.size w W → Calls Tryz.prog f (#[.agg (vc x).toArray] ++ cf) W fun e w' => e = .returned (.bool (p x)) ∧ Below W.heap.size W w')) :
  Calls Tryz.prog 152 #[v, .func (.func f) #[] cf] w fun e w' => ∃ i : Int, e = .returned (iw i) ∧ IdxOf p L d i ∧ Below w.heap.size w w' := by
 have HL : Hid (RwAt w.heap.size 3 v L.length (rowC vc L) w) := hL
 obtain ⟨ao, cap, rfl, -, hlc, hcm, -⟩ := hL
 have hL9 : L.length < 9223372036854775808 := by omega
 have HE : Hid (∀ W, Below w.heap.size w W → ∀ i, i < L.length → ∃ b off, ao = some ⟨b, off, none⟩ ∧ W.rangeAt b (off + i * 3) (vc (L.getD i d))) := fun W hW i hi => rw_range hsz d (by decide) (HL.out.on hW) hi
 clear hlc hcm HL
 have hi : ∀ x, (Tryz.prog.info? 70).map (·.size) = some (vc x).length := fun x => by rw [hsz]; kernel_rfl
 have HI : Hid (∀ x, (Tryz.prog.info? 70).map (·.size) = some (vc x).length) := hi
 clear hi
 go_enter Tryz.func152, Tryz.ntmps152
 go_wp2_with fail
 go_loopw [8] (fun i wr => Below w.heap.size w wr ∧ ∃ m : Nat, m ≤ L.length ∧ i = iw m ∧ Hid (∀ j, j < m → p (L.getD j d) = false)) (fun i _ => L.length - (intOf i).toNat)
 case atStart => exact ⟨Below.refl _ _, 0, Nat.zero_le _, rfl, fun j hj => absurd hj (by omega)⟩
 case round =>
  obtain ⟨hbr, m, hm, rfl, hy⟩ := hrel
  have HBr : Hid (Below w.heap.size w wr) := hbr
  by_cases hml : m < L.length
  ·obtain ⟨b, off, rfl, er⟩ := HE.out wr hbr m hml
   have ER : Hid _ := er
   have hml' : (m : Int) < L.length := by omega
   have hm9 : ¬ (m : Int) < 0 := by omega
   have HQ : Hid (m + 1 ≤ L.length) := hml
   obtain ⟨x, hx⟩ := xj (L.getD m d)
   rw [hx] at ER
   have CF : Hid (1 = 1 → _) := fun _ => HF.out x wr hbr
   obtain ⟨z, hz⟩ := xj (p x)
   rw [hz] at CF
   have HX : Hid (L.getD m d = x ∧ p x = z) := ⟨hx, hz⟩
   clear hz hx hbr er HE
   cases z
   ·go_wp2_with (refine wpList_load_mid rfl 70 _ rfl b (off + m * 3) rfl (vc x) _ ER.out Tryz.underlying70 rfl (HI.out x) ?_)
    refine (CF.out (by trivial)).mono ?_
    rintro e w1 ⟨rfl, hb1⟩
    have HB1 : Hid (Below w.heap.size w w1) := HBr.out.trans (hb1.mono HBr.out.size)
    clear hb1 CF ER
    go_wp2_with fail
    go_roundw
    case rel => exact ⟨HB1.out, m + 1, HQ.out, by go_num, fun j hj => by
     rcases Nat.lt_or_ge j m with h1 | h1
     ·exact hy.out j h1
     ·have : j = m := by omega
      subst this
      rw [HX.out.1]
      exact HX.out.2⟩
    case measure => simp [intOf]; omega
   ·go_wp2_with (refine wpList_load_mid rfl 70 _ rfl b (off + m * 3) rfl (vc x) _ ER.out Tryz.underlying70 rfl (HI.out x) ?_)
    refine (CF.out (by trivial)).mono ?_
    rintro e w1 ⟨rfl, hb1⟩
    have HB1 : Hid (Below w.heap.size w w1) := HBr.out.trans (hb1.mono HBr.out.size)
    clear hb1 CF ER
    go_wp2_with fail
    go_ret
    exact ⟨_, rfl, .inr ⟨m, rfl, HQ.out, by rw [HX.out.1]; exact HX.out.2, hy.out⟩, HB1.out⟩
  ·have hml' : ¬ (m : Int) < L.length := by omega
   have HM : Hid (m = L.length) := by show _ = _; omega
   clear hbr
   go_wp2_with fail
   go_ret
   exact ⟨_, rfl, .inl ⟨rfl, fun j hj => hy.out j (by rw [HM.out]; exact hj)⟩, HBr.out⟩
structure Df125 {α : Type} (vc : α → List Value) (p : α → Bool) (L : List α) (base g cap : Nat) (w : World) (i j : Nat) (S : List α) (W : World) : Prop where
 len : S.length = L.length
 tk : S.take i = (L.take j).filter fun x => !p x
 dr : S.drop j = L.drop j
 own : W.ownsRow base 70 3 (.slice (some ⟨g, 0, none⟩) S.length cap) S.length (rowC vc S)
 kp : Kept (fun k => k = g) w W
 ij : i < j
 jl : j ≤ L.length
theorem Df125.on {α : Type} {vc : α → List Value} {p : α → Bool} {L S : List α} {base g cap i j : Nat} {w W W' : World} (h : Df125 vc p L base g cap w i j S W) (hb : Below W.heap.size W W') : Df125 vc p L base g cap w i j S W' :=
 ⟨h.len, h.tk, h.dr, own_on h.own hb, h.kp.trans (Kept.of_below (F := fun _ => False) hb) (fun _ e => e.elim), h.ij, h.jl⟩
theorem Df125.skip {α : Type} {vc : α → List Value} {p : α → Bool} {L S : List α} {base g cap i j : Nat} {w W : World} {d : α} (h : Df125 vc p L base g cap w i j S W) (hj : j < L.length) (hp : p (L.getD j d) = true) : Df125 vc p L base g cap w i (j + 1) S W :=
 ⟨h.len, by rw [take_filter_succ (d := d) _ hj, hp, h.tk]; simp, by rw [← List.drop_drop, ← List.drop_drop, h.dr], h.own, h.kp, by have := h.ij; omega, hj⟩
theorem Df125.put {α : Type} {vc : α → List Value} (hsz : ∀ a, (vc a).length = 3) {p : α → Bool} {L S : List α} {base g cap i j : Nat} {w W : World} {d : α} (h : Df125 vc p L base g cap w i j S W) (hj : j < L.length) (hp : p (L.getD j d) = false) : Df125 vc p L base g cap w (i + 1) (j + 1) (S.set i (L.getD j d)) (W.setCells g (i * 3) (vc (L.getD j d))) := by
 have h1 := h.ij
 have h2 := h.len
 refine ⟨by rw [List.length_set]; exact h.len, ?_, ?_, own_put hsz h.own (by omega) _, h.kp.trans (setCells_kept g _ _ W) (fun _ e => .inl e), by omega, hj⟩
 ·rw [take_filter_succ (d := d) _ hj, hp, ← h.tk]
  have hi : i < S.length := by omega
  rw [List.take_add_one, List.take_set, List.set_eq_of_length_le (by simp; omega)]
  simp [List.getElem?_set, hi]
 ·have hd : ∀ a, (S.set i a).drop (j + 1) = S.drop (j + 1) := fun a => by rw [List.drop_set, if_pos (by omega)]
  rw [hd, ← List.drop_drop, ← List.drop_drop, h.dr]
theorem Df125.get {α : Type} {vc : α → List Value} {p : α → Bool} {L S : List α} {base g cap i j : Nat} {w W : World} (d : α) (h : Df125 vc p L base g cap w i j S W) (hj : j < L.length) : S.getD j d = L.getD j d := by
 have := congrArg (fun l => l[0]?) h.dr
 simp only [List.getElem?_drop, Nat.add_zero] at this
 simp only [List.getD, this]
theorem Df125.first {α : Type} {vc : α → List Value} {p : α → Bool} {L : List α} {base g cap m : Nat} {w W : World} {d : α} (h : W.ownsRow base 70 3 (.slice (some ⟨g, 0, none⟩) L.length cap) L.length (rowC vc L)) (hk : Kept (fun k => k = g) w W) (hm : m + 1 ≤ L.length) (hp : p (L.getD m d) = true) (ha : ∀ j, j < m → p (L.getD j d) = false) : Df125 vc p L base g cap w m (m + 1) L W := by
 refine ⟨rfl, ?_, rfl, h, hk, by omega, hm⟩
 rw [take_filter_succ (d := d) _ hm, hp]
 simp only [Bool.not_true, Bool.false_eq_true, if_false, List.append_nil]
 refine (List.filter_eq_self.2 ?_).symm
 intro x hx
 obtain ⟨j, hj, rfl⟩ := List.mem_iff_getElem.1 hx
 rw [List.length_take] at hj
 have := ha j (by omega)
 rw [List.getElem_take]
 simpa [List.getD, show j < L.length by omega] using this
theorem zv70w : ∀ w, (zeroValue 70).run Tryz.prog w = .ok (((Tryz.prog.info? 70).bind TypeInfo.zero).getD undef) w := fun w => rfl
theorem delf125 {α : Type} (vc : α → List Value) (hsz : ∀ a, (vc a).length = 3) (h1c : ∀ a, ∀ u ∈ vc a, u.oneCell' = true) (d : α) (f : Nat) (cf : Array Value) (p : α → Bool) (base : Nat) (L : List α) (v : Value) (w : World) (hL : w.ownsRow base 70 3 v L.length (rowC vc L)) (ef : ∀ args w, (callFunc f args).run Tryz.prog w = .ok (.enter f args) w)
  (HF : Hid (∀ (x : α) W, Kept (fun k => v.ownBlock = some k) w W → Calls Tryz.prog f (#[.agg (vc x).toArray] ++ cf) W fun e w' => e = .returned (.bool (p x)) ∧ Below W.heap.size W w')) :
  Calls Tryz.prog 125 #[v, .func (.func f) #[] cf] w fun e w' => ∃ v', e = .returned v' ∧ w'.ownsRow base 70 3 v' (L.filter fun x => !p x).length (rowC vc (L.filter fun x => !p x)) ∧ v'.ownBlock = v.ownBlock ∧ Kept (fun k => v.ownBlock = some k) w w' := by
 have C : Hid (1 = 1 → Calls Tryz.prog 152 #[v, .func (.func f) #[] cf] w fun e w' => ∃ i : Int, e = .returned (iw i) ∧ IdxOf p L d i ∧ Below w.heap.size w w') := fun _ => idx152 vc hsz d f cf p L v w (rw_own hL) ef (fun x W hb => HF.out x W (Kept.of_below hb))
 have HL : Hid (w.ownsRow base 70 3 v L.length (rowC vc L)) := hL
 obtain ⟨ao, cap, rfl, -, hlc, hcm, -⟩ := rw_own hL
 clear hL
 go_enter Tryz.func125, Tryz.ntmps125
 go_wp2_with fail
 refine (C.out (by trivial)).mono ?_
 rintro e w1 ⟨i, rfl, hi, hb1⟩
 have HL1 : Hid (w1.ownsRow base 70 3 (.slice ao L.length cap) L.length (rowC vc L)) := own_on HL.out hb1
 have HB1 : Hid (Below w.heap.size w w1) := hb1
 clear C HL hb1
 rcases hi with ⟨rfl, hall⟩ | ⟨m, rfl, hm, hp, ha⟩
 ·have HE : Hid ((L.filter fun x => !p x) = L) := filter_all hall
  clear hall HF
  go_wp2_with fail
  go_ret
  rw [HE.out]
  exact ⟨_, rfl, HL1.out, rfl, Kept.of_below HB1.out⟩
 ·obtain ⟨g, rfl⟩ : ∃ g, ao = some ⟨g, 0, none⟩ := by
   rcases HL1.out.2 with ⟨e, h0⟩ | ⟨g, cap', cur, e, -⟩
   ·omega
   ·injection e with e
    exact ⟨g, e⟩
  have HD : Hid (Df125 vc p L base g cap w m (m + 1) L w1) := Df125.first HL1.out (Kept.of_below HB1.out) hm hp ha
  have HF2 : Hid (∀ (x : α) W, Kept (fun k => k = g) w W → Calls Tryz.prog f (#[.agg (vc x).toArray] ++ cf) W fun e w' => e = .returned (.bool (p x)) ∧ Below W.heap.size W w') := fun x W hk => HF.out x W (hk.mono (fun k e => by rw [e]; rfl))
  have hm1 : ¬ ((m : Int) == -1) = true := by simp
  have hm2 : ((m : Int) == -1) = false := by simp
  clear HF HL1 HB1 hp ha hm1
  go_wp2_with fail
  have hcap : L.length < 9223372036854775808 := by omega
  have hi : Hid (∀ x, (Tryz.prog.info? 70).map (·.size) = some (vc x).length) := fun x => by rw [hsz]; kernel_rfl
  have hi2 : Hid (∀ x, (Tryz.prog.info? 70).map (·.size) = some (vc x).toArray.size) := fun x => by rw [List.size_toArray, hsz]; kernel_rfl
  have hal : Hid (∀ x, (vc x).toArray.all (·.oneCell') = true) := fun x => by
   rw [Array.all_eq_true']
   intro u hu
   exact h1c x u (by simpa using hu)
  have hs2 : Hid (∀ x, (vc x).toArray.size = 3) := fun x => by rw [List.size_toArray, hsz]
  go_loopw [6, 5] (fun jv iv wr => ∃ (j i : Nat) (S : List α), jv = iw j ∧ iv = iw i ∧ j ≤ L.length ∧ Hid (Df125 vc p L base g cap w i j S wr)) (fun jv _ _ => L.length - (intOf jv).toNat)
  case atStart => exact ⟨m + 1, m, L, by go_num, rfl, hm, HD.out⟩
  case round =>
   obtain ⟨j, i, S, rfl, rfl, hj, HE⟩ := hrel
   clear HD hm2 hm
   have hij : i < j := HE.out.ij
   by_cases hjl : j < L.length
   ·have hjl1 : (j : Int) < L.length := by omega
    have HQ : Hid (j + 1 ≤ L.length) := hjl
    obtain ⟨x, hx⟩ := xj (L.getD j d)
    have ER : Hid (wr.rangeAt g (j * 3) (vc x)) := by
     have e := own_range hsz d HE.out.own (i := j) (by rw [HE.out.len]; exact hjl)
     rw [HE.out.get d hjl, hx] at e
     exact e
    obtain ⟨W2, hW2⟩ := xj (wr.alloc (.cells (vc x).toArray 70))
    have H2 : Hid (Df125 vc p L base g cap w i j S W2) := by rw [← hW2]; exact HE.out.on (al _)
    have X2 : Hid (W2.heap[wr.heap.size]? = some (.cells (vc x).toArray 70 (0, 0))) := by rw [← hW2]; exact heap_alloc_new wr _
    have CF : Hid (1 = 1 → _) := fun _ => HF2.out x W2 H2.out.kp
    obtain ⟨z, hz⟩ := xj (p x)
    rw [hz] at CF
    have HX : Hid (L.getD j d = x ∧ p x = z) := ⟨hx, hz⟩
    clear hz hx HE
    have hi0 : ¬ (j : Int) < 0 := by omega
    have hi1 : ¬ (i : Int) < 0 := by omega
    have hil1 : (i : Int) < L.length := by omega
    cases z
    ·have HS : Hid _ := fun W3 (h3 : Df125 vc p L base g cap w i j S W3) => h3.put hsz (d := d) HQ.out (by rw [HX.out.1]; exact HX.out.2)
     rw [HX.out.1] at HS
     go_wp2_with (first
     | (refine wpList_load_mid rfl 70 _ rfl g (j * 3) rfl (vc x) _ ER.out Tryz.underlying70 rfl (hi.out x) ?_)
     | (refine wpList_store_row rfl 70 _ _ rfl wr.heap.size (vc x).toArray rfl rfl 70 _ (heap_alloc_new wr _) (hi2.out x) (hs2.out x).symm (hal.out x) ?_; rewrite [World.setRow_alloc_new, hW2])
     | (refine wpList_load_row rfl 70 _ rfl wr.heap.size rfl 70 _ (0, 0) _ X2.out Tryz.underlying70 rfl (hi2.out x) ?_))
     refine (CF.out (by trivial)).mono ?_
     rintro e w3 ⟨rfl, hb3⟩
     have H3 : Hid (Df125 vc p L base g cap w i j S w3) := H2.out.on hb3
     have X3 : Hid (w3.heap[wr.heap.size]? = some (.cells (vc x).toArray 70 (0, 0))) := by show _ = _; rw [hb3.block _ (lt_blk X2.out)]; exact X2.out
     have T3 : Hid (w3.there g (i * 3) (vc x).toArray.size) := by
      obtain ⟨cur, e1, e2, e3, -⟩ := own_there H3.out.own
      refine there_box e1 ?_
      rw [hs2.out, e2]
      have e4 := H3.out.len
      have : (i + 1) * 3 ≤ cap * 3 := Nat.mul_le_mul_right _ (by omega)
      rw [Nat.succ_mul] at this
      exact this
     have H4 : Hid _ := HS.out _ H3.out
     obtain ⟨W4, hW4⟩ := xj (w3.setCells g (i * 3) (vc x))
     rw [hW4] at H4
     clear hb3 H2 X2 CF ER HS H3 hW2
     go_wp2_with (first
      | (refine wpList_load_row rfl 70 _ rfl wr.heap.size rfl 70 _ (0, 0) _ X3.out Tryz.underlying70 rfl (hi2.out x) ?_)
      | (refine wpList_store_mid rfl 70 _ _ rfl g (i * 3) (vc x).toArray rfl rfl T3.out (hi2.out x) (hal.out x) ?_; rewrite [List.toList_toArray, hW4]))
     go_roundw
     case rel => exact ⟨j + 1, i + 1, _, by go_num, by go_num, HQ.out, H4.out⟩
     case measure => simp [intOf]; omega
    ·have HS : Hid _ := H2.out.skip (d := d) HQ.out (by rw [HX.out.1]; exact HX.out.2)
     go_wp2_with (first
     | (refine wpList_load_mid rfl 70 _ rfl g (j * 3) rfl (vc x) _ ER.out Tryz.underlying70 rfl (hi.out x) ?_)
     | (refine wpList_store_row rfl 70 _ _ rfl wr.heap.size (vc x).toArray rfl rfl 70 _ (heap_alloc_new wr _) (hi2.out x) (hs2.out x).symm (hal.out x) ?_; rewrite [World.setRow_alloc_new, hW2])
     | (refine wpList_load_row rfl 70 _ rfl wr.heap.size rfl 70 _ (0, 0) _ X2.out Tryz.underlying70 rfl (hi2.out x) ?_))
     refine (CF.out (by trivial)).mono ?_
     rintro e w3 ⟨rfl, hb3⟩
     have H3 : Hid (Df125 vc p L base g cap w i (j + 1) S w3) := HS.out.on hb3
     clear hb3 H2 X2 CF ER HS hW2
     go_wp2_with fail
     go_roundw
     case rel => exact ⟨j + 1, i, S, by go_num, rfl, HQ.out, H3.out⟩
     case measure => simp [intOf]; omega
   ·have hjl1 : ¬ (j : Int) < L.length := by omega
    have hje : j = L.length := by omega
    have hi1 : ¬ (i : Int) < 0 := by omega
    have hil : (i : Int) ≤ L.length := by omega
    have hicap : ¬ cap = i := by omega
    have hic2 : (i : Int) ≤ cap := by omega
    have T3 : Hid (wr.there g (i * 3) ((L.length - i) * 3)) := by
     obtain ⟨cur, e1, e2, e3, -⟩ := own_there HE.out.own
     refine there_box e1 ?_
     rw [e2, ← Nat.add_mul]
     exact Nat.mul_le_mul_right _ (by omega)
    have HK : Hid (∀ zs : List Value, zs.length = (L.length - i) * 3 → (wr.setCells g (i * 3) zs).ownsRow base 70 3 (.slice (some ⟨g, 0, none⟩) i cap) i (rowC vc (L.filter fun x => !p x)) ∧ (L.filter fun x => !p x).length = i ∧ Kept (fun k => k = g) w (wr.setCells g (i * 3) zs)) := fun zs hz => by
     have e0 := HE.out.tk
     rw [hje, List.take_of_length_le (Nat.le_refl _)] at e0
     have e1 := HE.out.len
     have e2 : (L.filter fun x => !p x).length = i := by rw [← e0, List.length_take]; omega
     have e3 := own_cut hsz HE.out.own (k := i) (by omega)
     rw [e0] at e3
     refine ⟨own_wipe e3 ?_, e2, HE.out.kp.trans (setCells_kept g zs _ wr) (fun _ e => .inl e)⟩
     rw [hz, ← Nat.add_mul]
     exact Nat.mul_le_mul_right _ (by omega)
    clear HE HF2 hi hi2 hal hs2
    have z1 : Hid (∀ u ∈ (((Tryz.prog.info? 70).bind TypeInfo.zero).getD undef).cells, u.oneCell' = true) := by
     show ∀ u ∈ _, _
     intro u hu
     have hz : (((Tryz.prog.info? 70).bind TypeInfo.zero).getD undef).cells.all (·.oneCell') = true := by kernel_rfl
     exact (Array.all_eq_true'.1 hz) u hu
    have z2 : Hid ((((Tryz.prog.info? 70).bind TypeInfo.zero).getD undef).cells.size = 3) := by show _ = _; kernel_rfl
    go_wp2_with (refine wpList_clear_rows Tryz.underlying50 zv70w z1.out z2.out (.tmp 38) rfl rfl rfl T3.out ?_; intro zs hzs; have HZ : Hid _ := HK.out zs hzs; clear hzs HK)
    go_ret
    exact ⟨_, rfl, by rw [HZ.out.2.1]; exact HZ.out.1, rfl, HZ.out.2.2.mono (fun k e => by rw [e]; rfl)⟩
variable {base g cap n : Nat} {w W W' : World} {S : List Wr}
theorem eq124 (x y : Wr) (W : World) : Calls Tryz.prog 124 #[.agg (wrc x).toArray, .agg (wrc y).toArray] W fun e w' => e = .returned (.bool (decide (x.key = y.key))) ∧ Below W.heap.size W w' := by
 show Calls Tryz.prog 124 #[.agg #[sd x.key, sd x.val, .bool x.dead], .agg #[sd y.key, sd y.val, .bool y.dead]] W _
 have HE : ((bs x.key).toList == (bs y.key).toList) = decide (x.key = y.key) := by rw [bs_toList, bs_toList, Bool.eq_iff_iff]; simp
 go_enter Tryz.func124, Tryz.ntmps124
 go_wp2_with fail
 go_ret
 exact ⟨by first | rfl | (rw [← HE]; rfl) | simp [← HE], (al _).trans ((al _).mono (al _).size)⟩
theorem dead126 (x : Wr) (W : World) : Calls Tryz.prog 126 #[.agg (wrc x).toArray] W fun e w' => e = .returned (.bool x.dead) ∧ Below W.heap.size W w' := by
 show Calls Tryz.prog 126 #[.agg #[sd x.key, sd x.val, .bool x.dead]] W _
 go_enter Tryz.func126, Tryz.ntmps126
 go_wp2_with fail
 go_ret
 exact ⟨rfl, al _⟩
open Go.RowKit Go.Sort Go.Shelf
def cptG : Wr → List Wr → List Wr
 | _, [] => []
 | p, x :: l => if x.key = p.key then cptG x l else x :: cptG x l
def cpt : List Wr → List Wr
 | [] => []
 | x :: l => x :: cptG x l
theorem set_mid (D G R : List Wr) (h u : Wr) : (D ++ (h :: G ++ R)).set D.length u = D ++ (u :: G ++ R) := by
 rw [List.set_append_right _ _ (Nat.le_refl _), Nat.sub_self]
 rfl
theorem cpt123 (hn : n ≤ 1000000) (h : Sz base g cap n w S W) :
  Calls Tryz.prog 123 #[.slice (some ⟨g, 0, none⟩) n cap, .func (.func 124) #[] #[]] W fun e w' => e = .returned (.slice (some ⟨g, 0, none⟩) (cpt S).length cap) ∧ w'.ownsRow base 70 3 (.slice (some ⟨g, 0, none⟩) (cpt S).length cap) (cpt S).length (rowC wrc (cpt S)) ∧ Kept (fun k => k = g) w w' := by
 have hl := h.len
 obtain ⟨cur, hc1, hc2, hc3, hc4, hc5, hc6⟩ := own_there h.own
 have hcap : n ≤ cap ∧ cap ≤ 9223372036854775807 := by unfold maxLen at hc4; omega
 clear hc1 hc2 hc3 hc4 hc5 hc6
 have H : Hid (Sz base g cap n w S W) := h
 have KEEP : Hid (cpt S = S → ∀ W, Sz base g cap n w S W → W.ownsRow base 70 3 (.slice (some ⟨g, 0, none⟩) (cpt S).length cap) (cpt S).length (rowC wrc (cpt S)) ∧ Kept (fun k => k = g) w W) := fun e W k => by rw [e]; exact ⟨k.own, k.kp⟩
 by_cases hn2 : n < 2
 ·have hz : (n : Int) < 2 := by omega
  have he : cpt S = S := by
   rcases S with _ | ⟨x, _ | ⟨y, l⟩⟩
   ·rfl
   ·rfl
   ·simp at hl
    omega
  have HE : Hid (cpt S = S ∧ S.length = n) := ⟨he, hl⟩
  clear h he hl
  go_enter Tryz.func123, Tryz.ntmps123
  go_wp2_with fail
  go_ret
  exact ⟨by rw [show (cpt S).length = n by rw [HE.out.1]; exact HE.out.2]; rfl, KEEP.out HE.out.1 _ H.out⟩
 ·have hz : ¬ (n : Int) < 2 := by omega
  obtain ⟨x0, l0, hS⟩ : ∃ x0 l0, S = x0 :: l0 := by
   cases S with
   | nil => simp at hl; omega
   | cons x l => exact ⟨x, l, rfl⟩
  have hl0 : 1 + l0.length = n := by rw [← hl, hS, List.length_cons]; omega
  have HL0 : Hid (S = [] ++ x0 :: l0 ∧ cpt S = [] ++ x0 :: cptG x0 l0) := by rw [hS]; exact ⟨rfl, rfl⟩
  clear h hS
  go_enter Tryz.func123, Tryz.ntmps123
  go_wp2_with fail
  go_loopw [5] (fun s wr => ∃ (F R : List Wr) (y : Wr) (k : Nat), s = iw (k : Int) ∧ F.length + 1 = k ∧ k + R.length = n ∧ Hid (S = F ++ y :: R ∧ cpt S = F ++ y :: cptG y R) ∧ Hid (Sz base g cap n w S wr)) (fun s _ => n - (intOf s).toNat)
  case atStart => exact ⟨[], l0, x0, 1, rfl, rfl, hl0, HL0.out, H.out⟩
  case round =>
   obtain ⟨F, R, y, k, rfl, hF, hR, HQ, HS⟩ := hrel
   clear H HL0
   cases R with
   | nil =>
    have hlt : ¬ (k : Int) < (n : Int) := by simp at hR; omega
    have HE : Hid (cpt S = S ∧ S.length = n) := ⟨by rw [HQ.out.2, HQ.out.1]; rfl, hl⟩
    go_wp2_with fail
    go_ret
    exact ⟨by rw [show (cpt S).length = n by rw [HE.out.1]; exact HE.out.2]; rfl, KEEP.out HE.out.1 _ HS.out⟩
   | cons z R =>
    rw [List.length_cons] at hR
    have hlt : (k : Int) < (n : Int) := by omega
    obtain ⟨p, hp⟩ := xj F.length
    have c1 : IntKind.i64.wrap ((k : Int) - 1) = (p : Int) := by rw [IntKind.wrap_i64]; omega
    have hkn : k < n := by omega
    have hpn : p < n := by omega
    obtain ⟨gz, gy⟩ := get_adj F R z y
    rw [hp, show p + 1 = k by omega, ← HQ.out.1] at gz
    rw [hp, ← HQ.out.1] at gy
    have SN : Hid (∀ W, Sz base g cap n w S W → W.rangeAt g (k * 3) (wrc z) ∧ W.rangeAt g (p * 3) (wrc y)) := fun W s => ⟨by rw [← gz]; exact s.rng hkn, by rw [← gy]; exact s.rng hpn⟩
    have C124 : Hid (∀ W, Sz base g cap n w (S) W → Calls Tryz.prog 124 #[.agg (wrc z).toArray, .agg (wrc y).toArray] W fun e w' => e = .returned (.bool (decide (z.key = y.key))) ∧ Sz base g cap n w (S) w') := fun W s => (eq124 z y W).mono fun e w' q => ⟨q.1, s.on q.2⟩
    have HD : Hid (Sz base g cap n w S wr.drew) := HS.out.drew
    have hk9 : k < 1000000 := by omega
    clear gz gy HS
    by_cases heq : z.key = y.key
    ·rw [decide_eq_true heq] at C124
     have HQ2 : Hid (cpt S = (F ++ [y]) ++ cptG z R ∧ S = (F ++ [y]) ++ ([] ++ z :: R)) := ⟨by rw [HQ.out.2, cptG, if_pos heq]; simp, by rw [HQ.out.1]; simp⟩
     have hkc : k ≤ cap := by omega
     clear heq
     go_wp2_with fail
     refine wp_region_held_drew (S := (fun W => W.rangeAt g (k * 3) (wrc z) ∧ W.rangeAt g (p * 3) (wrc y))) (by kernel_rfl) (SN.out _ HD.out) (fun hHeld => ?_)
     refine tq 0 ?_
     refine tq 1 ?_
     refine tq 2 ?_
     refine tq 3 ?_
     refine tl 4 70 g (k * 3) (wrc z) (fun W hW => hW.1) Tryz.underlying70 ?_
     refine tq 5 ?_
     refine tq 6 ?_
     refine tq 7 ?_
     refine tq 8 ?_
     refine tl 9 70 g (p * 3) (wrc y) (fun W hW => hW.2) Tryz.underlying70 ?_
     refine rd 10 (fun K hK => ?_)
     go_simp
     refine (C124.out _ HD.out).mono ?_
     rintro e w3 ⟨rfl, h3⟩
     have X3 : Hid _ := h3
     clear h3
     go_wp2_with fail
     refine kj hK (SN.out _ X3.out) (fun hHeld => ?_)
     clear hK K
     refine wpAnyH_done (by kernel_rfl) ?_ _
     clear hHeld SN C124 HD
     have hkc2 : ¬ (cap = k) := by omega
     have hw2 : (0 : Int) ≤ (k : Int) := by omega
     have hkl : (k : Int) ≤ (n : Int) := by omega
     have htk : ((k : Int)).toNat = k := by omega
     obtain ⟨nk, hnk⟩ := xj (n - k)
     have HP : Hid ((F ++ [y]).length = k ∧ k + (R.length + 1) = n) := ⟨by rw [List.length_append]; simp; omega, by omega⟩
     clear HQ
     go_wp2_with fail
     go_loopw [5, 7] (fun s t wr => ∃ (D G R2 : List Wr) (pv : Wr) (k1 k2 : Nat), s = iw (k1 : Int) ∧ t = iw (k2 : Int) ∧ D.length = k1 ∧ k1 + G.length + 1 = k + k2 ∧ k + k2 + R2.length = n ∧ 1 ≤ k2 ∧ k ≤ k1 ∧ Hid (cpt S = D ++ cptG pv R2) ∧ Hid (Sz base g cap n w (D ++ (G ++ pv :: R2)) wr)) (fun s t _ => n - (intOf t).toNat)
     case atStart => exact ⟨F ++ [y], [], R, z, k, 1, rfl, rfl, HP.out.1, by simp, by have := HP.out.2; omega, Nat.le_refl _, Nat.le_refl _, HQ2.out.1, by have q := X3.out; rw [HQ2.out.2] at q; exact q⟩
     case round =>
      obtain ⟨D, G, R2, pv, k1, k2, rfl, rfl, hD, hG, hR2, hk2, hkk, HQ, HS⟩ := hrel
      clear X3 HQ2
      cases R2 with
      | nil =>
       have hlt2 : ¬ (k2 : Int) < (nk : Int) := by simp at hR2; omega
       have hlt4 : ¬ k2 < nk := by simp at hR2; omega
       have hlt3 : ¬ k2 < n - k := by simp at hR2; omega
       have hDE : Hid (cpt S = D) := by show _ = _; rw [HQ.out]; simp [cptG]
       have hk1n : k1 < n := by simp at hR2; omega
       have hk1c : ¬ (cap = k1) := by omega
       have hk1l : (k1 : Int) ≤ (n : Int) := by omega
       have hk1d : (k1 : Int) ≤ (cap : Int) := by omega
       have T3 : Hid (wr.there g (k1 * 3) ((n - k1) * 3)) := by
        obtain ⟨cur, q1, q2, q3, q4, q5, q6⟩ := own_there HS.out.own
        exact there_box q1 (by rw [q2]; have := HS.out.len; omega)
       have HK : Hid (∀ zs : List Value, zs.length = (n - k1) * 3 → (wr.setCells g (k1 * 3) zs).ownsRow base 70 3 (.slice (some ⟨g, 0, none⟩) k1 cap) k1 (rowC wrc D) ∧ Kept (fun k => k = g) w (wr.setCells g (k1 * 3) zs)) := fun zs hz => by
        have e3 := own_cut wrc_len HS.out.own (k := k1) (by have := HS.out.len; omega)
        rw [← hD, List.take_left, hD] at e3
        refine ⟨own_wipe e3 ?_, HS.out.kp.trans (setCells_kept g zs _ wr) (fun _ e => .inl e)⟩
        rw [hz, ← Nat.add_mul]
        exact Nat.mul_le_mul_right _ (by omega)
       have z1 : Hid (∀ u ∈ (((Tryz.prog.info? 70).bind TypeInfo.zero).getD undef).cells, u.oneCell' = true) := by
        show ∀ u ∈ _, _
        intro u hu
        have hz : (((Tryz.prog.info? 70).bind TypeInfo.zero).getD undef).cells.all (·.oneCell') = true := by kernel_rfl
        exact (Array.all_eq_true'.1 hz) u hu
       have z2 : Hid ((((Tryz.prog.info? 70).bind TypeInfo.zero).getD undef).cells.size = 3) := by show _ = _; kernel_rfl
       clear HS HQ
       go_wp2_with (refine wpList_clear_rows Tryz.underlying50 zv70w z1.out z2.out (.tmp 61) rfl rfl rfl T3.out ?_; intro zs hzs; have HZ : Hid _ := HK.out zs hzs; clear hzs HK)
       go_ret
       exact ⟨by rw [hDE.out, hD]; rfl, by rw [hDE.out, hD]; exact HZ.out.1, HZ.out.2⟩
      | cons u R3 =>
       rw [List.length_cons] at hR2
       have hlt2 : (k2 : Int) < (nk : Int) := by omega
       have hlt4 : k2 < nk := by omega
       have hlt3 : k2 < n - k := by omega
       obtain ⟨q, hq⟩ := xj (k2 - 1)
       have c2 : IntKind.i64.wrap ((k2 : Int) - 1) = (q : Int) := by rw [IntKind.wrap_i64]; omega
       have hqn : q < nk := by omega
       obtain ⟨gu, gv⟩ := get_adj (D ++ G) R3 u pv
       have hDG : (D ++ G).length = k + q := by rw [List.length_append]; omega
       rw [hDG, show k + q + 1 = k + k2 by omega, List.append_assoc] at gu
       rw [hDG, List.append_assoc] at gv
       obtain ⟨S1, hS1⟩ := xj (D ++ (G ++ pv :: u :: R3))
       rw [hS1] at gu gv HS
       have SN : Hid (∀ W, Sz base g cap n w S1 W → W.rangeAt g (k * 3 + k2 * 3) (wrc u) ∧ W.rangeAt g (k * 3 + q * 3) (wrc pv)) := fun W s => ⟨by rw [← gu, ← Nat.add_mul]; exact s.rng (by omega), by rw [← gv, ← Nat.add_mul]; exact s.rng (by omega)⟩
       have C124 : Hid (∀ W, Sz base g cap n w (S1) W → Calls Tryz.prog 124 #[.agg (wrc u).toArray, .agg (wrc pv).toArray] W fun e w' => e = .returned (.bool (decide (u.key = pv.key))) ∧ Sz base g cap n w (S1) w') := fun W s => (eq124 u pv W).mono fun e w' q => ⟨q.1, s.on q.2⟩
       have HD : Hid (Sz base g cap n w S1 wr.drew) := HS.out.drew
       have hk29 : k2 < 1000000 := by omega
       have HS1 : Hid (D ++ (G ++ pv :: u :: R3) = S1) := hS1
       have SN2 := SN
       clear gu gv HS hS1
       by_cases heq : u.key = pv.key
       ·rw [decide_eq_true heq] at C124
        have HQ2 : Hid (cpt S = D ++ cptG u R3) := by show _ = _; rw [HQ.out, cptG, if_pos heq]
        clear HQ heq SN2
        go_wp2_with fail
        refine wp_region_held_drew (S := (fun W => W.rangeAt g (k * 3 + k2 * 3) (wrc u) ∧ W.rangeAt g (k * 3 + q * 3) (wrc pv))) (by kernel_rfl) (SN.out _ HD.out) (fun hHeld => ?_)
        refine tq 0 ?_
        refine tq 1 ?_
        refine tq 2 ?_
        refine tq 3 ?_
        refine tl 4 70 g (k * 3 + k2 * 3) (wrc u) (fun W hW => hW.1) Tryz.underlying70 ?_
        refine tq 5 ?_
        refine tq 6 ?_
        refine tq 7 ?_
        refine tq 8 ?_
        refine tl 9 70 g (k * 3 + q * 3) (wrc pv) (fun W hW => hW.2) Tryz.underlying70 ?_
        refine rd 10 (fun K hK => ?_)
        go_simp
        refine (C124.out _ HD.out).mono ?_
        rintro e w3 ⟨rfl, h3⟩
        have X3 : Hid _ := h3
        clear h3
        go_wp2_with fail
        refine kj hK (SN.out _ X3.out) (fun hHeld => ?_)
        clear hK K
        refine tq 11 ?_
        refine wpAnyH_done (by kernel_rfl) ?_ _
        clear hHeld SN C124 HD
        go_wp2_with fail
        go_roundw
        case rel => exact ⟨D, G ++ [pv], R3, u, k1, k2 + 1, rfl, by go_num, hD, by rw [List.length_append]; simp; omega, by omega, by omega, hkk, HQ2.out, by have r := X3.out; rw [← HS1.out] at r; rw [show D ++ (G ++ [pv] ++ u :: R3) = D ++ (G ++ pv :: u :: R3) by simp]; exact r⟩
        case measure => simp [intOf]; omega
       ·rw [decide_eq_false heq] at C124
        have HQ2 : Hid (cpt S = (D ++ [u]) ++ cptG u R3) := by show _ = _; rw [HQ.out, cptG, if_neg heq]; simp
        have hk1n : k1 < n := by omega
        have PUT : Hid (∀ W, Sz base g cap n w S1 W → ∃ G', G'.length = G.length ∧ Sz base g cap n w ((D ++ [u]) ++ (G' ++ u :: R3)) (W.setCells g (k1 * 3) (wrc u))) := fun W s => by
         have r := s.put (i := k1) hk1n u
         rw [← HS1.out] at r
         cases G with
         | nil => exact ⟨[], rfl, by
           rw [← hD, show D ++ (([] : List Wr) ++ pv :: u :: R3) = D ++ (pv :: [] ++ u :: R3) by rfl, set_mid] at r
           rw [hD] at r
           simpa using r⟩
         | cons h0 G0 => exact ⟨G0 ++ [pv], by simp, by
           rw [← hD, show D ++ (h0 :: G0 ++ pv :: u :: R3) = D ++ (h0 :: (G0 ++ [pv]) ++ u :: R3) by simp, set_mid] at r
           rw [hD] at r
           simpa using r⟩
        have THR : Hid (∀ W, Sz base g cap n w S1 W → W.there g (k1 * 3) 3) := fun W s => s.there hk1n
        clear HQ heq
        go_wp2_with fail
        refine wp_region_held_drew (S := (fun W => W.rangeAt g (k * 3 + k2 * 3) (wrc u) ∧ W.rangeAt g (k * 3 + q * 3) (wrc pv))) (by kernel_rfl) (SN.out _ HD.out) (fun hHeld => ?_)
        refine tq 0 ?_
        refine tq 1 ?_
        refine tq 2 ?_
        refine tq 3 ?_
        refine tl 4 70 g (k * 3 + k2 * 3) (wrc u) (fun W hW => hW.1) Tryz.underlying70 ?_
        refine tq 5 ?_
        refine tq 6 ?_
        refine tq 7 ?_
        refine tq 8 ?_
        refine tl 9 70 g (k * 3 + q * 3) (wrc pv) (fun W hW => hW.2) Tryz.underlying70 ?_
        refine rd 10 (fun K hK => ?_)
        go_simp
        refine (C124.out _ HD.out).mono ?_
        rintro e w3 ⟨rfl, h3⟩
        have X3 : Hid _ := h3
        clear h3
        go_wp2_with fail
        refine kj hK (SN.out _ X3.out) (fun hHeld => ?_)
        clear hK K
        refine tq 11 ?_
        refine wpAnyH_done (by kernel_rfl) ?_ _
        clear hHeld SN C124 HD
        have LD : Hid (w3.rangeAt g (k * 3 + k2 * 3) (wrc u)) := (SN2.out _ X3.out).1
        have TH : Hid (w3.there g (k1 * 3) 3) := THR.out _ X3.out
        obtain ⟨G', hg', h4⟩ := PUT.out _ X3.out
        have X4 : Hid _ := h4
        clear h4 PUT THR SN2 X3
        have hk19 : k1 < 1000000 := by omega
        go_wp2_with (first | (refine wpList_load_mid rfl 70 _ rfl g (k * 3 + k2 * 3) rfl (wrc u) _ LD.out Tryz.underlying70 rfl rfl ?_) | (refine wpList_store_mid rfl 70 _ _ rfl g (k1 * 3) (wrc u).toArray rfl rfl TH.out rfl (all_oneCell_toArray (wrc_one u)) ?_))
        go_roundw
        case rel => exact ⟨D ++ [u], G', R3, u, k1 + 1, k2 + 1, by go_num, by go_num, by rw [List.length_append]; simp; omega, by omega, by omega, by omega, by omega, HQ2.out, X4.out⟩
        case measure => simp [intOf]; omega
    ·rw [decide_eq_false heq] at C124
     have HQ2 : Hid (S = (F ++ [y]) ++ z :: R ∧ cpt S = (F ++ [y]) ++ z :: cptG z R) := ⟨by rw [HQ.out.1]; simp, by rw [HQ.out.2, cptG, if_neg heq]; simp⟩
     clear heq HQ
     go_wp2_with fail
     refine wp_region_held_drew (S := (fun W => W.rangeAt g (k * 3) (wrc z) ∧ W.rangeAt g (p * 3) (wrc y))) (by kernel_rfl) (SN.out _ HD.out) (fun hHeld => ?_)
     refine tq 0 ?_
     refine tq 1 ?_
     refine tq 2 ?_
     refine tq 3 ?_
     refine tl 4 70 g (k * 3) (wrc z) (fun W hW => hW.1) Tryz.underlying70 ?_
     refine tq 5 ?_
     refine tq 6 ?_
     refine tq 7 ?_
     refine tq 8 ?_
     refine tl 9 70 g (p * 3) (wrc y) (fun W hW => hW.2) Tryz.underlying70 ?_
     refine rd 10 (fun K hK => ?_)
     go_simp
     refine (C124.out _ HD.out).mono ?_
     rintro e w3 ⟨rfl, h3⟩
     have X3 : Hid _ := h3
     clear h3
     go_wp2_with fail
     refine kj hK (SN.out _ X3.out) (fun hHeld => ?_)
     clear hK K
     refine wpAnyH_done (by kernel_rfl) ?_ _
     clear hHeld SN C124 HD
     go_wp2_with fail
     go_roundw
     case rel => exact ⟨F ++ [y], R, z, k + 1, by go_num, by rw [List.length_append]; simp; omega, by omega, HQ2.out, X3.out⟩
     case measure => simp [intOf]; omega
def Sst (L : List Wr) : Prop := L.Pairwise fun x y => x.key < y.key
abbrev fk (k : List UInt8) (L : List Wr) : List Wr := L.filter fun x => decide (x.key = k)
theorem ne_of_klt {a b : List UInt8} (h : a < b) : a ≠ b := fun e => by subst e; exact List.lt_irrefl _ h
theorem klt_of {a b : List UInt8} (h : ¬ a < b) (h' : a ≠ b) : b < a := by
 by_cases c : b < a
 ·exact c
 ·exact absurd (List.le_antisymm (show a ≤ b from c) (show b ≤ a from h)) h'
theorem fk_cons (k : List UInt8) (x : Wr) (L : List Wr) : fk k (x :: L) = if x.key = k then x :: fk k L else fk k L := by
 simp only [fk, List.filter_cons, decide_eq_true_eq]
theorem fk_none {k : List UInt8} {L : List Wr} (h : ∀ x ∈ L, x.key ≠ k) : fk k L = [] := by
 rw [List.filter_eq_nil_iff]
 intro x hx e
 exact h x hx (of_decide_eq_true e)
theorem Sst.eq {A B : List Wr} (ha : Sst A) (hb : Sst B) (h : Eqk A B) : A = B := by
 induction A generalizing B with
 | nil =>
  cases B with
  | nil => rfl
  | cons y B => exact absurd (h.mem.1 mc) (List.not_mem_nil)
 | cons x A ih =>
  cases B with
  | nil => exact absurd (h.mem.2 mc) (List.not_mem_nil)
  | cons y B =>
   obtain ⟨a1, a2⟩ := List.pairwise_cons.1 ha
   obtain ⟨b1, b2⟩ := List.pairwise_cons.1 hb
   have hxy : x = y := by
    rcases List.mem_cons.1 (h.mem.2 (List.mem_cons_self .. : x ∈ x :: A)) with e | e
    ·exact e
    ·rcases List.mem_cons.1 (h.mem.1 (List.mem_cons_self .. : y ∈ y :: B)) with e' | e'
     ·exact e'.symm
     ·exact absurd (List.lt_trans (b1 x e) (a1 y e')) (List.lt_irrefl _)
   subst hxy
   congr 1
   refine ih a2 b2 (fun k => ?_)
   have hk := h k
   have e1 := fk_cons k x A
   have e2 := fk_cons k x B
   unfold fk at e1 e2
   rw [e1, e2] at hk
   split at hk
   ·exact (List.cons.inj hk).2
   ·exact hk
theorem cptG_fk (k : List UInt8) : ∀ (l : List Wr) (p : Wr), Srt (p :: l) → fk k (cptG p l) = if k = p.key then [] else (fk k l).take 1
 | [], p, _ => by simp [cptG, fk]
 | x :: l, p, h => by
  obtain ⟨h1, h2⟩ := List.pairwise_cons.1 h
  have ih := cptG_fk k l x h2
  rw [cptG]
  split
  ·rename_i e
   rw [ih, e]
   split
   ·rfl
   ·rename_i e'
    rw [fk_cons, if_neg (fun c => e' (by rw [← c, e]))]
  ·rename_i e
   have hlt : p.key < x.key := klt_of (h1 x mc) e
   rw [fk_cons, fk_cons, ih]
   by_cases c1 : x.key = k
   ·rw [if_pos c1, if_pos c1, if_pos c1.symm, if_neg (by rw [← c1]; exact e)]
    rfl
   ·rw [if_neg c1, if_neg c1, if_neg (fun c => c1 c.symm)]
    split
    ·rename_i e'
     subst e'
     rw [fk_none (L := l) (fun z hz c => ?_)]
     ·rfl
     ·have := (List.pairwise_cons.1 h2).1 z hz
      rw [c] at this
      exact this hlt
    ·rfl
theorem cptG_sst : ∀ (l : List Wr) (p : Wr), Srt (p :: l) → Sst (p :: cptG p l)
 | [], p, _ => by simp [cptG, Sst]
 | x :: l, p, h => by
  obtain ⟨h1, h2⟩ := List.pairwise_cons.1 h
  have ih := cptG_sst l x h2
  obtain ⟨i1, i2⟩ := List.pairwise_cons.1 ih
  rw [cptG]
  split
  ·rename_i e
   exact List.pairwise_cons.2 ⟨fun y hy => by rw [← e]; exact i1 y hy, i2⟩
  ·rename_i e
   have hlt : p.key < x.key := klt_of (h1 x mc) e
   refine List.pairwise_cons.2 ⟨fun y hy => ?_, ih⟩
   rcases List.mem_cons.1 hy with rfl | hy
   ·exact hlt
   ·exact List.lt_trans hlt (i1 y hy)
theorem cpt_fk {L : List Wr} (h : Srt L) (k : List UInt8) : fk k (cpt L) = (fk k L).take 1 := by
 cases L with
 | nil => rfl
 | cons x l =>
  rw [cpt, fk_cons, fk_cons, cptG_fk k l x h]
  by_cases c : x.key = k
  ·rw [if_pos c, if_pos c, if_pos c.symm]
   rfl
  ·rw [if_neg c, if_neg c, if_neg (fun e => c e.symm)]
theorem cpt_sst {L : List Wr} (h : Srt L) : Sst (cpt L) := by
 cases L with
 | nil => exact List.Pairwise.nil
 | cons x l => exact cptG_sst l x h
theorem insP_mem {k v : List UInt8} {d : Bool} {y : Wr} : ∀ {t : List Wr}, y ∈ insP k v d t → y = ⟨k, v, d⟩ ∨ y ∈ t
 | [], h => by simpa [insP] using h
 | x :: t, h => by
  rw [insP] at h
  split at h
  ·rcases List.mem_cons.1 h with rfl | h
   ·exact .inr mc
   ·rcases insP_mem h with e | e
    ·exact .inl e
    ·exact .inr (List.mem_cons_of_mem _ e)
  ·split at h
   ·exact .inr h
   ·rcases List.mem_cons.1 h with e | e
    ·exact .inl e
    ·exact .inr e
theorem insP_sst (k v : List UInt8) (d : Bool) : ∀ {t : List Wr}, Sst t → Sst (insP k v d t)
 | [], _ => by simp [insP, Sst]
 | x :: t, h => by
  obtain ⟨h1, h2⟩ := List.pairwise_cons.1 h
  rw [insP]
  split
  ·rename_i e
   refine List.pairwise_cons.2 ⟨fun y hy => ?_, insP_sst k v d h2⟩
   rcases insP_mem hy with rfl | hy
   ·exact e
   ·exact h1 y hy
  ·rename_i e
   split
   ·exact h
   ·rename_i e'
    have hlt : k < x.key := klt_of e (by simpa using e')
    refine List.pairwise_cons.2 ⟨fun y hy => ?_, h⟩
    rcases List.mem_cons.1 hy with rfl | hy
    ·exact hlt
    ·exact List.lt_trans hlt (h1 y hy)
theorem insP_fk (k v : List UInt8) (d : Bool) (q : List UInt8) : ∀ {t : List Wr}, Sst t → fk q (insP k v d t) = if k = q then (fk q t ++ [(⟨k, v, d⟩ : Wr)]).take 1 else fk q t
 | [], _ => by
  rw [insP, fk_cons]
  by_cases c : k = q
  ·rw [if_pos c, if_pos c]
   simp [fk]
  ·rw [if_neg c, if_neg c]
 | x :: t, h => by
  obtain ⟨h1, h2⟩ := List.pairwise_cons.1 h
  rw [insP]
  split
  ·rename_i e
   rw [fk_cons, fk_cons, insP_fk k v d q h2]
   by_cases c : k = q
   ·have : x.key ≠ q := by rw [← c]; exact ne_of_klt e
    rw [if_neg this, if_neg this]
   ·rw [if_neg c, if_neg c]
  ·rename_i e
   split
   ·rename_i e'
    have e2 : x.key = k := by simpa using e'
    by_cases c : k = q
    ·rw [if_pos c, fk_cons, if_pos (e2.trans c), fk_none (L := t) (fun z hz c' => ?_)]
     ·rfl
     ·have := h1 z hz
      rw [c', ← c, ← e2] at this
      exact List.lt_irrefl _ this
    ·rw [if_neg c]
   ·rename_i e'
    have hlt : k < x.key := klt_of e (by simpa using e')
    rw [fk_cons]
    by_cases c : k = q
    ·rw [if_pos c, if_pos c, fk_none (L := x :: t) (fun z hz c' => ?_)]
     ·rfl
     ·rcases List.mem_cons.1 hz with rfl | hz
      ·rw [c', ← c] at hlt
       exact List.lt_irrefl _ hlt
      ·have := List.lt_trans hlt (h1 z hz)
       rw [c', ← c] at this
       exact List.lt_irrefl _ this
    ·rw [if_neg c, if_neg c]
def layF (M : List Wr) (t : List Wr) : List Wr := M.foldl (fun t x => insP x.key x.val x.dead t) t
theorem layF_sst : ∀ (M : List Wr) {t : List Wr}, Sst t → Sst (layF M t)
 | [], _, h => h
 | x :: M, _, h => layF_sst M (insP_sst x.key x.val x.dead h)
theorem take1 {α : Type} (A B : List α) : (A.take 1 ++ B).take 1 = (A ++ B).take 1 := by cases A <;> simp
theorem layF_fk (q : List UInt8) : ∀ (M : List Wr) {t : List Wr}, Sst t → (fk q t).length ≤ 1 → fk q (layF M t) = (fk q t ++ fk q M).take 1
 | [], t, _, h1 => by
  show fk q t = _
  simp only [fk, List.filter_nil, List.append_nil]
  rw [List.take_of_length_le h1]
 | x :: M, t, h, h1 => by
  show fk q (layF M (insP x.key x.val x.dead t)) = _
  have e := insP_fk x.key x.val x.dead q h
  rw [layF_fk q M (insP_sst _ _ _ h) (by rw [e]; split; simp only [List.length_take]; omega; exact h1), e, fk_cons]
  split
  ·rw [take1, List.append_assoc]
   rfl
  ·rfl
theorem lay_sorted {M L : List Wr} (hs : Srt L) (he : Eqk M L) : cpt L = layF M [] := by
 refine Sst.eq (cpt_sst hs) (layF_sst M List.Pairwise.nil) (fun k => ?_)
 show fk k (layF M []) = fk k (cpt L)
 rw [layF_fk k M List.Pairwise.nil (by simp [fk]), cpt_fk hs]
 have := he k
 show (fk k [] ++ fk k M).take 1 = (fk k L).take 1
 rw [show fk k L = fk k M from this]
 rfl
theorem scan_plain (bt : Bt) (s : Ss) {L : List Wr} (hs : Srt L) (he : Eqk ((s.ws.filter fun x => inB s.op x.key) ++ ((s.ps.filter fun p => bt.key p.key).map fun p => ⟨p.key, p.val, false⟩)) L) :
  scanF bt s = (((cpt L).filter fun x => !x.dead).map fun x => ⟨x.key, x.val⟩).take (min (max s.op.lim 0) 16).toNat := by
 rw [lay_sorted hs he]
 unfold scanF layF
 rw [List.foldl_append, List.foldl_map]
end Go.Proofs.YtkdkgdollmmcnaaGreat
