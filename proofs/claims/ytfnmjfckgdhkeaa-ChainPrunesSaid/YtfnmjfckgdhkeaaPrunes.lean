/-
  The walk of the law ChainPrunes: at every input it returns true, and turns no memory that was there.
-/
import Derived.Test.YtfnmjfckgdhkeaaSees
import Derived.Test.YtfnmjfckgdhkeaaSame
namespace Go.Proofs.Ytfnmjfckgdhkeaa
open Go.RowKit Go.Sort

/-- A stamp in a box that may be written. -/
structure TsF (W : World) (X : Nat) (p l : Int) : Prop where
  c0 : W.cell? ⟨X, 0, none⟩ = some (.int .u64 p)
  c1 : W.cell? ⟨X, 1, none⟩ = some (.int .u32 l)
  f0 : W.frozen? ⟨X, 0, none⟩ = false
  f1 : W.frozen? ⟨X, 1, none⟩ = false
theorem TsF.at {W : World} {X : Nat} {p l : Int} (h : TsF W X p l) : TsAt W X p l := ⟨h.c0, h.c1⟩
theorem tf_two {W : World} (a b c d : Int) (t t' : TypeId) :
    TsF ((W.alloc (.cells #[.int .u64 a, .int .u32 b] t)).alloc (.cells #[.int .u64 c, .int .u32 d] t')).drew W.heap.size a b ∧ TsF ((W.alloc (.cells #[.int .u64 a, .int .u32 b] t)).alloc (.cells #[.int .u64 c, .int .u32 d] t')).drew (W.heap.size + 1) c d :=
  ⟨⟨by simp [go_sem], by simp [go_sem], by simp [go_sem], by simp [go_sem]⟩, ⟨by simp [go_sem], by simp [go_sem], by simp [go_sem], by simp [go_sem]⟩⟩

/-- The law's two stamps, and the chain. -/
structure Pb (w : World) (X Y : Nat) (tp tl sp sl : Int) (vc : Value) (C : List Ve) (W : World) : Prop where
  t : TsAt W X tp tl
  s : TsAt W Y sp sl
  c : VsAt W.heap.size vc C W
  bel : Below w.heap.size w W
theorem Pb.on {w W W' : World} {X Y : Nat} {tp tl sp sl : Int} {vc : Value} {C : List Ve} (h : Pb w X Y tp tl sp sl vc C W) (hb : Below W.heap.size W W') : Pb w X Y tp tl sp sl vc C W' :=
  ⟨h.t.on hb, h.s.on hb, h.c.onn hb, h.bel.trans (hb.mono h.bel.size)⟩

structure Pq (w : World) (X Y : Nat) (tp tl sp sl : Int) (vc : Value) (C : List Ve) (vp : Value) (P : List Ve) (W : World) : Prop where
  b : Pb w X Y tp tl sp sl vc C W
  p : VsAt W.heap.size vp P W
theorem Pq.on {w W W' : World} {X Y : Nat} {tp tl sp sl : Int} {vc vp : Value} {C P : List Ve} (h : Pq w X Y tp tl sp sl vc C vp P W) (hb : Below W.heap.size W W') : Pq w X Y tp tl sp sl vc C vp P W' := ⟨h.b.on hb, h.p.onn hb⟩
theorem Pq.sc {w W : World} {X Y : Nat} {tp tl sp sl : Int} {vc vp : Value} {C P : List Ve} (h : Pq w X Y tp tl sp sl vc C vp P W) : W.cell? ⟨Y, 0, none⟩ = some (.int .u64 sp) ∧ W.cell? ⟨Y, 1, none⟩ = some (.int .u32 sl) ∧ Hid (Pq w X Y tp tl sp sl vc C vp P W) := ⟨h.b.s.c0, h.b.s.c1, h⟩

def topV : Ve := ⟨281474976710656, 4095, 0, 0, [110, 101, 119], false⟩
theorem topV_ok : vOk topV = true := by rfl
theorem top_all {C : List Ve} (h : Ch C) : ∀ u ∈ C, ltS topV.p topV.l u = false := by
  intro u hu
  have := h.ok u hu
  simp only [vOk, Bool.and_eq_true, decide_eq_true_eq] at this
  refine ltS_not.2 ?_
  show ¬ ((281474976710656 : Int) < u.p ∨ (281474976710656 : Int) = u.p ∧ (4095 : Int) < u.l)
  omega
theorem newF_top {C : List Ve} (h : Ch C) (hh : ∃ u r, C = u :: r ∧ u.p = topV.p ∧ u.l = topV.l) : newF C = (281474976710656, 4095) := by
  obtain ⟨u, r, rfl, h1, h2⟩ := hh
  unfold newF
  rw [if_pos (rightC_iff.2 h)]
  show (u.p, u.l) = _
  rw [h1, h2]
  rfl

set_option maxHeartbeats 8000000 in
set_option maxRecDepth 100000 in
theorem prunes6 (B : Nat) (L : List Ve) (v : Value) (ap al0 bp bl : Int) (w : World) (hv : VsAt B v L w) (hB : B ≤ w.heap.size) :
    Calls Try.prog 6 #[v, .agg #[.int .u64 ap, .int .u32 al0], .agg #[.int .u64 bp, .int .u32 bl]] w fun e w' => e = .returned (.bool true) ∧ Below w.heap.size w w' := by
  have hv' := hv
  obtain ⟨ao, cap, rfl, hlc, hcm, -⟩ := hv
  have H : Hid (VsAt w.heap.size (.slice ao L.length cap) L w) := hv'.le hB
  clear hv' hB
  have CB : Hid (∀ W, Below w.heap.size w W → Calls Try.prog 19 #[.slice ao L.length cap] W fun e w' => ∃ v', e = .returned v' ∧ VsAt w'.heap.size v' (bldF [] L) w' ∧ Below W.heap.size W w') := fun W hW => built19 w.heap.size L _ W (H.out.on hW) hW.size
  have hC : Ch (bldF [] L) ∧ (bldF [] L).length ≤ L.length := by
    have := bldF_ch (l := L) (c := []) ⟨by simp, List.Pairwise.nil, by simp⟩
    simpa using this
  clear hlc hcm
  generalize bldF [] L = C at *
  have HC : Hid _ := hC.1
  have HCl : Hid _ := hC.2
  clear hC
  have HB0 : Hid (Below w.heap.size w ((w.alloc (.cells #[.int .u64 ap, .int .u32 al0] 26)).alloc (.cells #[.int .u64 bp, .int .u32 bl] 26))) := ((Below.refl _ _).alloc (Nat.le_refl _) _).alloc (by simp) _
  have HT0 : Hid _ := ts_two (W := w) ap al0 bp bl 26 26
  go_enter Try.func6, Try.ntmps6
  go_wp2_with fail
  refine (awake7 _).mono ?_
  rintro e w1 ⟨rfl, hb1⟩
  have HB1 : Hid (Below w.heap.size w w1) := HB0.out.trans (hb1.mono HB0.out.size)
  have HA1 : Hid (TsAt w1 w.heap.size ap al0 ∧ TsAt w1 (w.heap.size + 1) bp bl) := ⟨HT0.out.1.on hb1, HT0.out.2.on hb1⟩
  clear hb1 HB0 HT0
  by_cases h60 : L.length ≤ 60
  case neg =>
    have h60' : (60 : Int) < L.length := by omega
    go_wp2_with fail
    go_ret
    exact ⟨rfl, HB1.out⟩
  have h60' : ¬ (60 : Int) < L.length := by omega
  have HC60 : Hid (C.length ≤ 60) := Nat.le_trans HCl.out h60
  clear h60 HCl
  go_wp2_with fail
  refine (CB.out _ HB1.out).mono ?_
  rintro e w2 ⟨vc, rfl, hv2, hb2⟩
  obtain ⟨a0, a1⟩ := HA1.out.1.on hb2
  obtain ⟨b0, b1⟩ := HA1.out.2.on hb2
  have hlt2 : w.heap.size + 1 < w2.heap.size := World.block_lt_of_cell? _ _ b0
  have hlt3 : w.heap.size < w2.heap.size := by omega
  have HB2 : Hid (Below w.heap.size w w2) := HB1.out.trans (hb2.mono HB1.out.size)
  have HA2 : Hid (TsAt w2 w.heap.size ap al0 ∧ TsAt w2 (w.heap.size + 1) bp bl) := ⟨⟨a0, a1⟩, ⟨b0, b1⟩⟩
  have HC2 : Hid (VsAt w2.heap.size vc C w2) := hv2
  clear hb2 hv2 HB1 CB HA1
  go_upto_region 6 with fail
  go_cut [8, 9] (fun s8 s9 wc => ∃ X Y, s8 = .pointer (some ⟨X, 0, none⟩) ∧ s9 = .pointer (some ⟨Y, 0, none⟩) ∧ TsF wc X ap al0 ∧ TsF wc Y bp bl ∧ (X == Y) = false ∧ w2.heap.size ≤ X ∧ w2.heap.size ≤ Y ∧ Below w2.heap.size w2 wc)
  case first =>
    go_region
    all_goals
      go_wp2_with fail
      go_meet
      case rel =>
        first
        | exact ⟨_, _, rfl, rfl, (tf_two _ _ _ _ _ _).1, (tf_two _ _ _ _ _ _).2, by simp, by omega, by omega, below_two _ _⟩
        | exact ⟨_, _, rfl, rfl, (tf_two _ _ _ _ _ _).2, (tf_two _ _ _ _ _ _).1, by simp, by omega, by omega, below_two _ _⟩
  case rest =>
    obtain ⟨X, Y, rfl, rfl, hX, hY, hne, hX2, hY2, hbc⟩ := hcut
    have HX : Hid _ := hX
    have HY : Hid _ := hY
    have HBc : Hid (Below w2.heap.size w2 wc) := hbc
    have HA3 : Hid (TsAt wc w.heap.size ap al0 ∧ TsAt wc (w.heap.size + 1) bp bl) := ⟨HA2.out.1.on hbc, HA2.out.2.on hbc⟩
    clear hX hY hbc a0 a1 b0 b1 HA2
    obtain ⟨a0, a1⟩ := HA3.out.1
    obtain ⟨b0, b1⟩ := HA3.out.2
    go_upto_region 7 with fail
    go_cut [43] (fun t wc' => t = .bool (lessB bp bl ap al0) ∧ wc = wc')
    case first =>
      by_cases h1 : bp < ap
      · have HL : Hid (lessB bp bl ap al0 = true) := by show _ = _; simp [lessB, h1]
        go_wp2_with fail
        go_meet
        exact ⟨by rw [HL.out], by trivial⟩
      · by_cases h2 : bp = ap
        · subst h2
          by_cases h3 : bl < al0
          · have HL : Hid (lessB bp bl bp al0 = true) := by show _ = _; simp [lessB, h3]
            go_wp2_with fail
            go_meet
            exact ⟨by rw [HL.out], by trivial⟩
          · have HL : Hid (lessB bp bl bp al0 = false) := by show _ = _; simp [lessB, h3]
            go_wp2_with fail
            go_meet
            exact ⟨by rw [HL.out], by trivial⟩
        · have HL : Hid (lessB bp bl ap al0 = false) := by show _ = _; simp [lessB, h1, h2]
          have h2' : (bp == ap) = false := by rw [beq_eq_false_iff_ne]; exact h2
          clear h2
          go_wp2_with fail
          go_meet
          exact ⟨by rw [HL.out], by trivial⟩
    case rest =>
    obtain ⟨rfl, rfl⟩ := hcut
    obtain ⟨z, hz⟩ : ∃ z, lessB bp bl ap al0 = z := ⟨_, rfl⟩
    rw [hz]
    have HZ : Hid (lessB bp bl ap al0 = z) := hz
    clear hz
    go_upto_if 43 with fail
    go_cut [] (fun wc => ∃ lp ll hp hl, TsAt wc X lp ll ∧ TsAt wc Y hp hl ∧ ¬ (hp < lp ∨ hp = lp ∧ hl < ll) ∧ Below w2.heap.size w2 wc)
    case first =>
      cases z
      · go_wp2_with fail
        go_meet
        have hz := HZ.out
        unfold lessB at hz
        exact ⟨ap, al0, bp, bl, HX.out.at, HY.out.at, of_decide_eq_false hz, HBc.out⟩
      · obtain ⟨x0, x1, x2, x3⟩ := HX.out
        obtain ⟨y0, y1, y2, y3⟩ := HY.out
        have hne' : (Y == X) = false := by rw [beq_eq_false_iff_ne] at hne ⊢; exact fun h => hne h.symm
        have hne1 : X ≠ Y := by simpa using hne
        have hne2 : Y ≠ X := by simpa using hne'
        have ha1 : w.heap.size ≠ X := by omega
        have ha2 : w.heap.size ≠ Y := by omega
        have ha3 : w.heap.size + 1 ≠ X := by omega
        have ha4 : w.heap.size + 1 ≠ Y := by omega
        go_wp2_with fail
        go_region
        all_goals
          go_wp2_with fail
          go_meet
          have hz := HZ.out
          unfold lessB at hz
          have hz2 := of_decide_eq_true hz
          exact ⟨bp, bl, ap, al0, ⟨by simp [go_sem, *], by simp [go_sem, *]⟩, ⟨by simp [go_sem, *], by simp [go_sem, *]⟩, by omega, ((((HBc.out.setCell hX2 _).setCell hX2 _).setCell hY2 _).setCell hY2 _).drew⟩
    case rest =>
      obtain ⟨lp, ll, hp, hl, hX, hY, hord, hbc⟩ := hcut
      have HB : Hid (Pb w X Y lp ll hp hl vc C wc) := ⟨hX, hY, (HC2.out.on hbc).le hbc.size, HB2.out.trans (hbc.mono HB2.out.size)⟩
      clear hX hY hbc HX HY HBc HA3 a0 a1 b0 b1 hne hX2 hY2 HB2 HC2 hlt2 hlt3 HZ
      have hR : rightC C = true := rightC_iff.2 HC.out
      have hP : pruneF C lp ll = pruneR lp ll C := by unfold pruneF; rw [if_pos hR]
      have hPc := pruneR_ch HC.out lp ll
      have HPP : Hid (pruneF (pruneF C lp ll) hp hl = pruneF C hp hl) := by
        show _ = _
        unfold pruneF
        rw [if_pos hR, if_pos (rightC_iff.2 hPc.1), if_pos hR]
        exact prune_twice hord C
      have HPt : Hid (C.take (pruneF C lp ll).length = pruneF C lp ll) := by rw [hP]; exact pruneR_take lp ll C
      have HPn : Hid ((pruneF C lp ll).length ≤ C.length) := by rw [hP]; exact hPc.2
      have HNe : Hid (¬ (putF (pruneF C lp ll) topV).2 = 0 ∨ ¬ (putF C topV).2 = 0 → newF C = (281474976710656, 4095)) := fun h => by
        rcases h with h | h
        · rw [hP] at h
          exact newF_top HC.out (top_no_pruned HC.out (by have := HC60.out; omega) topV_ok (top_all HC.out) lp ll h)
        · exact newF_top HC.out (top_no HC.out (by have := HC60.out; omega) topV_ok (top_all HC.out) h)
      have HSm : Hid ((putF (pruneF C lp ll) topV).2 = 0 → (putF C topV).2 = 0 → lp < 281474976710656 → pruneF (putF C topV).1 lp ll = (putF (pruneF C lp ll) topV).1) := fun h1 h2 h3 => by
        have e1 : putF (pruneR lp ll C) topV = ((putF (pruneF C lp ll) topV).1, 0) := by rw [← hP, ← h1]
        have e2 : putF C topV = ((putF C topV).1, 0) := by rw [← h2]
        have e3 := prune_put (p := lp) (l := ll) (top_all HC.out) (ltS_iff.2 (.inl h3)) e1 e2
        have hch := (putF_ok e2).2.1
        rw [e3]
        unfold pruneF
        rw [if_pos (rightC_iff.2 hch)]
      have CPl : Hid (∀ W vc, VsAt W.heap.size vc C W → Calls Try.prog 17 #[vc, .agg #[.int .u64 lp, .int .u32 ll]] W fun e w' => ∃ v', e = .returned v' ∧ VsAt w'.heap.size v' (pruneF C lp ll) w' ∧ Below W.heap.size W w') := fun W vc h => prune17 _ C vc lp ll W h (Nat.le_refl _)
      have CCh : Hid (∀ W vc, VsAt W.heap.size vc C W → Calls Try.prog 17 #[vc, .agg #[.int .u64 hp, .int .u32 hl]] W fun e w' => ∃ v', e = .returned v' ∧ VsAt w'.heap.size v' (pruneF C hp hl) w' ∧ Below W.heap.size W w') := fun W vc h => prune17 _ C vc hp hl W h (Nat.le_refl _)
      have CPh : Hid (∀ W vp, VsAt W.heap.size vp (pruneF C lp ll) W → Calls Try.prog 17 #[vp, .agg #[.int .u64 hp, .int .u32 hl]] W fun e w' => ∃ v', e = .returned v' ∧ VsAt w'.heap.size v' (pruneF C hp hl) w' ∧ Below W.heap.size W w') := fun W vp h => by
        have := prune17 _ _ vp hp hl W h (Nat.le_refl _)
        rw [HPP.out] at this
        exact this
      have CYl : Hid (∀ W vy, VsAt W.heap.size vy (putF C topV).1 W → Calls Try.prog 17 #[vy, .agg #[.int .u64 lp, .int .u32 ll]] W fun e w' => ∃ v', e = .returned v' ∧ VsAt w'.heap.size v' (pruneF (putF C topV).1 lp ll) w' ∧ Below W.heap.size W w') := fun W vy h => prune17 _ _ vy lp ll W h (Nat.le_refl _)
      have CSame : Hid (∀ W va vb D, VsAt W.heap.size va D W → VsAt W.heap.size vb D W → Calls Try.prog 14 #[va, vb] W fun e w' => e = .returned (.bool true) ∧ Below W.heap.size W w') := fun W va vb D h1 h2 => by
        have := same14 _ _ D D va vb W h1 h2
        rw [sameB_self] at this
        exact this
      have CPp : Hid (∀ W vp, VsAt W.heap.size vp (pruneF C lp ll) W → Calls Try.prog 8 #[vp, .agg #[.int .u64 281474976710656, .int .u32 4095, .int .u32 0, .int .u32 0, .string ⟨#[110, 101, 119]⟩, .bool false]] W fun e w' => ∃ v', e = .returned (.tuple #[v', .int .i64 (putF (pruneF C lp ll) topV).2]) ∧ VsAt w'.heap.size v' (putF (pruneF C lp ll) topV).1 w' ∧ Below W.heap.size W w') := fun W vp h => put8 _ _ vp topV W h (Nat.le_refl _)
      have CPc : Hid (∀ W vc, VsAt W.heap.size vc C W → Calls Try.prog 8 #[vc, .agg #[.int .u64 281474976710656, .int .u32 4095, .int .u32 0, .int .u32 0, .string ⟨#[110, 101, 119]⟩, .bool false]] W fun e w' => ∃ v', e = .returned (.tuple #[v', .int .i64 (putF C topV).2]) ∧ VsAt w'.heap.size v' (putF C topV).1 w' ∧ Below W.heap.size W w') := fun W vc h => put8 _ _ vc topV W h (Nat.le_refl _)
      have CNw : Hid (∀ W vc, VsAt W.heap.size vc C W → Calls Try.prog 15 #[vc] W fun e w' => e = .returned (.agg #[.int .u64 (newF C).1, .int .u32 (newF C).2]) ∧ Below W.heap.size W w') := fun W vc h => newest15 _ C vc W h (Nat.le_refl _)
      clear hR hP hPc HPP hord HC HC60
      obtain ⟨ca, cc, rfl, hcl, hcm, -⟩ := HB.out.c
      generalize pruneF C lp ll = P at *
      generalize pruneF C hp hl = Q at *
      have CT : Hid (∀ W, VsAt W.heap.size (.slice ca C.length cc) C W → VsAt W.heap.size (.slice ca P.length cc) P W) := fun W h => by
        have := VsAt.take h HPn.out
        rw [HPt.out] at this
        exact this
      have hpc : P.length ≤ cc := Nat.le_trans HPn.out hcl
      clear HPt HPn
      generalize putF P topV = y1 at *
      generalize putF C topV = y2 at *
      obtain ⟨XL, er⟩ := y1
      obtain ⟨YL, fr⟩ := y2
      dsimp only at *
      obtain ⟨t0, t1⟩ := HB.out.t
      go_wp2_with fail
      refine (CPl.out _ _ HB.out.c).mono ?_
      rintro e w3 ⟨vp, rfl, hv3, hb3⟩
      obtain ⟨pa, pc, rfl, -, -, -⟩ := id hv3
      have H3 : Hid (Pq w X Y lp ll hp hl (.slice ca C.length cc) C (.slice pa P.length pc) P w3) := ⟨HB.out.on hb3, hv3⟩
      clear hv3 hb3 HB t0 t1 CPl
      have hpc' : (P.length : Int) ≤ cc := by omega
      go_upto_region 10 with fail
      go_cut [65] (fun t wc => t = .bool false ∧ Pq w X Y lp ll hp hl (.slice ca C.length cc) C (.slice pa P.length pc) P wc)
      case first =>
        go_region_held3 (fun w' => w'.cell? ⟨Y, 0, none⟩ = some (.int .u64 hp) ∧ w'.cell? ⟨Y, 1, none⟩ = some (.int .u32 hl) ∧ Hid (Pq w X Y lp ll hp hl (.slice ca C.length cc) C (.slice pa P.length pc) P w'))
          (first | exact (H3.out.on (Below.refl _ _).drew).sc | exact H4.out.1.sc | exact H5.out.1.sc | exact H6.out.sc | exact H7.out.sc)
          (first
          | (go_at_call_of 17 (Value.slice pa P.length pc); refine (CPh.out _ _ (H3.out.on (Below.refl _ _).drew).p).mono ?_; rintro e w4 ⟨v4, rfl, hv4, hb4⟩; have H4 : Hid (Pq w X Y lp ll hp hl (.slice ca C.length cc) C (.slice pa P.length pc) P w4 ∧ VsAt w4.heap.size v4 Q w4) := ⟨(H3.out.on (Below.refl _ _).drew).on hb4, hv4⟩; clear hv4 hb4)
          | (go_at_call_of 17 (Value.slice ca C.length cc); refine (CCh.out _ _ H4.out.1.b.c).mono ?_; rintro e w5 ⟨v5, rfl, hv5, hb5⟩; have H5 : Hid (Pq w X Y lp ll hp hl (.slice ca C.length cc) C (.slice pa P.length pc) P w5 ∧ VsAt w5.heap.size v4 Q w5 ∧ VsAt w5.heap.size v5 Q w5) := ⟨H4.out.1.on hb5, VsAt.onn H4.out.2 hb5, hv5⟩; clear hv5 hb5)
          | (go_at_call_of 14 (Value.slice pa P.length pc); refine (CSame.out _ _ _ P H6.out.p (CT.out _ H6.out.b.c)).mono ?_; rintro e w7 ⟨rfl, hb7⟩; have H7 : Hid (Pq w X Y lp ll hp hl (.slice ca C.length cc) C (.slice pa P.length pc) P w7) := H6.out.on hb7; clear hb7)
          | (go_at_call 14; refine (CSame.out _ _ _ Q H5.out.2.1 H5.out.2.2).mono ?_; rintro e w6 ⟨rfl, hb6⟩; have H6 : Hid (Pq w X Y lp ll hp hl (.slice ca C.length cc) C (.slice pa P.length pc) P w6) := H5.out.1.on hb6; clear hb6))
        go_wp2_with fail
        go_meet
        exact ⟨by trivial, H7.out⟩
      case rest =>
        obtain ⟨rfl, hq⟩ := hcut
        have H8 : Hid _ := hq
        clear hq H3 CPh CCh CT
        have HVb : Hid (VeAt (wc.alloc (.cells #[.int .u64 281474976710656, .int .u32 4095, .int .u32 0, .int .u32 0, .string ⟨#[110, 101, 119]⟩, .bool false] 30)) wc.heap.size 0 topV) := ve_new wc 281474976710656 4095 0 0 [110, 101, 119] false
        go_wp2_with fail
        refine (CPp.out _ _ (H8.out.on (al _)).p).mono ?_
        rintro e w9 ⟨vx, rfl, hvx, hb9⟩
        have H9 : Hid _ := (H8.out.on (al _)).on hb9
        have HV9 : Hid (VeAt w9 wc.heap.size 0 topV) := HVb.out.onn hb9
        have HX9 : Hid (VsAt w9.heap.size vx XL w9) := hvx
        clear hvx hb9 HVb H8 CPp
        generalize wc.heap.size = Z at *
        obtain ⟨c0, c1, c2, c3, c4, c5⟩ := VeAt.six (p := 281474976710656) (l := 4095) (c := 0) (n := 0) (s := [110, 101, 119]) (d := false) HV9.out
        go_wp2_with fail
        refine (CPc.out _ _ H9.out.b.c).mono ?_
        rintro e w10 ⟨vy, rfl, hvy, hb10⟩
        have H10 : Hid _ := H9.out.on hb10
        have HV10 : Hid (VeAt w10 Z 0 topV) := HV9.out.onn hb10
        have HX10 : Hid (VsAt w10.heap.size vx XL w10) := VsAt.onn HX9.out hb10
        have HY10 : Hid (VsAt w10.heap.size vy YL w10) := hvy
        clear hvy hb10 H9 HV9 HX9 c0 c1 c2 c3 c4 c5 CPc
        by_cases hef : er = 0 ∧ fr = 0
        · obtain ⟨rfl, rfl⟩ := hef
          have HSm' : Hid _ := HSm.out rfl rfl
          clear HSm HNe CNw HV10
          obtain ⟨t0, t1⟩ := H10.out.b.t
          by_cases hlow : (281474976710656 : Int) ≤ lp
          · go_wp2_with fail
            go_ret
            exact ⟨rfl, H10.out.b.bel⟩
          · have HE : Hid _ := HSm'.out (by omega)
            go_wp2_with fail
            refine (CYl.out _ _ HY10.out).mono ?_
            rintro e w11 ⟨vz, rfl, hvz, hb11⟩
            rw [HE.out] at hvz
            have HZ11 : Hid (VsAt w11.heap.size vz XL w11) := hvz
            have HX11 : Hid (VsAt w11.heap.size vx XL w11) := VsAt.onn HX10.out hb11
            have H11 : Hid _ := H10.out.on hb11
            clear hvz hb11 H10 HX10 HY10 t0 t1 CYl
            go_wp2_with fail
            refine (CSame.out _ _ _ _ HX11.out HZ11.out).mono ?_
            rintro e w12 ⟨rfl, hb12⟩
            have H12 : Hid _ := H11.out.on hb12
            clear hb12
            go_wp2_with fail
            go_ret
            exact ⟨rfl, H12.out.b.bel⟩
        · have hnew : newF C = (281474976710656, 4095) := HNe.out (by
            by_cases h : er = 0
            · exact .inr fun h2 => hef ⟨h, h2⟩
            · exact .inl h)
          have cA : Hid (∀ d os, Calls Try.prog 15 #[.slice ca C.length cc] (grow (redrawn w10 d) os) fun e w'' => e = .returned (.agg #[.int .u64 281474976710656, .int .u32 4095]) ∧ ∃ p : Regrown, w'' = grow (redrawn w10 p.d) p.os) := fun d os => Calls.regrown_of (by have := CNw.out (grow (redrawn w10 d) os) _ (H10.out.on (below_regrown w10 d os)).b.c; rw [hnew] at this; exact this)
          clear hnew HSm HNe CNw CYl CSame HX10 HY10
          obtain ⟨c0, c1, c2, c3, c4, c5⟩ := VeAt.six (p := 281474976710656) (l := 4095) (c := 0) (n := 0) (s := [110, 101, 119]) (d := false) HV10.out
          have g0 := cell_regrown c0
          have g1 := cell_regrown c1
          have hrun := run_eql26 281474976710656 4095 281474976710656 4095
          have hq : eqB 281474976710656 4095 281474976710656 4095 = true := by rfl
          rw [hq] at hrun
          clear c0 c1 c2 c3 c4 c5 hq
          by_cases he : er = fr
          · subst he
            have he0 : (er != 0) = true := by simp; omega
            clear hef
            go_wp2_with fail
            refine wp_region_quiet_below (by kernel_rfl) (by kernel_rfl) (Veil.out ?_)
            repeat (refine vq_step (fun K hK => ?_); go_simp; refine hK _ ?_; clear hK K)
            refine vq_nil ?_
            intro _ hw'
            obtain ⟨⟨dq, osq⟩, hw''⟩ := hw'
            subst hw''
            have H11 : Hid _ := H10.out.on (below_regrown w10 dq osq)
            go_wp2_with fail
            go_ret
            exact ⟨rfl, H11.out.b.bel⟩
          · have he' : (er == fr) = false := by rw [beq_eq_false_iff_ne]; exact he
            have H10' : Hid _ := H10.out
            by_cases h0 : er = 0
            · have h0' : (er != 0) = false := by simp [h0]
              have h1' : (fr != 0) = true := by simp; exact fun h => hef ⟨h0, h⟩
              have he2 : ((0 : Int) == fr) = false := by rw [← h0]; exact he'
              clear hef he h0
              go_wp2_with fail
              refine wp_region_quiet_below (by kernel_rfl) (by kernel_rfl) (Veil.out ?_)
              repeat (refine vq_step (fun K hK => ?_); go_simp; refine hK _ ?_; clear hK K)
              (refine vq_step (fun K hK => ?_); go_simp; apply Exists.intro; refine ⟨fun _ => ?_, hK _ ?_⟩; exact cA.out _ _; clear hK K)
              repeat (refine vq_step (fun K hK => ?_); go_simp; refine hK _ ?_; clear hK K)
              refine vq_nil ?_
              intro _ hw'
              obtain ⟨⟨dq, osq⟩, hw''⟩ := hw'
              subst hw''
              have H11 : Hid _ := H10.out.on (below_regrown w10 dq osq)
              go_wp2_with fail
              go_ret
              exact ⟨rfl, H11.out.b.bel⟩
            · have h0' : (er != 0) = true := by simp [h0]
              clear hef he h0
              go_wp2_with fail
              refine wp_region_quiet_below (by kernel_rfl) (by kernel_rfl) (Veil.out ?_)
              repeat (refine vq_step (fun K hK => ?_); go_simp; refine hK _ ?_; clear hK K)
              (refine vq_step (fun K hK => ?_); go_simp; apply Exists.intro; refine ⟨fun _ => ?_, hK _ ?_⟩; exact cA.out _ _; clear hK K)
              repeat (refine vq_step (fun K hK => ?_); go_simp; refine hK _ ?_; clear hK K)
              refine vq_nil ?_
              intro _ hw'
              obtain ⟨⟨dq, osq⟩, hw''⟩ := hw'
              subst hw''
              have H11 : Hid _ := H10.out.on (below_regrown w10 dq osq)
              go_wp2_with fail
              go_ret
              exact ⟨rfl, H11.out.b.bel⟩
end Go.Proofs.Ytfnmjfckgdhkeaa
