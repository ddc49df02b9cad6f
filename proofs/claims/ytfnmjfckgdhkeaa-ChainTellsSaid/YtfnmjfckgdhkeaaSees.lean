/-
  The walk of the law ChainSees: at every input it returns true, and turns no memory that was there.
-/
import Derived.Test.YtfnmjfckgdhkeaaBuilt
import Derived.Deep.DeepCutAuto
import Derived.Deep.CutBlock
namespace Go.Proofs.Ytfnmjfckgdhkeaa
open Go.RowKit Go.Sort

/-- A stamp in its box. -/
structure TsAt (W : World) (X : Nat) (p l : Int) : Prop where
  c0 : W.cell? ⟨X, 0, none⟩ = some (.int .u64 p)
  c1 : W.cell? ⟨X, 1, none⟩ = some (.int .u32 l)
theorem TsAt.on {W W' : World} {X : Nat} {p l : Int} (h : TsAt W X p l) (hb : Below W.heap.size W W') : TsAt W' X p l := by
  have hl : X < W.heap.size := World.block_lt_of_cell? _ _ h.c0
  exact ⟨by rw [hb.cell (p := ⟨X, 0, none⟩) hl]; exact h.c0, by rw [hb.cell (p := ⟨X, 1, none⟩) hl]; exact h.c1⟩
theorem VeAt.onn {W W' : World} {b : Nat} {x : Ve} (h : VeAt W b 0 x) (hb : Below W.heap.size W W') : VeAt W' b 0 x := h.on hb (World.block_lt_of_cell? _ _ h.c0)
theorem VsAt.onn {W W' : World} {v : Value} {C : List Ve} (h : VsAt W.heap.size v C W) (hb : Below W.heap.size W W') : VsAt W'.heap.size v C W' := (h.on hb).le hb.size

/-- The law's boxes: the version, the two stamps; the chain. -/
structure Sb (w : World) (X Y : Nat) (x : Ve) (tp tl sp sl : Int) (vc : Value) (C : List Ve) (W : World) : Prop where
  box : VeAt W w.heap.size 0 x
  t : TsAt W X tp tl
  s : TsAt W Y sp sl
  c : VsAt W.heap.size vc C W
  bel : Below w.heap.size w W
theorem Sb.on {w W W' : World} {X Y : Nat} {x : Ve} {tp tl sp sl : Int} {vc : Value} {C : List Ve} (h : Sb w X Y x tp tl sp sl vc C W) (hb : Below W.heap.size W W') : Sb w X Y x tp tl sp sl vc C W' :=
  ⟨h.box.onn hb, h.t.on hb, h.s.on hb, h.c.onn hb, h.bel.trans (hb.mono h.bel.size)⟩
theorem al {W : World} (o : Obj) : Below W.heap.size W (W.alloc o) := (Below.refl _ _).alloc (Nat.le_refl _) _

theorem ts_two {W : World} (a b c d : Int) (t t' : TypeId) :
    TsAt ((W.alloc (.cells #[.int .u64 a, .int .u32 b] t)).alloc (.cells #[.int .u64 c, .int .u32 d] t')) W.heap.size a b ∧ TsAt ((W.alloc (.cells #[.int .u64 a, .int .u32 b] t)).alloc (.cells #[.int .u64 c, .int .u32 d] t')) (W.heap.size + 1) c d :=
  ⟨⟨by simp [go_sem], by simp [go_sem]⟩, ⟨by simp [go_sem], by simp [go_sem]⟩⟩
theorem below_two {W : World} (o o' : Obj) : Below W.heap.size W ((W.alloc o).alloc o').drew := (((Below.refl _ _).alloc (Nat.le_refl _) _).alloc (by simp) _).drew

theorem live_cases {a b : Option Ve} (h : live b = live a) : (∃ u, a = some u ∧ b = some u ∧ u.dead = false) ∨ ((a = none ∨ ∃ u, a = some u ∧ u.dead = true) ∧ (b = none ∨ ∃ u, b = some u ∧ u.dead = true)) := by
  cases a with
  | none =>
    right
    refine ⟨.inl rfl, ?_⟩
    cases b with
    | none => exact .inl rfl
    | some u =>
      right
      refine ⟨u, rfl, ?_⟩
      cases hd : u.dead
      · simp [live, hd] at h
      · rfl
  | some v =>
    cases hv : v.dead
    · left
      cases b with
      | none => simp [live, hv] at h
      | some u =>
        cases hd : u.dead
        · have : u = v := by simpa [live, hv, hd] using h
          subst this
          exact ⟨u, rfl, rfl, hd⟩
        · simp [live, hv, hd] at h
    · right
      refine ⟨.inr ⟨v, rfl, hv⟩, ?_⟩
      cases b with
      | none => exact .inl rfl
      | some u =>
        right
        refine ⟨u, rfl, ?_⟩
        cases hd : u.dead
        · simp [live, hv, hd] at h
        · rfl

set_option maxHeartbeats 8000000 in
set_option maxRecDepth 100000 in
theorem sees4 (B : Nat) (L : List Ve) (v : Value) (x : Ve) (tp tl sp sl : Int) (w : World) (hv : VsAt B v L w) (hB : B ≤ w.heap.size) :
    Calls Try.prog 4 #[v, veV x, .agg #[.int .u64 tp, .int .u32 tl, .int .u64 sp, .int .u32 sl]] w fun e w' => e = .returned (.bool true) ∧ Below w.heap.size w w' := by
  have hv' := hv
  obtain ⟨ao, cap, rfl, hlc, hcm, -⟩ := hv
  have H : Hid (VsAt w.heap.size (.slice ao L.length cap) L w) := hv'.le hB
  clear hv' hB
  have CB : Hid (∀ W, Below w.heap.size w W → Calls Try.prog 19 #[.slice ao L.length cap] W fun e w' => ∃ v', e = .returned v' ∧ VsAt w'.heap.size v' (bldF [] L) w' ∧ Below W.heap.size W w') := fun W hW => built19 w.heap.size L _ W (H.out.on hW) hW.size
  have hC : Ch (bldF [] L) ∧ (bldF [] L).length ≤ L.length := by
    have := bldF_ch (l := L) (c := []) ⟨by simp, List.Pairwise.nil, by simp⟩
    simpa using this
  clear hlc hcm
  generalize bldF [] L = C at *
  have HC : Hid _ := hC.1
  have HR : Hid (rightC C = true) := rightC_iff.2 hC.1
  clear hC
  have CAt : Hid (∀ W vc D, VsAt W.heap.size vc D W → Calls Try.prog 10 #[vc, .agg #[.int .u64 tp, .int .u32 tl]] W fun e w' => e = .returned (.tuple #[veV ((atF D tp tl).getD dv), .bool (atF D tp tl).isSome]) ∧ Below W.heap.size W w') := fun W vc D h => at10 _ D vc tp tl W h (Nat.le_refl _)
  have CPr : Hid (∀ W vc, VsAt W.heap.size vc C W → Calls Try.prog 17 #[vc, .agg #[.int .u64 sp, .int .u32 sl]] W fun e w' => ∃ v', e = .returned v' ∧ VsAt w'.heap.size v' (pruneF C sp sl) w' ∧ Below W.heap.size W w') := fun W vc h => prune17 _ C vc sp sl W h (Nat.le_refl _)
  have CPu : Hid (∀ W vc, VsAt W.heap.size vc C W → Calls Try.prog 8 #[vc, veV x] W fun e w' => ∃ v', e = .returned (.tuple #[v', .int .i64 (putF C x).2]) ∧ VsAt w'.heap.size v' (putF C x).1 w' ∧ Below W.heap.size W w') := fun W vc h => put8 _ C vc x W h (Nat.le_refl _)
  have HPs : Hid ((putF C x).2 = 0 → atF (putF C x).1 tp tl = atF C tp tl ∨ atF (putF C x).1 tp tl = some x) := fun h => put_sees (by rw [← h]) tp tl
  have hP : pruneF C sp sl = pruneR sp sl C := by unfold pruneF; rw [if_pos HR.out]
  have hPc := pruneR_ch HC.out sp sl
  have HPl : Hid (¬ (tp < sp ∨ tp = sp ∧ tl < sl) → live (atF (pruneF C sp sl) tp tl) = live (atF C tp tl)) := fun h => by
    rw [hP]
    unfold atF
    rw [if_pos HR.out, if_pos (rightC_iff.2 hPc.1)]
    exact prune_sees h C
  rw [← hP] at hPc
  have HPr : Hid (rightC (pruneF C sp sl) = true) := rightC_iff.2 hPc.1
  have HPn : Hid ((pruneF C sp sl).length ≤ C.length) := hPc.2
  have CRi : Hid (∀ W vp, VsAt W.heap.size vp (pruneF C sp sl) W → Calls Try.prog 12 #[vp] W fun e w' => e = .returned (.bool true) ∧ Below W.heap.size W w') := fun W vp h => by
    have := right12 _ _ vp W h (Nat.le_refl _)
    rw [HPr.out] at this
    exact this
  clear hP hPc HC HR HPr
  generalize pruneF C sp sl = P at *
  generalize putF C x = y at *
  obtain ⟨D, er⟩ := y
  dsimp only at *
  have HB0 : Hid (Below w.heap.size w ((w.alloc (.cells #[.int .u64 x.p, .int .u32 x.l, .int .u32 x.c, .int .u32 x.n, .string (bs x.val), .bool x.dead] 30)).alloc (.cells #[.int .u64 tp, .int .u32 tl, .int .u64 sp, .int .u32 sl] 44))) := ((Below.refl _ _).alloc (Nat.le_refl _) _).alloc (by simp) _
  have HV0 : Hid (VeAt ((w.alloc (.cells #[.int .u64 x.p, .int .u32 x.l, .int .u32 x.c, .int .u32 x.n, .string (bs x.val), .bool x.dead] 30)).alloc (.cells #[.int .u64 tp, .int .u32 tl, .int .u64 sp, .int .u32 sl] 44)) w.heap.size 0 x) := (ve_new w x.p x.l x.c x.n x.val x.dead).onn (al _)
  obtain ⟨xp, xl, xc, xn, xs, xd⟩ := x
  unfold veV at *
  dsimp only at *
  go_enter Try.func4, Try.ntmps4
  go_wp2_with fail
  refine (awake7 _).mono ?_
  rintro e w1 ⟨rfl, hb1⟩
  have HB1 : Hid (Below w.heap.size w w1) := HB0.out.trans (hb1.mono HB0.out.size)
  have HV1 : Hid (VeAt w1 w.heap.size 0 ⟨xp, xl, xc, xn, xs, xd⟩) := HV0.out.onn hb1
  obtain ⟨hc1, -⟩ := bcell hb1
  have c0 : w1.cell? ⟨w.heap.size + 1, 0, none⟩ = some (.int .u64 tp) := by rw [hc1 _ _ (by simp)]; simp
  have c1 : w1.cell? ⟨w.heap.size + 1, 1, none⟩ = some (.int .u32 tl) := by rw [hc1 _ _ (by simp)]; simp
  have c2 : w1.cell? ⟨w.heap.size + 1, 2, none⟩ = some (.int .u64 sp) := by rw [hc1 _ _ (by simp)]; simp
  have c3 : w1.cell? ⟨w.heap.size + 1, 3, none⟩ = some (.int .u32 sl) := by rw [hc1 _ _ (by simp)]; simp
  have hlt : w.heap.size + 1 < w1.heap.size := World.block_lt_of_cell? _ _ c0
  clear hc1 hb1 HB0 HV0
  by_cases h60 : L.length ≤ 60
  case neg =>
    have h60' : (60 : Int) < L.length := by omega
    clear c0 c1 c2 c3
    go_wp2_with fail
    go_ret
    exact ⟨rfl, HB1.out⟩
  have h60' : ¬ (60 : Int) < L.length := by omega
  have HC4 : Hid (w1.cell? ⟨w.heap.size + 1, 0, none⟩ = some (.int .u64 tp) ∧ w1.cell? ⟨w.heap.size + 1, 1, none⟩ = some (.int .u32 tl) ∧ w1.cell? ⟨w.heap.size + 1, 2, none⟩ = some (.int .u64 sp) ∧ w1.cell? ⟨w.heap.size + 1, 3, none⟩ = some (.int .u32 sl)) := ⟨c0, c1, c2, c3⟩
  clear c0 c1 c2 c3 h60
  go_wp2_with fail
  refine (CB.out _ HB1.out).mono ?_
  rintro e w2 ⟨vc, rfl, hv2, hb2⟩
  have c0 : w2.cell? ⟨w.heap.size + 1, 0, none⟩ = some (.int .u64 tp) := by rw [hb2.cell (p := ⟨_, _, none⟩) hlt]; exact HC4.out.1
  have c1 : w2.cell? ⟨w.heap.size + 1, 1, none⟩ = some (.int .u32 tl) := by rw [hb2.cell (p := ⟨_, _, none⟩) hlt]; exact HC4.out.2.1
  have c2 : w2.cell? ⟨w.heap.size + 1, 2, none⟩ = some (.int .u64 sp) := by rw [hb2.cell (p := ⟨_, _, none⟩) hlt]; exact HC4.out.2.2.1
  have c3 : w2.cell? ⟨w.heap.size + 1, 3, none⟩ = some (.int .u32 sl) := by rw [hb2.cell (p := ⟨_, _, none⟩) hlt]; exact HC4.out.2.2.2
  have hlt2 : w.heap.size + 1 < w2.heap.size := World.block_lt_of_cell? _ _ c0
  have hlt3 : w.heap.size < w2.heap.size := by omega
  have HB2 : Hid (Below w.heap.size w w2) := HB1.out.trans (hb2.mono HB1.out.size)
  have HV2 : Hid (VeAt w2 w.heap.size 0 ⟨xp, xl, xc, xn, xs, xd⟩) := HV1.out.onn hb2
  have HC2 : Hid (VsAt w2.heap.size vc C w2) := hv2
  clear hb2 hv2 HB1 HV1 HC4 hlt CB
  go_upto_region 6 with fail
  go_cut [8, 9] (fun s8 s9 wc => ∃ X Y, s8 = .pointer (some ⟨X, 0, none⟩) ∧ s9 = .pointer (some ⟨Y, 0, none⟩) ∧ Sb w X Y ⟨xp, xl, xc, xn, xs, xd⟩ tp tl sp sl vc C wc)
  case first =>
    go_region
    all_goals
      go_wp2_with fail
      go_meet
      case rel =>
        first
        | exact ⟨_, _, rfl, rfl, HV2.out.onn (below_two _ _), (ts_two _ _ _ _ _ _).1.on ((Below.refl _ _).drew), (ts_two _ _ _ _ _ _).2.on ((Below.refl _ _).drew), HC2.out.onn (below_two _ _), HB2.out.trans ((below_two _ _).mono HB2.out.size)⟩
        | exact ⟨_, _, rfl, rfl, HV2.out.onn (below_two _ _), (ts_two _ _ _ _ _ _).2.on ((Below.refl _ _).drew), (ts_two _ _ _ _ _ _).1.on ((Below.refl _ _).drew), HC2.out.onn (below_two _ _), HB2.out.trans ((below_two _ _).mono HB2.out.size)⟩
  case rest =>
    obtain ⟨X, Y, rfl, rfl, hS⟩ := hcut
    have HS : Hid (Sb w X Y ⟨xp, xl, xc, xn, xs, xd⟩ tp tl sp sl vc C wc) := hS
    clear hS c0 c1 c2 c3 HB2 HV2 HC2 hlt2 hlt3
    have CA : Hid (∀ W, VsAt W.heap.size vc C W → _) := fun W h => CAt.out W vc C h
    generalize atF C tp tl = aO at *
    obtain ⟨ok, hok⟩ : ∃ ok, aO.isSome = ok := ⟨_, rfl⟩
    obtain ⟨a, ha⟩ : ∃ a, aO.getD dv = a := ⟨_, rfl⟩
    rw [hok, ha] at CA
    have HA : Hid (aO.isSome = ok ∧ aO.getD dv = a) := ⟨hok, ha⟩
    clear hok ha
    obtain ⟨ap, al', ac, an, av, ad⟩ := a
    dsimp only at CA
    obtain ⟨ca, cc, rfl, hcl, hcm, -⟩ := HS.out.c
    obtain ⟨t0, t1⟩ := HS.out.t
    go_wp2_with fail
    refine (CA.out _ HS.out.c).mono ?_
    rintro e w3 ⟨rfl, hb3⟩
    have hs3 : Sb w X Y ⟨xp, xl, xc, xn, xs, xd⟩ tp tl sp sl (.slice ca C.length cc) C w3 := HS.out.on hb3
    have HS4 : Hid (Sb w X Y ⟨xp, xl, xc, xn, xs, xd⟩ tp tl sp sl (.slice ca C.length cc) C (w3.alloc (.cells #[.int .u64 ap, .int .u32 al', .int .u32 ac, .int .u32 an, .string (bs av), .bool ad] 30))) := hs3.on (al _)
    have HZ4 : Hid (VeAt (w3.alloc (.cells #[.int .u64 ap, .int .u32 al', .int .u32 ac, .int .u32 an, .string (bs av), .bool ad] 30)) w3.heap.size 0 ⟨ap, al', ac, an, av, ad⟩) := ve_new _ _ _ _ _ _ _
    obtain ⟨c0, c1, c2, c3, c4, c5⟩ := hs3.box.six
    have hlt3 : w.heap.size < w3.heap.size := World.block_lt_of_cell? _ _ c0
    clear hb3 hs3 t0 t1 HS CA
    go_wp2_with fail
    refine (CPu.out _ _ HS4.out.c).mono ?_
    rintro e w5 ⟨vd, rfl, hvd, hb5⟩
    have HS5 : Hid _ := HS4.out.on hb5
    have HZ5 : Hid _ := HZ4.out.onn hb5
    have HD5 : Hid (VsAt w5.heap.size vd D w5) := hvd
    clear hb5 hvd HS4 HZ4 c0 c1 c2 c3 c4 c5 hlt3 CPu
    generalize w3.heap.size = Z at *
    go_upto_if 45 with fail
    go_cut [] (fun wc => Sb w X Y ⟨xp, xl, xc, xn, xs, xd⟩ tp tl sp sl (.slice ca C.length cc) C wc ∧ VeAt wc Z 0 ⟨ap, al', ac, an, av, ad⟩)
    case first =>
      as_aux_lemma =>
      by_cases h0 : er = 0
      · have h0' : (er == 0) = true := by simp [h0]
        have hps := HPs.out h0
        clear h0
        have CD : Hid (∀ W, VsAt W.heap.size vd D W → _) := fun W h => CAt.out W vd D h
        generalize atF D tp tl = bO at CD hps
        obtain ⟨yes, hyes⟩ : ∃ yes, bO.isSome = yes := ⟨_, rfl⟩
        obtain ⟨b, hb⟩ : ∃ b, bO.getD dv = b := ⟨_, rfl⟩
        rw [hyes, hb] at CD
        have hq : (yes = ok ∧ b = ⟨ap, al', ac, an, av, ad⟩) ∨ (yes = true ∧ b = ⟨xp, xl, xc, xn, xs, xd⟩) := by
          rcases hps with e | e
          · left; rw [← hyes, ← hb, e]; exact ⟨HA.out.1, HA.out.2⟩
          · right; rw [← hyes, ← hb, e]; exact ⟨rfl, rfl⟩
        clear hyes hb hps
        obtain ⟨t0, t1⟩ := HS5.out.t
        rcases hq with ⟨rfl, rfl⟩ | ⟨rfl, rfl⟩
        · dsimp only at CD
          go_wp2_with fail
          refine (CD.out _ HD5.out).mono ?_
          rintro e w6 ⟨rfl, hb6⟩
          have hs6 := HS5.out.on hb6
          have hz6 := HZ5.out.onn hb6
          have HS7 : Hid (Sb w X Y ⟨xp, xl, xc, xn, xs, xd⟩ tp tl sp sl (.slice ca C.length cc) C (w6.alloc (.cells #[.int .u64 ap, .int .u32 al', .int .u32 ac, .int .u32 an, .string (bs av), .bool ad] 30))) := hs6.on (al _)
          have HZ7 : Hid (VeAt (w6.alloc (.cells #[.int .u64 ap, .int .u32 al', .int .u32 ac, .int .u32 an, .string (bs av), .bool ad] 30)) Z 0 ⟨ap, al', ac, an, av, ad⟩) := hz6.onn (al _)
          obtain ⟨z0, z1, z2, z3, z4, z5⟩ := hz6.six
          have hlz : Z < w6.heap.size := World.block_lt_of_cell? _ _ z0
          have hrun := run_eql30 ap al' ac an av ad ap al' ac an av ad
          rw [eqV_iff.2 rfl] at hrun
          clear hb6 hs6 hz6 t0 t1 HS5 HZ5 HD5
          go_wp2_with fail
          go_meet
          exact ⟨HS7.out, HZ7.out⟩
        · dsimp only at CD
          go_wp2_with fail
          refine (CD.out _ HD5.out).mono ?_
          rintro e w6 ⟨rfl, hb6⟩
          have hs6 := HS5.out.on hb6
          have hz6 := HZ5.out.onn hb6
          have HS7 : Hid (Sb w X Y ⟨xp, xl, xc, xn, xs, xd⟩ tp tl sp sl (.slice ca C.length cc) C (w6.alloc (.cells #[.int .u64 xp, .int .u32 xl, .int .u32 xc, .int .u32 xn, .string (bs xs), .bool xd] 30))) := hs6.on (al _)
          have HZ7 : Hid (VeAt (w6.alloc (.cells #[.int .u64 xp, .int .u32 xl, .int .u32 xc, .int .u32 xn, .string (bs xs), .bool xd] 30)) Z 0 ⟨ap, al', ac, an, av, ad⟩) := hz6.onn (al _)
          obtain ⟨z0, z1, z2, z3, z4, z5⟩ := hz6.six
          obtain ⟨c0, c1, c2, c3, c4, c5⟩ := hs6.box.six
          have hlz : Z < w6.heap.size := World.block_lt_of_cell? _ _ z0
          have hlc : w.heap.size < w6.heap.size := World.block_lt_of_cell? _ _ c0
          have hrun := run_eql30 xp xl xc xn xs xd xp xl xc xn xs xd
          rw [eqV_iff.2 rfl] at hrun
          have hrun2 := run_eql30 xp xl xc xn xs xd ap al' ac an av ad
          generalize eqV ⟨xp, xl, xc, xn, xs, xd⟩ ⟨ap, al', ac, an, av, ad⟩ = q at hrun2
          clear hb6 hs6 hz6 t0 t1 HS5 HZ5 HD5
          cases ok
          · go_wp2_with fail
            go_meet
            exact ⟨HS7.out, HZ7.out⟩
          · cases q
            · go_wp2_with fail
              go_meet
              exact ⟨HS7.out, HZ7.out⟩
            · go_wp2_with fail
              go_meet
              exact ⟨HS7.out, HZ7.out⟩
      · have h0' : (er == 0) = false := by simp [h0]
        clear h0
        go_wp2_with fail
        go_meet
        exact ⟨HS5.out, HZ5.out⟩
    case rest =>
      as_aux_lemma =>
      have HS6 : Hid _ := hcut.1
      have HZ6 : Hid _ := hcut.2
      clear hcut HS5 HZ5 HD5 HPs
      obtain ⟨s0, s1⟩ := HS6.out.s
      go_wp2_with fail
      refine (CPr.out _ _ HS6.out.c).mono ?_
      rintro e w7 ⟨vp, rfl, hvp, hb7⟩
      have HS7 : Hid _ := HS6.out.on hb7
      have HZ7 : Hid _ := HZ6.out.onn hb7
      have HP7 : Hid (VsAt w7.heap.size vp P w7) := hvp
      obtain ⟨pa, pc, rfl, -, -, -⟩ := hvp
      clear hb7 s0 s1 HS6 HZ6
      go_wp2_with fail
      refine (CRi.out _ _ HP7.out).mono ?_
      rintro e w8 ⟨rfl, hb8⟩
      have HS8 : Hid _ := HS7.out.on hb8
      have HZ8 : Hid _ := HZ7.out.onn hb8
      have HP8 : Hid (VsAt w8.heap.size (.slice pa P.length pc) P w8) := VsAt.onn HP7.out hb8
      clear hb8 HS7 HZ7 HP7 CRi CPr
      have hpn : ¬ (C.length : Int) < P.length := by have := HPn.out; omega
      obtain ⟨s0, s1⟩ := HS8.out.s
      obtain ⟨t0, t1⟩ := HS8.out.t
      by_cases hge : tp < sp ∨ tp = sp ∧ tl < sl
      · rcases hge with hge | ⟨rfl, hge⟩
        · have g1 : ¬ sp < tp := by omega
          have g2 : (tp == sp) = false := by rw [beq_eq_false_iff_ne]; omega
          clear hge
          go_wp2_with fail
          go_ret
          exact ⟨rfl, HS8.out.bel⟩
        · have g3 : ¬ sl ≤ tl := by omega
          clear hge
          go_wp2_with fail
          go_ret
          exact ⟨rfl, HS8.out.bel⟩
      have hlive := HPl.out hge
      have CP : Hid (∀ W, VsAt W.heap.size (.slice pa P.length pc) P W → _) := fun W h => CAt.out W (.slice pa P.length pc) P h
      generalize atF P tp tl = bO at CP hlive
      have hge2 : sp < tp ∨ tp = sp ∧ sl ≤ tl := by omega
      clear hge HPl CAt HPn
      have hcase : (ok = true ∧ bO.isSome = true ∧ bO.getD dv = ⟨ap, al', ac, an, av, ad⟩ ∧ ad = false) ∨ ((ok = false ∨ ok = true ∧ ad = true) ∧ (bO.isSome = false ∨ bO.isSome = true ∧ (bO.getD dv).dead = true)) := by
        obtain ⟨h1, h2⟩ := HA.out
        rcases live_cases hlive with ⟨u, rfl, rfl, hd⟩ | ⟨ha, hb⟩
        · left
          have hu : u = ⟨ap, al', ac, an, av, ad⟩ := h2
          refine ⟨h1.symm, rfl, h2, ?_⟩
          rw [hu] at hd
          exact hd
        · right
          constructor
          · rcases ha with rfl | ⟨u, rfl, hd⟩
            · exact .inl h1.symm
            · right
              have hu : u = ⟨ap, al', ac, an, av, ad⟩ := h2
              rw [hu] at hd
              exact ⟨h1.symm, hd⟩
          · rcases hb with rfl | ⟨u, rfl, hd⟩
            · exact .inl rfl
            · exact .inr ⟨rfl, hd⟩
      clear hlive HA
      obtain ⟨yes, hyes⟩ : ∃ yes, bO.isSome = yes := ⟨_, rfl⟩
      obtain ⟨b, hb⟩ : ∃ b, bO.getD dv = b := ⟨_, rfl⟩
      rw [hyes, hb] at CP hcase
      clear hyes hb
      obtain ⟨bp, bl, bc, bn, bv, bd⟩ := b
      dsimp only at CP hcase
      have hrun := run_eql30 ap al' ac an av ad ap al' ac an av ad
      rw [eqV_iff.2 rfl] at hrun
      have HG : Hid _ := hge2
      clear hge2
      rcases hcase with ⟨rfl, rfl, hbe, rfl⟩ | ⟨h1, h2⟩
      · injection hbe with k0 k1 k2 k3 k4 k5
        subst k0 k1 k2 k3 k4 k5
        rcases HG.out with hg | ⟨rfl, hg⟩
        all_goals
          go_wp2_with fail
          refine (CP.out _ HP8.out).mono ?_
          rintro e w9 ⟨rfl, hb9⟩
          have hz9 := HZ8.out.onn hb9
          have HB9 : Hid _ := (HS8.out.on hb9).bel
          clear hb9 t0 t1 s0 s1 HS8 HZ8 HP8 CP
          obtain ⟨z0, z1, z2, z3, z4, z5⟩ := hz9.six
          have hlz : Z < w9.heap.size := World.block_lt_of_cell? _ _ z0
          clear hz9
          go_wp2_with fail
          go_quiet (fail)
          go_wp2_with fail
          go_ret
          exact ⟨rfl, below_drewN (HB9.out.alloc HB9.out.size _) _⟩
      · rcases HG.out with hg | ⟨rfl, hg⟩
        all_goals
          rcases h1 with rfl | ⟨rfl, rfl⟩ <;> rcases h2 with rfl | ⟨rfl, rfl⟩
        all_goals
          go_wp2_with fail
          refine (CP.out _ HP8.out).mono ?_
          rintro e w9 ⟨rfl, hb9⟩
          have hz9 := HZ8.out.onn hb9
          have HB9 : Hid _ := (HS8.out.on hb9).bel
          clear hb9 t0 t1 s0 s1 HS8 HZ8 HP8 CP
          obtain ⟨z0, z1, z2, z3, z4, z5⟩ := hz9.six
          have hlz : Z < w9.heap.size := World.block_lt_of_cell? _ _ z0
          clear hz9
          go_wp2_with fail
          go_quiet (fail)
          go_wp2_with fail
          go_ret
          exact ⟨rfl, below_drewN (HB9.out.alloc HB9.out.size _) _⟩
end Go.Proofs.Ytfnmjfckgdhkeaa
