/-
  The walk of the law ChainTells: at every input it returns true, and turns no memory that was there.
-/
import Derived.Test.YtfnmjfckgdhkeaaRefPut
import Derived.Test.YtfnmjfckgdhkeaaSees
namespace Go.Proofs.Ytfnmjfckgdhkeaa
open Go.RowKit Go.Sort

theorem VsAt.clip {B : Nat} {ao : Option Addr} {cap : Nat} {C : List Ve} {w : World} (h : VsAt B (.slice ao C.length cap) C w) : VsAt B (.slice ao C.length C.length) C w := by
  obtain ⟨ao', cap', e, hl, hm, h⟩ := h
  simp only [Value.slice.injEq] at e
  obtain ⟨rfl, _, rfl⟩ := e
  exact ⟨ao, C.length, rfl, Nat.le_refl _, by omega, fun h0 => h (by omega)⟩

/-- The law's boxes: the version, the stamp; the chain that was handed in, and its copy. -/
structure Tb (w : World) (x : Ve) (tp tl : Int) (vc vi : Value) (C : List Ve) (W : World) : Prop where
  box : VeAt W w.heap.size 0 x
  t : TsAt W (w.heap.size + 1) tp tl
  c : VsAt W.heap.size vc C W
  i : VsAt W.heap.size vi C W
  bel : Below w.heap.size w W
theorem Tb.on {w W W' : World} {x : Ve} {tp tl : Int} {vc vi : Value} {C : List Ve} (h : Tb w x tp tl vc vi C W) (hb : Below W.heap.size W W') : Tb w x tp tl vc vi C W' :=
  ⟨h.box.onn hb, h.t.on hb, h.c.onn hb, h.i.onn hb, h.bel.trans (hb.mono h.bel.size)⟩
theorem Tb.s7 {w W : World} {p l c n : Int} {s : List UInt8} {d : Bool} {tp tl : Int} {vc vi : Value} {C : List Ve} (h : Tb w ⟨p, l, c, n, s, d⟩ tp tl vc vi C W) : W.cell? ⟨w.heap.size, 0, none⟩ = some (.int .u64 p) ∧ W.cell? ⟨w.heap.size, 1, none⟩ = some (.int .u32 l) ∧ W.cell? ⟨w.heap.size, 2, none⟩ = some (.int .u32 c) ∧ W.cell? ⟨w.heap.size, 3, none⟩ = some (.int .u32 n) ∧ W.cell? ⟨w.heap.size, 4, none⟩ = some (.string (bs s)) ∧ W.cell? ⟨w.heap.size, 5, none⟩ = some (.bool d) ∧ Hid (Tb w ⟨p, l, c, n, s, d⟩ tp tl vc vi C W) :=
  ⟨h.box.six.1, h.box.six.2.1, h.box.six.2.2.1, h.box.six.2.2.2.1, h.box.six.2.2.2.2.1, h.box.six.2.2.2.2.2, h⟩
theorem Tb.s3 {w W : World} {x : Ve} {tp tl : Int} {vc vi : Value} {C : List Ve} (h : Tb w x tp tl vc vi C W) : W.cell? ⟨w.heap.size + 1, 0, none⟩ = some (.int .u64 tp) ∧ W.cell? ⟨w.heap.size + 1, 1, none⟩ = some (.int .u32 tl) ∧ Hid (Tb w x tp tl vc vi C W) := ⟨h.t.c0, h.t.c1, h⟩

set_option maxHeartbeats 8000000 in
set_option maxRecDepth 100000 in
theorem tells3 (B : Nat) (C : List Ve) (v : Value) (x : Ve) (tp tl : Int) (w : World) (hv : VsAt B v C w) (hB : B ≤ w.heap.size) :
    Calls Try.prog 3 #[v, veV x, .agg #[.int .u64 tp, .int .u32 tl]] w fun e w' => e = .returned (.bool true) ∧ Below w.heap.size w w' := by
  have hv' := hv
  obtain ⟨ao, cap, rfl, hlc, hcm, -⟩ := hv
  have H : Hid (VsAt w.heap.size (.slice ao C.length cap) C w) := hv'.le hB
  clear hv' hB hlc hcm
  have CPu : Hid (∀ W vc, VsAt W.heap.size vc C W → Calls Try.prog 8 #[vc, veV x] W fun e w' => ∃ v', e = .returned (.tuple #[v', .int .i64 (putF C x).2]) ∧ VsAt w'.heap.size v' (putF C x).1 w' ∧ Below W.heap.size W w') := fun W vc h => put8 _ C vc x W h (Nat.le_refl _)
  have CPr : Hid (∀ W vc, VsAt W.heap.size vc C W → Calls Try.prog 9 #[vc, veV x] W fun e w' => ∃ v', e = .returned (.tuple #[v', .int .i64 (putF C x).2]) ∧ VsAt w'.heap.size v' (putF C x).1 w' ∧ Below W.heap.size W w') := fun W vc h => refPut9 _ C vc x W h (Nat.le_refl _)
  have CAt : Hid (∀ W vc, VsAt W.heap.size vc C W → Calls Try.prog 10 #[vc, .agg #[.int .u64 tp, .int .u32 tl]] W fun e w' => e = .returned (.tuple #[veV ((atF C tp tl).getD dv), .bool (atF C tp tl).isSome]) ∧ Below W.heap.size W w') := fun W vc h => at10 _ C vc tp tl W h (Nat.le_refl _)
  have CAr : Hid (∀ W vc, VsAt W.heap.size vc C W → Calls Try.prog 11 #[vc, .agg #[.int .u64 tp, .int .u32 tl]] W fun e w' => e = .returned (.tuple #[veV ((atF C tp tl).getD dv), .bool (atF C tp tl).isSome]) ∧ Below W.heap.size W w') := fun W vc h => refAt11 _ C vc tp tl W h (Nat.le_refl _)
  have CRi : Hid (∀ W vc, VsAt W.heap.size vc C W → Calls Try.prog 12 #[vc] W fun e w' => e = .returned (.bool (rightC C)) ∧ Below W.heap.size W w') := fun W vc h => right12 _ C vc W h (Nat.le_refl _)
  have CRr : Hid (∀ W vc, VsAt W.heap.size vc C W → Calls Try.prog 13 #[vc] W fun e w' => e = .returned (.bool (rightC C)) ∧ Below W.heap.size W w') := fun W vc h => right13 _ C vc W h (Nat.le_refl _)
  have CNw : Hid (∀ W vc, VsAt W.heap.size vc C W → Calls Try.prog 15 #[vc] W fun e w' => e = .returned (.agg #[.int .u64 (newF C).1, .int .u32 (newF C).2]) ∧ Below W.heap.size W w') := fun W vc h => newest15 _ C vc W h (Nat.le_refl _)
  have CNr : Hid (∀ W vc, VsAt W.heap.size vc C W → Calls Try.prog 16 #[vc] W fun e w' => e = .returned (.agg #[.int .u64 (newF C).1, .int .u32 (newF C).2]) ∧ Below W.heap.size W w') := fun W vc h => refNewest16 _ C vc W h (Nat.le_refl _)
  have CPn : Hid (∀ W vc, VsAt W.heap.size vc C W → Calls Try.prog 17 #[vc, .agg #[.int .u64 tp, .int .u32 tl]] W fun e w' => ∃ v', e = .returned v' ∧ VsAt w'.heap.size v' (pruneF C tp tl) w' ∧ Below W.heap.size W w') := fun W vc h => prune17 _ C vc tp tl W h (Nat.le_refl _)
  have CPo : Hid (∀ W vc, VsAt W.heap.size vc C W → Calls Try.prog 18 #[vc, .agg #[.int .u64 tp, .int .u32 tl]] W fun e w' => ∃ v', e = .returned v' ∧ VsAt w'.heap.size v' (pruneF C tp tl) w' ∧ Below W.heap.size W w') := fun W vc h => refPrune18 _ C vc tp tl W h (Nat.le_refl _)
  have CSame : Hid (∀ W va vb D, VsAt W.heap.size va D W → VsAt W.heap.size vb D W → Calls Try.prog 14 #[va, vb] W fun e w' => e = .returned (.bool true) ∧ Below W.heap.size W w') := fun W va vb D h1 h2 => by
    have := same14 _ _ D D va vb W h1 h2
    rw [sameB_self] at this
    exact this
  generalize pruneF C tp tl = P at *
  generalize putF C x = y at *
  generalize newF C = nw at *
  generalize rightC C = r at *
  generalize (atF C tp tl).isSome = ok at *
  generalize (atF C tp tl).getD dv = a at *
  obtain ⟨D, er⟩ := y
  obtain ⟨np, nl⟩ := nw
  obtain ⟨ap, al', ac, an, av, ad⟩ := a
  dsimp only at *
  have HB0 : Hid (Below w.heap.size w ((w.alloc (.cells #[.int .u64 x.p, .int .u32 x.l, .int .u32 x.c, .int .u32 x.n, .string (bs x.val), .bool x.dead] 30)).alloc (.cells #[.int .u64 tp, .int .u32 tl] 26))) := ((Below.refl _ _).alloc (Nat.le_refl _) _).alloc (by simp) _
  have HV0 : Hid (VeAt ((w.alloc (.cells #[.int .u64 x.p, .int .u32 x.l, .int .u32 x.c, .int .u32 x.n, .string (bs x.val), .bool x.dead] 30)).alloc (.cells #[.int .u64 tp, .int .u32 tl] 26)) w.heap.size 0 x) := (ve_new w x.p x.l x.c x.n x.val x.dead).onn (al _)
  have HT0 : Hid (TsAt ((w.alloc (.cells #[.int .u64 x.p, .int .u32 x.l, .int .u32 x.c, .int .u32 x.n, .string (bs x.val), .bool x.dead] 30)).alloc (.cells #[.int .u64 tp, .int .u32 tl] 26)) (w.heap.size + 1) tp tl) := ⟨by simp [go_sem], by simp [go_sem]⟩
  obtain ⟨xp, xl, xc, xn, xs, xd⟩ := x
  unfold veV at *
  dsimp only at *
  go_enter Try.func3, Try.ntmps3
  go_wp2_with fail
  refine (awake7 _).mono ?_
  rintro e w1 ⟨rfl, hb1⟩
  have HB1 : Hid (Below w.heap.size w w1) := HB0.out.trans (hb1.mono HB0.out.size)
  have HV1 : Hid (VeAt w1 w.heap.size 0 ⟨xp, xl, xc, xn, xs, xd⟩) := HV0.out.onn hb1
  have HT1 : Hid (TsAt w1 (w.heap.size + 1) tp tl) := HT0.out.on hb1
  clear hb1 HB0 HV0 HT0
  by_cases h11 : (1100 : Int) < C.length
  · go_wp2_with fail
    go_ret
    exact ⟨rfl, HB1.out⟩
  have HOw : Hid (Ow w1.heap.size (.slice (some ⟨w1.heap.size, 0, none⟩) 0 0) [] w1.heap.size (.slice ao C.length cap) C (w1.alloc (.cells #[] 30))) := ⟨VsOwn.made _ w1 (Nat.le_refl _), ((H.out.on HB1.out).le HB1.out.size).on (al _), by simp, by simp; omega⟩
  go_wp2_with (at_builtin; refine wpList_append_ow HOw.out (.tmp 21) (.tmp 22) rfl rfl rfl rfl ?_)
  intro vi w2 hown hg2
  have hb2 : Below w1.heap.size w1 w2 := below_grown (al _) HOw.out.size HOw.out.own hg2
  have hvi := VsOwn.at hown
  obtain ⟨ia, ci, rfl, hil, him, -⟩ := id hvi
  have H2 : Hid (Tb w ⟨xp, xl, xc, xn, xs, xd⟩ tp tl (.slice ao C.length cap) (.slice ia C.length ci) C w2) := ⟨HV1.out.onn hb2, HT1.out.on hb2, ((H.out.on HB1.out).le HB1.out.size).onn hb2, hvi, HB1.out.trans (hb2.mono HB1.out.size)⟩
  clear hown hg2 hb2 hvi HOw HB1 HV1 HT1
  have hil' : (C.length : Int) ≤ ci := by have : C.length ≤ ci := hil; omega
  go_upto_region 6 with fail
  go_cut [8, 9] (fun s8 s9 wc => ∃ vp, vp = s8 ∧ s9 = .int .i64 er ∧ Tb w ⟨xp, xl, xc, xn, xs, xd⟩ tp tl (.slice ao C.length cap) (.slice ia C.length ci) C wc ∧ VsAt wc.heap.size vp D wc)
  case first =>
    go_region_held3 (fun w' => w'.cell? ⟨w.heap.size, 0, none⟩ = some (.int .u64 xp) ∧ w'.cell? ⟨w.heap.size, 1, none⟩ = some (.int .u32 xl) ∧ w'.cell? ⟨w.heap.size, 2, none⟩ = some (.int .u32 xc) ∧ w'.cell? ⟨w.heap.size, 3, none⟩ = some (.int .u32 xn) ∧ w'.cell? ⟨w.heap.size, 4, none⟩ = some (.string (bs xs)) ∧ w'.cell? ⟨w.heap.size, 5, none⟩ = some (.bool xd) ∧ Hid (Tb w ⟨xp, xl, xc, xn, xs, xd⟩ tp tl (.slice ao C.length cap) (.slice ia C.length ci) C w'))
      (first | exact (H2.out.on (Below.refl _ _).drew).s7 | exact H3.out.1.s7)
      (first
      | (go_at_call 8; refine (CPu.out _ _ (VsAt.clip (H2.out.on (Below.refl _ _).drew).i)).mono ?_; rintro e w3 ⟨v3, rfl, hv3, hb3⟩; have H3 : Hid (Tb w ⟨xp, xl, xc, xn, xs, xd⟩ tp tl (.slice ao C.length cap) (.slice ia C.length ci) C w3 ∧ VsAt w3.heap.size v3 D w3) := ⟨(H2.out.on (Below.refl _ _).drew).on hb3, hv3⟩; clear hv3 hb3))
    go_wp2_with fail
    go_meet
    exact ⟨_, rfl, by trivial, H3.out.1, H3.out.2⟩
  case rest =>
    obtain ⟨vp, rfl, rfl, hq, hp⟩ := hcut
    have H3 : Hid (Tb w ⟨xp, xl, xc, xn, xs, xd⟩ tp tl (.slice ao C.length cap) (.slice ia C.length ci) C wc) := hq
    have HP3 : Hid (VsAt wc.heap.size vp D wc) := hp
    clear hq hp H2 CPu
    obtain ⟨c0, c1, c2, c3, c4, c5⟩ := H3.out.box.six
    go_wp2_with fail
    refine (CPr.out _ _ H3.out.c).mono ?_
    rintro e w4 ⟨vq, rfl, hv4, hb4⟩
    have H4 : Hid (Tb w ⟨xp, xl, xc, xn, xs, xd⟩ tp tl (.slice ao C.length cap) (.slice ia C.length ci) C w4) := H3.out.on hb4
    have HP4 : Hid (VsAt w4.heap.size vp D w4) := VsAt.onn HP3.out hb4
    have HQ4 : Hid (VsAt w4.heap.size vq D w4) := hv4
    clear hv4 hb4 c0 c1 c2 c3 c4 c5 H3 HP3 CPr
    obtain ⟨t0, t1⟩ := H4.out.t
    go_wp2_with fail
    refine (CAt.out _ _ H4.out.i).mono ?_
    rintro e w5 ⟨rfl, hb5⟩
    have hb5' : Below w4.heap.size w4 (w5.alloc (.cells #[.int .u64 ap, .int .u32 al', .int .u32 ac, .int .u32 an, .string (bs av), .bool ad] 30)) := hb5.alloc hb5.size _
    have H5 : Hid (Tb w ⟨xp, xl, xc, xn, xs, xd⟩ tp tl (.slice ao C.length cap) (.slice ia C.length ci) C w5) := H4.out.on hb5
    have H5' : Hid (Tb w ⟨xp, xl, xc, xn, xs, xd⟩ tp tl (.slice ao C.length cap) (.slice ia C.length ci) C (w5.alloc (.cells #[.int .u64 ap, .int .u32 al', .int .u32 ac, .int .u32 an, .string (bs av), .bool ad] 30))) := H4.out.on hb5'
    have HP5 : Hid (VsAt (w5.alloc (.cells #[.int .u64 ap, .int .u32 al', .int .u32 ac, .int .u32 an, .string (bs av), .bool ad] 30)).heap.size vp D (w5.alloc (.cells #[.int .u64 ap, .int .u32 al', .int .u32 ac, .int .u32 an, .string (bs av), .bool ad] 30))) := VsAt.onn HP4.out hb5'
    have HQ5 : Hid (VsAt (w5.alloc (.cells #[.int .u64 ap, .int .u32 al', .int .u32 ac, .int .u32 an, .string (bs av), .bool ad] 30)).heap.size vq D (w5.alloc (.cells #[.int .u64 ap, .int .u32 al', .int .u32 ac, .int .u32 an, .string (bs av), .bool ad] 30))) := VsAt.onn HQ4.out hb5'
    have HA5 : Hid (VeAt (w5.alloc (.cells #[.int .u64 ap, .int .u32 al', .int .u32 ac, .int .u32 an, .string (bs av), .bool ad] 30)) w5.heap.size 0 ⟨ap, al', ac, an, av, ad⟩) := ve_new _ _ _ _ _ _ _
    clear hb5 hb5' t0 t1 H4 HP4 HQ4 CAt
    obtain ⟨t0, t1⟩ := H5.out.t
    have hlt : w.heap.size + 1 < w5.heap.size := World.block_lt_of_cell? _ _ t0
    go_wp2_with fail
    refine (CAr.out _ _ H5'.out.c).mono ?_
    rintro e w6 ⟨rfl, hb6⟩
    have hb6' : Below (w5.alloc (.cells #[.int .u64 ap, .int .u32 al', .int .u32 ac, .int .u32 an, .string (bs av), .bool ad] 30)).heap.size (w5.alloc (.cells #[.int .u64 ap, .int .u32 al', .int .u32 ac, .int .u32 an, .string (bs av), .bool ad] 30)) (w6.alloc (.cells #[.int .u64 ap, .int .u32 al', .int .u32 ac, .int .u32 an, .string (bs av), .bool ad] 30)) := hb6.alloc hb6.size _
    have H6 : Hid (Tb w ⟨xp, xl, xc, xn, xs, xd⟩ tp tl (.slice ao C.length cap) (.slice ia C.length ci) C (w6.alloc (.cells #[.int .u64 ap, .int .u32 al', .int .u32 ac, .int .u32 an, .string (bs av), .bool ad] 30))) := H5'.out.on hb6'
    have HP6 : Hid (VsAt (w6.alloc (.cells #[.int .u64 ap, .int .u32 al', .int .u32 ac, .int .u32 an, .string (bs av), .bool ad] 30)).heap.size vp D (w6.alloc (.cells #[.int .u64 ap, .int .u32 al', .int .u32 ac, .int .u32 an, .string (bs av), .bool ad] 30))) := VsAt.onn HP5.out hb6'
    have HQ6 : Hid (VsAt (w6.alloc (.cells #[.int .u64 ap, .int .u32 al', .int .u32 ac, .int .u32 an, .string (bs av), .bool ad] 30)).heap.size vq D (w6.alloc (.cells #[.int .u64 ap, .int .u32 al', .int .u32 ac, .int .u32 an, .string (bs av), .bool ad] 30))) := VsAt.onn HQ5.out hb6'
    have HA6 : Hid (VeAt (w6.alloc (.cells #[.int .u64 ap, .int .u32 al', .int .u32 ac, .int .u32 an, .string (bs av), .bool ad] 30)) w5.heap.size 0 ⟨ap, al', ac, an, av, ad⟩) := HA5.out.onn hb6'
    have HZ6 : Hid (VeAt (w6.alloc (.cells #[.int .u64 ap, .int .u32 al', .int .u32 ac, .int .u32 an, .string (bs av), .bool ad] 30)) w6.heap.size 0 ⟨ap, al', ac, an, av, ad⟩) := ve_new _ _ _ _ _ _ _
    clear hb6 hb6' t0 t1 hlt H5 H5' HP5 HQ5 HA5 CAr
    generalize w5.heap.size = Z1 at *
    go_wp2_with fail
    refine (CRi.out _ _ H6.out.i).mono ?_
    rintro e w7 ⟨rfl, hb7⟩
    have H7 : Hid (Tb w ⟨xp, xl, xc, xn, xs, xd⟩ tp tl (.slice ao C.length cap) (.slice ia C.length ci) C w7) := H6.out.on hb7
    have HP7 : Hid (VsAt w7.heap.size vp D w7) := VsAt.onn HP6.out hb7
    have HQ7 : Hid (VsAt w7.heap.size vq D w7) := VsAt.onn HQ6.out hb7
    have HA7 : Hid (VeAt w7 Z1 0 ⟨ap, al', ac, an, av, ad⟩) := HA6.out.onn hb7
    have HZ7 : Hid (VeAt w7 w6.heap.size 0 ⟨ap, al', ac, an, av, ad⟩) := HZ6.out.onn hb7
    clear hb7 H6 HP6 HQ6 HA6 HZ6 CRi
    generalize w6.heap.size = Z2 at *
    go_wp2_with fail
    refine (CRr.out _ _ H7.out.c).mono ?_
    rintro e w8 ⟨rfl, hb8⟩
    have H8 : Hid (Tb w ⟨xp, xl, xc, xn, xs, xd⟩ tp tl (.slice ao C.length cap) (.slice ia C.length ci) C w8) := H7.out.on hb8
    have HP8 : Hid (VsAt w8.heap.size vp D w8) := VsAt.onn HP7.out hb8
    have HQ8 : Hid (VsAt w8.heap.size vq D w8) := VsAt.onn HQ7.out hb8
    have HA8 : Hid (VeAt w8 Z1 0 ⟨ap, al', ac, an, av, ad⟩) := HA7.out.onn hb8
    have HZ8 : Hid (VeAt w8 Z2 0 ⟨ap, al', ac, an, av, ad⟩) := HZ7.out.onn hb8
    clear hb8 H7 HP7 HQ7 HA7 HZ7 CRr
    go_wp2_with fail
    refine (CSame.out _ _ _ _ HP8.out HQ8.out).mono ?_
    rintro e w9 ⟨rfl, hb9⟩
    have H9 : Hid (Tb w ⟨xp, xl, xc, xn, xs, xd⟩ tp tl (.slice ao C.length cap) (.slice ia C.length ci) C w9) := H8.out.on hb9
    obtain ⟨a0, a1, a2, a3, a4, a5⟩ := (HA8.out.onn hb9).six
    obtain ⟨z0, z1, z2, z3, z4, z5⟩ := (HZ8.out.onn hb9).six
    have hrun := run_neq30 ap al' ac an av ad ap al' ac an av ad
    rw [eqV_iff.2 rfl] at hrun
    clear hb9 H8 HP8 HQ8 HA8 HZ8
    go_upto_region 12 with fail
    clear a0 a1 a2 a3 a4 a5 z0 z1 z2 z3 z4 z5 hrun
    have hrun := run_eql26 np nl np nl
    have hq : eqB np nl np nl = true := by simp [eqB]
    rw [hq] at hrun
    clear hq
    go_region_held3 (fun w' => w'.cell? ⟨w.heap.size + 1, 0, none⟩ = some (.int .u64 tp) ∧ w'.cell? ⟨w.heap.size + 1, 1, none⟩ = some (.int .u32 tl) ∧ Hid (Tb w ⟨xp, xl, xc, xn, xs, xd⟩ tp tl (.slice ao C.length cap) (.slice ia C.length ci) C w'))
      (first | exact (H9.out.on (Below.refl _ _).drew).s3 | exact H10.out.s3 | exact H11.out.s3 | exact H12.out.1.s3 | exact H13.out.1.s3 | exact H14.out.s3 | exact H15.out.s3)
      (first
      | (go_at_call 15; refine (CNw.out _ _ (H9.out.on (Below.refl _ _).drew).i).mono ?_; rintro e w10 ⟨rfl, hb10⟩; have H10 : Hid (Tb w ⟨xp, xl, xc, xn, xs, xd⟩ tp tl (.slice ao C.length cap) (.slice ia C.length ci) C w10) := (H9.out.on (Below.refl _ _).drew).on hb10; clear hb10)
      | (go_at_call 16; refine (CNr.out _ _ H10.out.c).mono ?_; rintro e w11 ⟨rfl, hb11⟩; have H11 : Hid (Tb w ⟨xp, xl, xc, xn, xs, xd⟩ tp tl (.slice ao C.length cap) (.slice ia C.length ci) C w11) := H10.out.on hb11; clear hb11)
      | (go_at_call 17; refine (CPn.out _ _ H11.out.i).mono ?_; rintro e w12 ⟨v12, rfl, hv12, hb12⟩; have H12 : Hid (Tb w ⟨xp, xl, xc, xn, xs, xd⟩ tp tl (.slice ao C.length cap) (.slice ia C.length ci) C w12 ∧ VsAt w12.heap.size v12 P w12) := ⟨H11.out.on hb12, hv12⟩; clear hb12 hv12)
      | (go_at_call 18; refine (CPo.out _ _ H12.out.1.c).mono ?_; rintro e w13 ⟨v13, rfl, hv13, hb13⟩; have H13 : Hid (Tb w ⟨xp, xl, xc, xn, xs, xd⟩ tp tl (.slice ao C.length cap) (.slice ia C.length ci) C w13 ∧ VsAt w13.heap.size v12 P w13 ∧ VsAt w13.heap.size v13 P w13) := ⟨H12.out.1.on hb13, VsAt.onn H12.out.2 hb13, hv13⟩; clear hb13 hv13)
      | (go_at_call_of 14 (Value.slice ia C.length ci); refine (CSame.out _ _ _ C H14.out.i H14.out.c).mono ?_; rintro e w15 ⟨rfl, hb15⟩; have H15 : Hid (Tb w ⟨xp, xl, xc, xn, xs, xd⟩ tp tl (.slice ao C.length cap) (.slice ia C.length ci) C w15) := H14.out.on hb15; clear hb15)
      | (go_at_call 14; refine (CSame.out _ _ _ P H13.out.2.1 H13.out.2.2).mono ?_; rintro e w14 ⟨rfl, hb14⟩; have H14 : Hid (Tb w ⟨xp, xl, xc, xn, xs, xd⟩ tp tl (.slice ao C.length cap) (.slice ia C.length ci) C w14) := H13.out.1.on hb14; clear hb14))
    go_wp2_with fail
    go_ret
    exact ⟨rfl, H15.out.bel⟩
end Go.Proofs.Ytfnmjfckgdhkeaa
