import Derived.Test.YtkdkgdollmmcnaaGreatWbx
set_option maxHeartbeats 4000000
set_option maxRecDepth 100000
set_option linter.unusedVariables false
set_option linter.unusedSimpArgs false
namespace Go.Proofs.YtkdkgdollmmcnaaGreat
open Go.RowKit Go.Sort Go.Shelf
def LxAt (B : Nat) (x : Lx) (W : World) : Prop := x.l.an = false ∧ x.l.r = zR ∧ x.vw.oneCell' = true ∧ x.vs.oneCell' = true ∧ QAt B x.l.q x.vw x.vs W
theorem same67 {x y : Lx} {W : World} (hx : LxAt W.heap.size x W) (hy : LxAt W.heap.size y W) (e : x.l = y.l) : Calls Tryz.prog 67 #[.agg (lxc x).toArray, .agg (lxc y).toArray] W fun e w' => e = .returned (.bool true) ∧ Below W.heap.size W w' := by
 obtain ⟨h1, h2, -, -, h3⟩ := hx
 obtain ⟨g1, g2, -, -, g3⟩ := hy
 rw [lx_lfc h1 h2, lx_lfc g1 g2]
 obtain ⟨xl, xw, xs⟩ := x
 obtain ⟨yl, yw, ys⟩ := y
 dsimp only at *
 subst e
 obtain ⟨wa, wc, rfl, -⟩ := h3.ws
 obtain ⟨sa, sc, rfl, -⟩ := h3.sk
 obtain ⟨xa, xc, rfl, -⟩ := g3.ws
 obtain ⟨ta, tc, rfl, -⟩ := g3.sk
 have hr : xl.r.ps = [] := by rw [show xl.r = zR from h2]; rfl
 have hp : PsAt W.heap.size (.slice none xl.r.ps.length 0) xl.r.ps W := by rw [hr]; exact RwAt.nil _ _ _
 have k := same11 xl xl wa sa none xa ta none wc sc 0 xc tc 0 W ⟨h3, hp⟩ ⟨g3, hp⟩
 rw [show sameL xl xl = true from sameL_iff.2 rfl] at k
 have e0 : (Value.slice none xl.r.ps.length 0) = sy := by rw [hr]; rfl
 rw [e0] at k
 exact k
theorem letters24 (L1 L2 : List Lx) (a1 a2 : Option Addr) (c1 c2 : Nat) (w : World) (h1 : RwAt w.heap.size 31 (.slice a1 L1.length c1) L1.length (rowC lxc L1) w) (h2 : RwAt w.heap.size 31 (.slice a2 L2.length c2) L2.length (rowC lxc L2) w) (e1 : ∀ x ∈ L1, LxAt w.heap.size x w) (e2 : ∀ x ∈ L2, LxAt w.heap.size x w) (he : L1.map Lx.l = L2.map Lx.l) (hL : L1.length ≤ 1000000) : Calls Tryz.prog 24 #[.slice a1 L1.length c1, .slice a2 L2.length c2] w fun e w' => e = .returned (.bool true) ∧ Below w.heap.size w w' := by
 have hl : L2.length = L1.length := by have := congrArg List.length he; simpa using this.symm
 have HH : Hid (RwAt w.heap.size 31 (.slice a1 L1.length c1) L1.length (rowC lxc L1) w ∧ RwAt w.heap.size 31 (.slice a2 L2.length c2) L2.length (rowC lxc L2) w ∧ (∀ x ∈ L1, LxAt w.heap.size x w) ∧ (∀ x ∈ L2, LxAt w.heap.size x w) ∧ L1.map Lx.l = L2.map Lx.l ∧ L2.length = L1.length ∧ L1.length ≤ 1000000) := ⟨h1, h2, e1, e2, he, hl, hL⟩
 have hl9 : (L1.length : Int) < 9223372036854775808 := by omega
 have hne : ((L1.length : Int) != (L2.length : Int)) = false := by rw [hl]; simp
 clear h1 h2 e1 e2 he hL
 rw [hl] at hne ⊢
 go_enter Tryz.func24, Tryz.ntmps24
 go_wp2_with fail
 go_loopw [13] (fun s wr => ∃ i : Nat, s = iw (i : Int) ∧ i ≤ L1.length ∧ Hid (Below w.heap.size w wr)) (fun s _ => L1.length - (intOf s).toNat)
 case atStart => exact ⟨0, rfl, Nat.zero_le _, Below.refl _ _⟩
 case round =>
  obtain ⟨i, rfl, hi, HB⟩ := hrel
  by_cases hlt : i < L1.length
  ·have hlt' : (i : Int) < (L1.length : Int) := by omega
   obtain ⟨b1, o1, rfl, r1⟩ := rw_range lxc_len dlx (by decide) (HH.out.1.on HB.out) hlt
   obtain ⟨b2, o2, rfl, r2⟩ := rw_range lxc_len dlx (by decide) (HH.out.2.1.on HB.out) (show i < L2.length by omega)
   obtain ⟨x, hx⟩ := xj (L1.getD i dlx)
   obtain ⟨y, hy⟩ := xj (L2.getD i dlx)
   rw [hx] at r1
   rw [hy] at r2
   have hxy : x.l = y.l := by
    have k1 : (L1.map Lx.l)[i]? = (L2.map Lx.l)[i]? := by rw [HH.out.2.2.2.2.1]
    rw [List.getElem?_map, List.getElem?_map, List.getElem?_eq_getElem hlt, List.getElem?_eq_getElem (show i < L2.length by omega)] at k1
    rw [← hx, ← hy, List.getD_eq_getElem?_getD, List.getD_eq_getElem?_getD, List.getElem?_eq_getElem hlt, List.getElem?_eq_getElem (show i < L2.length by omega)]
    injection k1
   have C67 : Hid (∀ W, Below w.heap.size w W → Calls Tryz.prog 67 #[.agg (lxc x).toArray, .agg (lxc y).toArray] W fun e w' => e = .returned (.bool true) ∧ Below w.heap.size w w') := fun W hb => by
    have k1 : x ∈ L1 := by rw [← hx]; exact getD_mem hlt
    have k2 : y ∈ L2 := by rw [← hy]; exact getD_mem (show i < L2.length by omega)
    have q1 := HH.out.2.2.1 x k1
    have q2 := HH.out.2.2.2.1 y k2
    exact (same67 (W := W) ⟨q1.1, q1.2.1, q1.2.2.1, q1.2.2.2.1, (q1.2.2.2.2.on hb).le hb.size⟩ ⟨q2.1, q2.2.1, q2.2.2.1, q2.2.2.2.1, (q2.2.2.2.2.on hb).le hb.size⟩ hxy).mono fun e w' ⟨g1, g2⟩ => ⟨g1, hb.trans (g2.mono hb.size)⟩
   have HR : Hid (wr.drew.rangeAt b1 (o1 + i * 31) (lxc x) ∧ wr.drew.rangeAt b2 (o2 + i * 31) (lxc y)) := ⟨r1, r2⟩
   have HX : Hid (∀ W, Below w.heap.size w W → W.rangeAt b1 (o1 + i * 31) (lxc x) ∧ W.rangeAt b2 (o2 + i * 31) (lxc y)) := fun W hb => by
    obtain ⟨p1, q1, z1, k1⟩ := rw_range lxc_len dlx (by decide) (HH.out.1.on hb) hlt
    obtain ⟨p2, q2, z2, k2⟩ := rw_range lxc_len dlx (by decide) (HH.out.2.1.on hb) (show i < L2.length by omega)
    injection z1 with z1
    injection z1 with z1 z1' _
    injection z2 with z2
    injection z2 with z2 z2' _
    subst z1 z1' z2 z2'
    rw [hx] at k1
    rw [hy] at k2
    exact ⟨k1, k2⟩
   have HN : Hid (i < L1.length ∧ L1.length ≤ 1000000 ∧ L2.length = L1.length) := ⟨hlt, HH.out.2.2.2.2.2.2, hl⟩
   have hi1 : (i : Int) + 1 < 9223372036854775808 := by omega
   clear r1 r2 hx hy hxy
   go_upto_region 6 with fail
   refine wp_region_held_drew (S := (fun W => W.rangeAt b1 (o1 + i * 31) (lxc x) ∧ W.rangeAt b2 (o2 + i * 31) (lxc y))) (by kernel_rfl) HR.out (fun hHeld => ?_)
   refine tq 0 ?_
   refine tq 1 ?_
   refine tq 4 ?_
   refine tq 5 ?_
   refine tq 2 ?_
   refine tq 6 ?_
   refine tl 3 55 b1 (o1 + i * 31) (lxc x) (fun W hW => hW.1) Tryz.underlying55 ?_
   refine tl 7 55 b2 (o2 + i * 31) (lxc y) (fun W hW => hW.2) Tryz.underlying55 ?_
   refine rd 8 (fun K hK => ?_)
   go_simp
   refine (C67.out _ HB.out.drew).mono ?_
   rintro e w4 ⟨rfl, h4⟩
   have F : Hid (Below w.heap.size w w4) := h4
   have HR4 : Hid (w4.rangeAt b1 (o1 + i * 31) (lxc x) ∧ w4.rangeAt b2 (o2 + i * 31) (lxc y)) := HX.out w4 h4
   clear h4 C67
   go_wp2_with fail
   refine kj hK HR4.out (fun hHeld => ?_)
   clear hK K
   refine tq 9 ?_
   refine wpAnyH_done (by kernel_rfl) ?_ _
   clear hHeld
   go_wp2_with fail
   go_roundw
   case rel => exact ⟨i + 1, by go_num, HN.out.1, F⟩
   case measure => have := HN.out; simp [intOf]; omega
  ·have hge : ¬ (i : Int) < (L1.length : Int) := by omega
   go_wp2_with fail
   go_ret
   exact ⟨rfl, HB.out⟩
theorem wpList_load_row_g {P : Program} {ops : Array Oper} {rest : List Oper} {o : Oper} {a : Act} {Q : Exit → Act → World → Prop} {W : World} (hw : Region.wanted o (yielded ops a.tmps) = true) (ty : TypeId) (x : Operand) (ho : o.op = .load ty x)
  (g : Nat) (hx : a.eval x = .pointer (some ⟨g, 0, none⟩)) (t : TypeId) (cs : Array Value) (fr : Nat × Nat) (d : TypeDesc) (hg : W.heap[g]? = some (.cells cs t fr))
  (hu : P.underlying ty = some d) (hd : (match d with | .struct _ | .array _ _ => true | _ => false) = true) (hi : (P.info? ty).map (·.size) = some cs.size)
  (h : wpList P ops Q rest (a.put o.dst (.agg cs)) W) : wpList P ops Q (o :: rest) a W :=
 wpList_step fun K hK => by
  rw [if_pos hw]
  exact wp_load_row ty x ho g hx t cs fr d hg hu hd hi (hK _ _ h)
theorem hearR_twice {X : Ss} {l : Le} (hI : Inc X) (hr : l.r.k ≠ 0) : hearR { (hearR X l).1 with out := [] } l = ({ (hearR X l).1 with out := [] }, zS) := by
 unfold hearR
 by_cases h : rightL l = true
 ·rw [if_pos h, if_pos h]
  exact hear_twice bt X l hI hr []
 ·rw [if_neg h, if_neg h]
theorem heard_one {a : Ac} (h : a.one) (n : Nat) : (heardW a n).oneCell' = true ∧ (heardS a n).oneCell' = true ∧ (heardP a n).oneCell' = true := by
 unfold heardW heardS heardP
 by_cases g : a.what = 4 ∨ n = 0
 ·rw [if_pos g, if_pos g, if_pos g]
  exact ⟨h.2.1, h.2.2.1, h.2.2.2⟩
 ·rw [if_neg g, if_neg g, if_neg g]
  exact ⟨rfl, rfl, h.1⟩
structure Ro6 (w : World) (pa pb i : Nat) (X : Ss) (vS : Value) (S : List Lx) (W : World) : Prop where
 tw : Duo w pa pb X X (18 * i) (18 * i) [] vS S [] [] W
 out : X.out = []
 sl : S.length ≤ 2000 * i
 so : ∀ x ∈ S, x.vw.oneCell' = true ∧ x.vs.oneCell' = true
structure Mi6 (w : World) (pa pb ba b1 b2 i : Nat) (a : Ac) (X : Ss) (r : Rs) (v1 v2 : Value) (ps : List Pr) (vS : Value) (S : List Lx) (W : World) : Prop where
 tw : Duo w pa pb X X (18 * i + 18) (18 * i + 18) [(b2, (rsc r v2).toArray, 41), (b1, (rsc r v1).toArray, 41), (ba, (acc a).toArray, 57)] vS S [] [(v2, ps), (v1, ps)] W
 o1 : v1.oneCell' = true
 o2 : v2.oneCell' = true
 out : X.out.length ≤ 2000
theorem Ro6.of {w W W' : World} {pa pb i ka kb : Nat} {X Xa Xb : Ss} {Lb : List Bo} {vS v' vo : Value} {S L : List Lx} {Hd : List (Value × List Lx)} {Pd : List (Value × List Pr)} (h : Duo w pa pb Xa Xb ka kb Lb vS S Hd Pd W) (ea : Xa = X) (eb : Xb = X) (ha : ka ≤ 18 * (i + 1)) (hb : kb ≤ 18 * (i + 1)) (eo : X.out = []) (hL : (vo, L) ∈ Hd) (hl : L.length ≤ 2000) (hs : S.length ≤ 2000 * i) (so : ∀ x ∈ S, x.vw.oneCell' = true ∧ x.vs.oneCell' = true)
  (ho : W'.ownsRow w.heap.size 55 31 v' (S.length + L.length) (rowC lxc S ++ rowC lxc L)) (hg : W.grownBy W' vS.ownBlock) (hat : v'.ownBlock = vS.ownBlock ∨ v'.ownBlock = some W.heap.size) : Ro6 w pa pb (i + 1) X v' (S ++ L) W' := by
 subst ea eb
 refine ⟨((((h.app ho hg hat).less (Lb' := []) (fun p e => by cases e)).drop (Hd' := []) (Pd' := []) (fun q e => by cases e) (fun q e => by cases e)).le ha hb), eo, by rw [List.length_append]; omega, fun x hx => ?_⟩
 rcases List.mem_append.1 hx with hx | hx
 ·exact so x hx
 ·have k := (h.row hL).2 x hx
  exact ⟨k.2.2.1, k.2.2.2.1⟩
theorem Duo.ow {w W : World} {pa pb ka kb : Nat} {Xa Xb : Ss} {Lb : List Bo} {vS vo : Value} {S L : List Lx} {Hd : List (Value × List Lx)} {Pd : List (Value × List Pr)} (h : Duo w pa pb Xa Xb ka kb Lb vS S Hd Pd W) (hL : (vo, L) ∈ Hd) (hl : S.length + L.length ≤ 1048576) : Ow w.heap.size 55 31 vS S.length (rowC lxc S) W.heap.size vo L.length (rowC lxc L) W :=
 ⟨h.own, rw_own (h.row hL).1, row_one55 (fun x hx => ⟨((h.row hL).2 x hx).2.2.1, ((h.row hL).2 x hx).2.2.2.1⟩), h.below.size, hl⟩
end Go.Proofs.YtkdkgdollmmcnaaGreat
