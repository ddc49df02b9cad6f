import Derived.Great.BuildSlice
import Derived.Test.YtkdkgdollmmcnaaGreatWca
set_option maxHeartbeats 4000000
set_option maxRecDepth 100000
set_option linter.unusedVariables false
set_option linter.unusedSimpArgs false
namespace Go.Proofs.YtkdkgdollmmcnaaGreat
open Go.RowKit Go.Sort Go.Shelf
structure Kp (X D : Ss) : Prop where
 cl : D.cl = X.cl
 nsh : D.nsh = X.nsh
 up : leT (startF D) (nowF D)
theorem Cm.kp {X : Ss} {D : Ss × Rs} (c : Cm X D) (h : leT (startF X) (nowF X)) : Kp X D.1 := ⟨c.2.2.2.1, c.2.2.2.2.1, by rw [c.2.1]; exact h.trans c.1⟩
theorem do_kp (X : Ss) (ph : Nat) (op : Op) (h : leT (startF X) (nowF X)) : Kp X (doF bt X ph op).1 := by
 by_cases g : op.k = 1 ∧ (doF bt X ph op).2.k = 1
 ·have t := do_begin bt bt_ticks X ph op g.1 g.2
  exact ⟨t.2.2.2.2.2.2.2.2.1, t.2.2.2.2.2.2.2.2.2, by rw [t.2.1, t.2.2.1]; exact leT.refl _⟩
 ·exact (do_cm bt X ph op h g).kp h
theorem hearR_ol (X : Ss) (l : Le) : Ol X (hearR X l).1 := by
 unfold hearR
 split
 ·exact hear_ol bt X l
 ·exact Ol.refl X
theorem Ol.outs {X D : Ss} {la : Nat} (o : Ol X D) (e : X.out = []) (h : la ≤ X.sq) : (D.out.Pairwise (fun a b => a.sq < b.sq) ∧ ∀ l ∈ D.out, la < l.sq) ∧ (∀ l ∈ D.out, l.sq ≤ D.sq) ∧ la ≤ D.sq := by
 obtain ⟨h1, L, h2, h3, h4⟩ := o
 rw [e, List.nil_append] at h2
 rw [h2]
 exact ⟨⟨h3, fun l hl => Nat.lt_of_le_of_lt h (h4 l hl).1⟩, fun l hl => (h4 l hl).2, Nat.le_trans h h1⟩
theorem again_outs {X : Ss} (hi : Inc X) (e : X.out = []) : ∀ l ∈ (againF X).out, l.sq ≤ (againF X).sq := fun l hl => by
 have hl' : l ∈ X.out ++ X.asks.map (letF X) := hl
 rw [e, List.nil_append, List.mem_map] at hl'
 obtain ⟨a, ha, rfl⟩ := hl'
 exact hi.2 a ha
structure Ro4 (w : World) (sb c n i la : Nat) (X : Ss) (vS : Value) (S : List Lx) (W : World) : Prop where
 se : Se w sb X (9 * i) [] vS S W
 out : X.out = []
 cl : X.cl = c
 nsh : X.nsh = n
 up : leT (startF X) (nowF X)
 la : la ≤ X.sq
 sl : S.length ≤ 1000 * i
 so : ∀ x ∈ S, x.vw.oneCell' = true ∧ x.vs.oneCell' = true
structure Mi4 (w : World) (sb ba c n i la : Nat) (a : Ac) (X : Ss) (vS : Value) (S : List Lx) (W : World) : Prop where
 se : Se w sb X (9 * i + 9) [(ba, (acc a).toArray, 57)] vS S W
 out : X.out.length ≤ 1000
 cl : X.cl = c
 nsh : X.nsh = n
 up : leT (startF X) (nowF X)
 lt : a.what = 2 ∨ X.out.Pairwise (fun a b => a.sq < b.sq) ∧ ∀ l ∈ X.out, la < l.sq
 hi : ∀ l ∈ X.out, l.sq ≤ X.sq
 la : la ≤ X.sq
theorem Ro4.mi {w : World} {sb ba c n i la : Nat} {a : Ac} {X D : Ss} {vS : Value} {S : List Lx} {W W' : World} (R : Ro4 w sb c n i la X vS S W) (se : Se w sb D (9 * i + 9) [(ba, (acc a).toArray, 57)] vS S W') (o : Ol X D) (k : Kp X D) (g : D.out.length ≤ 1000) : Mi4 w sb ba c n i la a D vS S W' :=
 have t := o.outs R.out R.la
 ⟨se, g, k.cl.trans R.cl, k.nsh.trans R.nsh, k.up, .inr t.1, t.2.1, t.2.2⟩
structure In4 (w : World) (sb ba i la : Nat) (a : Ac) (X : Ss) (vo : Value) (L : List Lx) (j : Nat) (vS : Value) (S : List Lx) (W : World) : Prop where
 se : Se w sb X (9 * i + 9) [(ba, (acc a).toArray, 57)] vS S W
 lo : Lo4 vo vS L W
 lt : a.what = 2 ∨ ∀ m, j ≤ m → m < L.length → la < (L.getD m dlx).l.sq
 la : la ≤ X.sq
 sl : S.length ≤ 1000 * i + j
 so : ∀ x ∈ S, x.vw.oneCell' = true ∧ x.vs.oneCell' = true
structure Al4 (c n : Nat) (a : Ac) (X : Ss) (L : List Lx) : Prop where
 len : L.length ≤ 1000
 lg : ∀ x ∈ L, Lg bt c n x.l ∧ x.l.sq ≤ X.sq
 pw : a.what = 2 ∨ ∀ m1 m2, m1 < m2 → m2 < L.length → (L.getD m1 dlx).l.sq < (L.getD m2 dlx).l.sq
theorem Mi4.go {w : World} {sb ba c n i la : Nat} {a : Ac} {X : Ss} {vo vS : Value} {S L : List Lx} {W W' : World} (M : Mi4 w sb ba c n i la a X vS S W) (R : S.length ≤ 1000 * i ∧ ∀ x ∈ S, x.vw.oneCell' = true ∧ x.vs.oneCell' = true) (se : Se w sb { X with out := [] } (9 * i + 9) [(ba, (acc a).toArray, 57)] vS S W') (el : L.map Lx.l = X.out) (lo : Lo4 vo vS L W') :
  In4 w sb ba i la a { X with out := [] } vo L 0 vS S W' ∧ Al4 c n a { X with out := [] } L := by
 have hm : ∀ x ∈ L, x.l ∈ X.out := fun x hx => by rw [← el]; exact List.mem_map_of_mem hx
 have hg : ∀ m, m < L.length → (L.getD m dlx) ∈ L := fun m hm => getD_mem hm
 refine ⟨⟨se, lo, M.lt.imp id fun h m _ hl => h.2 _ (hm _ (hg m hl)), M.la, by have := R.1; omega, R.2⟩, by rw [← List.length_map (f := Lx.l), el]; exact M.out, fun x hx => ⟨?_, M.hi _ (hm x hx)⟩, M.lt.imp id fun h m1 m2 h1 h2 => ?_⟩
 ·have := M.se.gs.ou _ (hm x hx)
  rw [M.cl, M.nsh] at this
  exact this
 ·have p := h.1
  rw [← el] at p
  have p2 := List.pairwise_map.1 p
  have p3 := List.pairwise_iff_getElem.1 p2 m1 m2 (by omega) h2 h1
  rw [List.getD_eq_getElem?_getD, List.getD_eq_getElem?_getD, List.getElem?_eq_getElem h2, List.getElem?_eq_getElem (show m1 < L.length by omega)]
  exact p3
section
variable {w W W' : World} {sb ba c n i la j : Nat} {a : Ac} {X : Ss} {vo vS v' : Value} {L S : List Lx} {x : Lx}
theorem In4.on (h : In4 w sb ba i la a X vo L j vS S W) (hb : Below W.heap.size W W') : In4 w sb ba i la a X vo L j vS S W' := ⟨h.se.on hb, h.lo.on hb, h.lt, h.la, h.sl, h.so⟩
theorem In4.next (h : In4 w sb ba i la a X vo L j vS S W) (A : Al4 c n a X L) (hj : j < L.length) (hx : L.getD j dlx = x) (ho : W'.ownsRow w.heap.size 55 31 v' (S.length + 1) (rowC lxc S ++ lxc x)) (hg : W.grownBy W' vS.ownBlock) (hat : v'.ownBlock = vS.ownBlock ∨ v'.ownBlock = some W.heap.size) : In4 w sb ba i (max la x.l.sq) a X vo L (j + 1) v' (S ++ [x]) W' := by
 have hm : x ∈ L := by rw [← hx]; exact getD_mem hj
 refine ⟨h.se.app (L := [x]) (by simpa [rowC] using ho) hg hat, h.lo.app hg hat, ?_, Nat.max_le.2 ⟨h.la, (A.lg x hm).2⟩, by rw [List.length_append, List.length_singleton]; have := h.sl; omega, fun y hy => ?_⟩
 ·rcases h.lt with e | h1
  ·exact .inl e
  ·rcases A.pw with e | h2
   ·exact .inl e
   ·refine .inr fun m hm1 hm2 => Nat.max_lt.2 ⟨h1 m (by omega) hm2, ?_⟩
    have := h2 j m (by omega) hm2
    rw [hx] at this
    exact this
 ·rcases List.mem_append.1 hy with hy | hy
  ·exact h.so y hy
  ·rw [List.mem_singleton.1 hy]
   exact ⟨(h.lo.el x hm).2.2.1, (h.lo.el x hm).2.2.2.1⟩
theorem In4.done (h : In4 w sb ba i la a X vo L j vS S W) (hl : L.length ≤ 1000) (hj : j ≤ L.length) (k : X.out = [] ∧ X.cl = c ∧ X.nsh = n ∧ leT (startF X) (nowF X)) : Ro4 w sb c n (i + 1) la X vS S W :=
 ⟨(h.se.less (Lb' := []) (fun _ e => by cases e)).le (by omega), k.1, k.2.1, k.2.2.1, k.2.2.2, h.la, by have := h.sl; omega, h.so⟩
end
theorem sends4 (c n : Nat) (hc : c < 4) (hn : 1 ≤ n ∧ n ≤ 8) (acts : List Ac) (ao : Option Addr) (cap : Nat) (w : World) (hA : RwAt w.heap.size 53 (.slice ao acts.length cap) acts.length (rowC acc acts) w) (hO : ∀ a ∈ acts, AcOk w a) : Calls Tryz.prog 4 #[iw (c : Int), iw (n : Int), .slice ao acts.length cap] w fun e w' => e = .returned (.bool true) ∧ Below w.heap.size w w' := by
 have HA : Hid _ := hA
 have HO : Hid (∀ a ∈ acts, AcOk w a) := hO
 have HCN : Hid (c < 4 ∧ 1 ≤ n ∧ n ≤ 8) := ⟨hc, hn⟩
 have hlen : (acts.length : Int) < 9223372036854775808 := by
  obtain ⟨ao', cap', e, -, h2, h3, -⟩ := hA
  omega
 have C7 : Hid (1 = 1 → _) := fun _ => awake7 w
 clear hA hO
 go_enter Tryz.func4, Tryz.ntmps4
 go_wp2_with fail
 refine (C7.out (by trivial)).mono ?_
 rintro e w1 ⟨rfl, h1⟩
 have C8 : Hid (1 = 1 → _) := fun _ => Se.new (w := w) (w1 := w1) c n hc hn h1
 clear C7 h1 hc hn
 go_wp2_with fail
 refine (C8.out (by trivial)).mono ?_
 rintro e w2 ⟨sb, rfl, h2⟩
 have R0 : Hid (Ro4 w sb c n 0 0 (Ss.new c n) sy [] w2) := ⟨h2, rfl, rfl, rfl, leT.refl _, Nat.zero_le _, Nat.zero_le _, fun x hx => by cases hx⟩
 clear h2 C8
 go_wp2_with fail
 go_loopw [9, 10, 33] (fun s9 s10 s33 wq => ∃ (i la : Nat) (X : Ss) (S : List Lx), s33 = iw (i : Int) ∧ s10 = uu la ∧ i ≤ acts.length ∧ i ≤ 80 ∧ Hid (Ro4 w sb c n i la X s9 S wq)) (fun _ _ s33 _ => acts.length - (intOf s33).toNat)
 case atStart => exact ⟨0, 0, _, [], rfl, rfl, Nat.zero_le _, Nat.zero_le _, R0⟩
 case round =>
  obtain ⟨i, la, X, S, rfl, rfl, hi, hi80, hR⟩ := hrel
  have R : Hid (Ro4 w sb c n i la X u9 S wr) := hR
  clear hR R0
  obtain ⟨sa, sc, hu5, -⟩ := rw_own R.out.se.own
  subst hu5
  by_cases hlt : i < acts.length
  ·have hlt' : (i : Int) < (acts.length : Int) := by omega
   obtain ⟨b0, off, rfl, hrng⟩ := acts_at HA.out R.out.se.below hlt
   have hAc := HO.out _ (getD_mem (d := dac) hlt)
   obtain ⟨a, ha⟩ := xj (acts.getD i dac)
   rw [ha] at hrng hAc
   have HAc : Hid (AcOk w a) := hAc
   have ER : Hid (wr.rangeAt b0 (off + i * 53) (acc a)) := hrng
   have hall : Hid ((acc a).toArray.all (·.oneCell') = true) := all_oneCell_toArray (acc_one hAc.one)
   clear hrng hAc ha
   have S9 : Hid (Se w sb X (9 * i) [(wr.heap.size, (acc a).toArray, 57)] (.slice sa S.length sc) S (wr.alloc (.cells (acc a).toArray 57))) := R.out.se.box _ 57 (by decide)
   obtain ⟨W9, hW9⟩ := xj (wr.alloc (.cells (acc a).toArray 57))
   rw [hW9] at S9
   by_cases h80 : i = 80
   ·have h80' : ((i : Int) == 80) = true := by rw [h80]; rfl
    clear h80
    go_wp2_with (first
     | (refine wpList_load_mid rfl 57 _ rfl b0 (off + i * 53) rfl (acc a) _ ER.out Tryz.underlying57 rfl (by kernel_rfl) ?_)
     | (refine wpList_store_row rfl 57 _ _ rfl wr.heap.size (acc a).toArray rfl rfl 57 _ (heap_alloc_new wr _) (by kernel_rfl) rfl hall.out ?_; rewrite [World.setRow_alloc_new, hW9]))
    go_ret
    exact ⟨rfl, S9.out.below⟩
   ·have h80' : ((i : Int) == 80) = false := beq_eq_false_iff_ne.2 (by omega)
    have hi79 : i < 80 := by omega
    clear h80
    go_upto_region 12 with (first
     | (refine wpList_load_mid rfl 57 _ rfl b0 (off + i * 53) rfl (acc a) _ ER.out Tryz.underlying57 rfl (by kernel_rfl) ?_)
     | (refine wpList_store_row rfl 57 _ _ rfl wr.heap.size (acc a).toArray rfl rfl 57 _ (heap_alloc_new wr _) (by kernel_rfl) rfl hall.out ?_; rewrite [World.setRow_alloc_new, hW9]))
    (try simp only [Act.put])
    clear hW9 ER hall
    obtain ⟨ba, hba⟩ := xj wr.heap.size
    rw [hba] at S9 ⊢
    clear hba
    have hcell0 : W9.cell? ⟨ba, 0, none⟩ = some (iw a.what) := block_cell (S9.out.bm (b := ba) (cs := (acc a).toArray) (ty := 57) (by simp)) rfl
    go_upto_block 2 with fail
    clear hcell0
    have hk9 : 9 * i ≤ 100000 := by omega
    have HO0 : Hid (X.out.length ≤ 100000) := by rw [R.out.out]; exact Nat.zero_le _
    go_cut [] (fun wc => ∃ (X1 : Ss), Hid (Mi4 w sb ba c n i la a X1 (.slice sa S.length sc) S wc))
    case first =>
     by_cases q0 : a.what = 0
     ·have q0b : (a.what == 0) = true := by rw [q0]; rfl
      clear q0
      have e2 : W9.cell? ⟨ba, 2, none⟩ = some (uw a.ph) := block_cell (S9.out.bm (b := ba) (cs := (acc a).toArray) (ty := 57) (by simp)) rfl
      have RO : Hid (W9.rangeAt ba 3 [iw a.op.k, sd a.op.key, sd a.op.val, sd a.op.to, iw a.op.lim]) := range_box (o := 3) (n := 5) (S9.out.bm (b := ba) (cs := (acc a).toArray) (ty := 57) (by simp))
      have C11 : Hid (1 = 1 → _) := fun _ => S9.out.do hk9 HO0.out a.ph a.op
      have fin : Hid (∀ W, Se w sb (doF bt X a.ph a.op).1 (9 * i + 9) [(ba, (acc a).toArray, 57)] (.slice sa S.length sc) S W → Mi4 w sb ba c n i la a (doF bt X a.ph a.op).1 (.slice sa S.length sc) S W) := fun W h => R.out.mi h (do_ol bt X a.ph a.op) (do_kp X a.ph a.op R.out.up) (by
       have := (do_gw (B := bt) (s := X) (R.out.se.gs.pl bt_good) R.out.se.gs.n.2 a.ph a.op).lo
       rw [R.out.out] at this
       exact Nat.le_trans this (by decide))
      generalize doF bt X a.ph a.op = D at *
      go_wp2_with (refine wpList_load_mid rfl 44 _ rfl ba 3 rfl [iw a.op.k, sd a.op.key, sd a.op.val, sd a.op.to, iw a.op.lim] _ RO.out Tryz.underlying44 rfl (by kernel_rfl) ?_)
      refine (C11.out (by trivial)).mono ?_
      rintro e w4 ⟨rfl, h4⟩
      have F : Hid _ := fin.out _ h4
      clear h4 C11 e2 RO fin
      go_wp2_with fail
      go_meet
      exact ⟨_, F⟩
     have q0b : (a.what == 0) = false := beq_eq_false_iff_ne.2 q0
     have HS : Hid ((∀ x ∈ S, x.vw.oneCell' = true ∧ x.vs.oneCell' = true) ∧ S.length ≤ 1000000) := ⟨R.out.so, by have := R.out.sl; omega⟩
     by_cases q14 : a.what = 1 ∨ a.what = 4
     ·have NB : Hid (W9.heap[ba]? = some (.cells (acc a).toArray 57 (0, 0))) := S9.out.bm (b := ba) (cs := (acc a).toArray) (ty := 57) (by simp)
      obtain ⟨l, hl⟩ := xj (heardF a S)
      obtain ⟨hw, hhw⟩ := xj (heardW a S.length)
      obtain ⟨hs, hhs⟩ := xj (heardS a S.length)
      obtain ⟨hp, hhp⟩ := xj (heardP a S.length)
      have C16 : Hid (1 = 1 → Calls Tryz.prog 16 #[.agg (acc a).toArray, (.slice sa S.length sc)] W9 fun e w' => e = .returned (.agg (lfc l hw hs hp).toArray) ∧ Below W9.heap.size W9 w') := fun _ => by
       have k := heard16 HAc.out S9.out.own HS.out.1 HS.out.2
       rw [hl, hhw, hhs, hhp] at k
       exact k
      have C17 : Hid (∀ W, Below W9.heap.size W9 W → Calls Tryz.prog 17 #[pz sb, .agg (lfc l hw hs hp).toArray] W fun e w' => (∃ v', e = .returned (.agg (rsc (hearR X l).2 v').toArray) ∧ v'.oneCell' = true) ∧ Mi4 w sb ba c n i la a (hearR X l).1 (.slice sa S.length sc) S w') := fun W hb => by
       have k := heard_at (S := S) HAc.out (S9.out.on hb).below
       rw [hl, hhw, hhs, hhp] at k
       exact ((S9.out.on hb).hear hk9 HO0.out l hw hs hp k).mono fun e w' ⟨⟨v', g1, g2, _⟩, g3⟩ => ⟨⟨v', g1, g2⟩, R.out.mi g3 (hearR_ol X l) ((hearR_cm X l).kp R.out.up) (by
        have := hearR_out (X := X) (R.out.se.gs.pl bt_good) l
        rw [R.out.out] at this
        exact Nat.le_trans this (by decide))⟩
      clear hl hhw hhs hhp
      generalize hearR X l = D at *
      have hq : ((a.what == 1) = true) ∨ ((a.what == 1) = false ∧ (a.what == 4) = true) := by
       by_cases g : a.what = 1
       ·exact .inl (by rw [g]; rfl)
       ·exact .inr ⟨beq_eq_false_iff_ne.2 g, by rw [q14.resolve_left g]; rfl⟩
      clear q14 q0
      rcases hq with u1 | ⟨u1, u2⟩
      ·go_wp2_with (refine wpList_load_row rfl 57 _ rfl ba rfl 57 _ (0, 0) _ NB.out Tryz.underlying57 rfl (by kernel_rfl) ?_)
       refine (C16.out (by trivial)).mono ?_
       rintro e w4 ⟨rfl, h4⟩
       go_wp2_with fail
       refine (C17.out _ h4).mono ?_
       rintro e w5 ⟨⟨v', rfl, hv1⟩, h5⟩
       have F : Hid _ := h5
       clear h5 h4 C16 C17
       go_wp2_with fail
       go_meet
       exact ⟨_, F⟩
      ·go_wp2_with (refine wpList_load_row rfl 57 _ rfl ba rfl 57 _ (0, 0) _ NB.out Tryz.underlying57 rfl (by kernel_rfl) ?_)
       refine (C16.out (by trivial)).mono ?_
       rintro e w4 ⟨rfl, h4⟩
       go_wp2_with fail
       refine (C17.out _ h4).mono ?_
       rintro e w5 ⟨⟨v', rfl, hv1⟩, h5⟩
       have F : Hid _ := h5
       clear h5 h4 C16 C17
       go_wp2_with fail
       go_meet
       exact ⟨_, F⟩
     have q1b : (a.what == 1) = false := beq_eq_false_iff_ne.2 (fun g => q14 (.inl g))
     have q4b : (a.what == 4) = false := beq_eq_false_iff_ne.2 (fun g => q14 (.inr g))
     by_cases q2 : a.what = 2
     ·have q2b : (a.what == 2) = true := by rw [q2]; rfl
      have C20 : Hid (1 = 1 → _) := fun _ => S9.out.again hk9 HO0.out
      have fin : Hid (∀ W, Se w sb (againF X) (9 * i + 9) [(ba, (acc a).toArray, 57)] (.slice sa S.length sc) S W → Mi4 w sb ba c n i la a (againF X) (.slice sa S.length sc) S W) := fun W h => ⟨h, by
       show (X.out ++ X.asks.map (letF X)).length ≤ 1000
       rw [R.out.out, List.nil_append, List.length_map]
       have := R.out.se.ok.2.1
       omega, R.out.cl, R.out.nsh, R.out.up, .inl q2, again_outs R.out.se.ok.2.2.2 R.out.out, R.out.la⟩
      clear q2 q14 q0
      go_wp2_with fail
      refine (C20.out (by trivial)).mono ?_
      rintro e w5 ⟨rfl, h5⟩
      have F : Hid _ := fin.out _ h5
      clear h5 C20 fin
      go_wp2_with fail
      go_meet
      exact ⟨_, F⟩
     have q2b : (a.what == 2) = false := beq_eq_false_iff_ne.2 q2
     by_cases q3 : a.what = 3
     ·have q3b : (a.what == 3) = true := by rw [q3]; rfl
      have C12 : Hid (1 = 1 → _) := fun _ => S9.out.give hk9 HO0.out
      have fin : Hid (∀ W, Se w sb (giveF bt X).1 (9 * i + 9) [(ba, (acc a).toArray, 57)] (.slice sa S.length sc) S W → Mi4 w sb ba c n i la a (giveF bt X).1 (.slice sa S.length sc) S W) := fun W h => R.out.mi h (give_ol bt X) ((give_cm bt X).kp R.out.up) (by
       have := (give_gw (B := bt) (s := X) (R.out.se.gs.pl bt_good)).lo
       rw [R.out.out] at this
       exact Nat.le_trans this (by decide))
      generalize giveF bt X = D at *
      clear q3 q2 q14 q0
      go_wp2_with fail
      refine (C12.out (by trivial)).mono ?_
      rintro e w5 ⟨rfl, h5⟩
      have F : Hid _ := fin.out _ h5
      clear h5 C12 fin
      go_wp2_with fail
      go_meet
      exact ⟨_, F⟩
     have q3b : (a.what == 3) = false := beq_eq_false_iff_ne.2 q3
     have F : Hid (Mi4 w sb ba c n i la a X (.slice sa S.length sc) S W9) := R.out.mi (S9.out.le (by omega)) (Ol.refl X) ⟨rfl, rfl, R.out.up⟩ (by rw [R.out.out]; exact Nat.zero_le _)
     clear q3 q2 q14 q0
     go_wp2_with fail
     go_meet
     exact ⟨_, F⟩
    case rest =>
     obtain ⟨X1, hM⟩ := hcut
     have HM : Hid (Mi4 w sb ba c n i la a X1 (.slice sa S.length sc) S wc) := hM
     have HRS : Hid (S.length ≤ 1000 * i ∧ ∀ x ∈ S, x.vw.oneCell' = true ∧ x.vs.oneCell' = true) := ⟨R.out.sl, R.out.so⟩
     have C13 : Hid (1 = 1 → _) := fun _ => HM.out.se.out2
     clear hM S9 HO0 HAc hk9 R HA HO
     go_wp2_with fail
     refine (C13.out (by trivial)).mono ?_
     rintro e w7 ⟨vo, L, rfl, h7, hel, hlo⟩
     obtain ⟨I0, A0⟩ := HM.out.go HRS.out h7 hel hlo
     obtain ⟨va, vc, hve, -⟩ := rw_own hlo.own
     subst hve
     have HX2 : Hid (({ X1 with out := [] } : Ss).out = [] ∧ ({ X1 with out := [] } : Ss).cl = c ∧ ({ X1 with out := [] } : Ss).nsh = n ∧ leT (startF { X1 with out := [] }) (nowF { X1 with out := [] })) := ⟨rfl, HM.out.cl, HM.out.nsh, HM.out.up⟩
     generalize ({ X1 with out := [] } : Ss) = X2 at *
     have HI : Hid (In4 w sb ba i la a X2 (.slice va L.length vc) L 0 (.slice sa S.length sc) S w7) := I0
     have HL : Hid (Al4 c n a X2 L) := A0
     have hL9 : (L.length : Int) < 9223372036854775808 := by have := A0.len; omega
     clear I0 A0 h7 hel hlo C13 HM HRS
     go_wp2_with fail
     go_loopw [9, 10, 69] (fun s9 s10 s69 wq => ∃ (j lb : Nat) (S2 : List Lx), s69 = iw (j : Int) ∧ s10 = uu lb ∧ j ≤ L.length ∧ Hid (In4 w sb ba i lb a X2 (.slice va L.length vc) L j s9 S2 wq)) (fun _ _ s69 _ => L.length - (intOf s69).toNat)
     case atStart => exact ⟨0, la, S, rfl, rfl, Nat.zero_le _, HI⟩
     case round =>
      obtain ⟨j, lb, S2, rfl, rfl, hj, hR2⟩ := hrel
      have R2 : Hid (In4 w sb ba i lb a X2 (.slice va L.length vc) L j u9 S2 wr) := hR2
      clear hR2 HI
      obtain ⟨ta, tc, hu9, -⟩ := rw_own R2.out.se.own
      subst hu9
      by_cases hlt2 : j < L.length
      ·have hlt2' : (j : Int) < (L.length : Int) := by omega
       obtain ⟨b2, off2, rfl, hrng2⟩ := lo4_at R2.out.lo hlt2
       obtain ⟨x, hx⟩ := xj (L.getD j dlx)
       rw [hx] at hrng2
       have HXE : Hid (L.getD j dlx = x) := hx
       have hxm : x ∈ L := by rw [← hx]; exact getD_mem hlt2
       have EL : Hid _ := R2.out.lo.el x hxm
       have GL : Hid _ := HL.out.lg x hxm
       have HLT : Hid (a.what = 2 ∨ lb < x.l.sq) := R2.out.lt.imp id fun h => by have := h j (Nat.le_refl _) hlt2; rw [hx] at this; exact this
       have ER : Hid (wr.rangeAt b2 (off2 + j * 31) (lxc x)) := hrng2
       have hall : Hid ((lxc x).toArray.all (·.oneCell') = true) := all_oneCell_toArray (lxc_one EL.out.2.2.1 EL.out.2.2.2.1)
       have HLC : Hid (lxc x = lfc x.l x.vw x.vs sy) := lx_lfc EL.out.1 EL.out.2.1
       clear hrng2 hx hxm
       have I9 : Hid _ := R2.out.on (al (W := wr) (.cells (lxc x).toArray 55))
       have NB : Hid _ := heap_alloc_new wr (.cells (lxc x).toArray 55)
       obtain ⟨W9, hW9⟩ := xj (wr.alloc (.cells (lxc x).toArray 55))
       rw [hW9] at I9 NB
       go_upto_region 25 with (first
        | (refine wpList_load_mid rfl 55 _ rfl b2 (off2 + j * 31) rfl (lxc x) _ ER.out Tryz.underlying55 rfl (by kernel_rfl) ?_)
        | (refine wpList_store_row rfl 55 _ _ rfl wr.heap.size (lxc x).toArray rfl rfl 55 _ (heap_alloc_new wr _) (by kernel_rfl) rfl hall.out ?_; rewrite [World.setRow_alloc_new, hW9]))
       (try simp only [Act.put])
       clear hW9 ER hall R2
       obtain ⟨bx, hbx⟩ := xj wr.heap.size
       rw [hbx] at NB ⊢
       clear hbx
       have HXM : Hid (x ∈ L) := by rw [← HXE.out]; exact getD_mem hlt2
       have HNUM : Hid (i < acts.length ∧ i < 80 ∧ j < L.length ∧ (acts.length : Int) < 9223372036854775808 ∧ L.length ≤ 1000) := ⟨hlt, hi79, hlt2, hlen, HL.out.len⟩
       clear hlt hlt' hi hi80 hi79 h80' hlen hj hlt2 hlt2' hL9
       have C25 : Hid (1 = 1 → Calls Tryz.prog 25 #[.agg (lxc x).toArray] W9 fun e w' => e = .returned (.bool true) ∧ Below W9.heap.size W9 w') := fun _ => by
        have k := (show LF _ x.l x.vw x.vs sy W9 from ⟨(I9.out.lo.el x HXM.out).2.2.2.2, by rw [EL.out.2.1]; exact RwF.nil _ _ _⟩).right
        rw [GL.out.1.right HCN.out.1 HCN.out.2.2, ← HLC.out] at k
        exact k
       have hsh : ¬ (n : Int) ≤ (x.l.sh : Int) := by have := GL.out.1.q.lt; omega
       have HV : Hid (wrap64 (x.l.sh : Int) = (x.l.sh : Int) ∧ ¬ (n : Int) ≤ (x.l.sh : Int)) := ⟨by have := GL.out.1.q.lt; have := HCN.out; unfold wrap64; omega, hsh⟩
       have hV1 : decide ((n : Int) ≤ wrap64 (x.l.sh : Int)) = false := decide_eq_false (by rw [HV.out.1]; exact HV.out.2)
       have hV3 : (wrap64 (c : Int) != (c : Int)) = false := by have := HCN.out; rw [show wrap64 (c : Int) = (c : Int) from by unfold wrap64; omega]; simp
       have hV2 : ((x.l.sh : Int) != wrap64 (x.l.sh : Int)) = false := by rw [HV.out.1]; simp
       clear hsh
       have CEL : Hid (∀ W : World, W.heap[bx]? = some (.cells (lxc x).toArray 55 (0, 0)) → W.cell? ⟨bx, 0, none⟩ = some (uu c) ∧ W.cell? ⟨bx, 1, none⟩ = some (uu x.l.sh) ∧ W.cell? ⟨bx, 2, none⟩ = some (uu x.l.sq) ∧ W.cell? ⟨bx, 3, none⟩ = some (.bool false) ∧ W.cell? ⟨bx, 4, none⟩ = some (iw x.l.q.k) ∧ W.cell? ⟨bx, 11, none⟩ = some (sd x.l.q.key) ∧ W.cell? ⟨bx, 15, none⟩ = some x.vw) := fun W h => ⟨by
        have k : W.cell? ⟨bx, 0, none⟩ = some (uu x.l.cl) := block_cell h rfl
        rw [GL.out.1.cl] at k
        exact k, block_cell h rfl, block_cell h rfl, block_cell h rfl, block_cell h rfl, block_cell h rfl, block_cell h rfl⟩
       go_cut [41, 104] (fun v41 v wc => v41 = iw a.what ∧ v = .bool false ∧ Hid (Below W9.heap.size W9 wc))
       case first =>
        go_wp2_with (refine wpList_load_row rfl 55 _ rfl bx rfl 55 _ (0, 0) _ NB.out Tryz.underlying55 rfl (by kernel_rfl) ?_)
        refine (C25.out (by trivial)).mono ?_
        rintro e w5 ⟨rfl, h5⟩
        obtain ⟨d0, d1, d2, d3, -, -, -⟩ := CEL.out w5 (by rw [h5.block _ (lt_blk NB.out)]; exact NB.out)
        have g0 : w5.cell? ⟨ba, 0, none⟩ = some (iw a.what) := block_cell ((I9.out.on h5).se.bm (b := ba) (cs := (acc a).toArray) (ty := 57) (by simp)) rfl
        have F5 : Hid (Below W9.heap.size W9 w5) := h5
        clear h5 C25
        by_cases w2 : a.what = 2
        ·have w2b : (a.what != 2) = false := by rw [w2]; rfl
         have HW2 : Hid (a.what = 2) := w2
         clear w2
         go_wp2_with fail
         go_meet
         exact ⟨by first | rfl | rw [HW2.out], rfl, F5⟩
        ·have w2b : (a.what != 2) = true := bne_iff_ne.2 w2
         have hsq : Hid (¬ x.l.sq ≤ lb) := by have := HLT.out.resolve_left w2; show ¬ _; omega
         clear w2
         go_wp2_with fail
         go_meet
         exact ⟨rfl, congrArg Value.bool (decide_eq_false hsq.out), F5⟩
       case rest =>
        obtain ⟨rfl, rfl, hB⟩ := hcut
        have I5 : Hid _ := I9.out.on hB.out
        have N5 : Hid (wc.heap[bx]? = some (.cells (lxc x).toArray 55 (0, 0))) := by show _ = _; rw [hB.out.block _ (lt_blk NB.out)]; exact NB.out
        clear hB C25 I9 NB
        obtain ⟨-, d1, -, -, d4, d11, d15⟩ := CEL.out wc N5.out
        obtain ⟨s1, hs1⟩ := xj (Pla.shardF x.l.q.key (n : Int)).1
        obtain ⟨s2, hs2⟩ := xj (Pla.shardF x.l.q.key (n : Int)).2
        have C26 : Hid (1 = 1 → Calls Tryz.prog 26 #[sd x.l.q.key, iw (n : Int)] wc fun r w' => r = .returned (.tuple #[iw s1, iw s2]) ∧ wc = w') := fun _ => by
         have k := Pla.shard11 x.l.q.key (n : Int) wc
         rw [hs1, hs2] at k
         exact k
        have HSH : Hid (x.l.q.k = 1 ∨ x.l.q.k = 4 ∨ x.l.q.k = 7 → s1 = (x.l.sh : Int) ∧ s2 = 0) := fun h => by
         have k := (home_some (GL.out.1.q.home h)).1
         rw [← hs1, ← hs2, k]
         exact ⟨rfl, rfl⟩
        clear hs1 hs2
        go_wp2_with fail
        refine (C26.out (by trivial)).mono ?_
        rintro e w6 ⟨rfl, rfl⟩
        clear C26
        go_upto_region 28 with fail
        go_cut [139] (fun v wc2 => v = .bool false ∧ wc2 = wc)
        case first =>
         by_cases k1 : x.l.q.k = 1
         ·have k1b : (x.l.q.k == 1) = true := by rw [k1]; rfl
          obtain ⟨rfl, rfl⟩ := HSH.out (.inl k1)
          clear k1
          go_wp2_with fail
          go_meet
          exact ⟨rfl, rfl⟩
         ·have k1b : (x.l.q.k == 1) = false := beq_eq_false_iff_ne.2 k1
          by_cases k4 : x.l.q.k = 4
          ·have k4b : (x.l.q.k == 4) = true := by rw [k4]; rfl
           obtain ⟨rfl, rfl⟩ := HSH.out (.inr (.inl k4))
           clear k1 k4
           go_wp2_with fail
           go_meet
           exact ⟨rfl, rfl⟩
          ·have k4b : (x.l.q.k == 4) = false := beq_eq_false_iff_ne.2 k4
           by_cases k7 : x.l.q.k = 7
           ·have k7b : (x.l.q.k == 7) = true := by rw [k7]; rfl
            obtain ⟨rfl, rfl⟩ := HSH.out (.inr (.inr k7))
            clear k1 k4 k7
            go_wp2_with fail
            go_meet
            exact ⟨rfl, rfl⟩
           ·have k7b : (x.l.q.k == 7) = false := beq_eq_false_iff_ne.2 k7
            clear k1 k4 k7
            go_wp2_with fail
            go_meet
            exact ⟨rfl, rfl⟩
        case rest =>
         obtain ⟨rfl, rfl⟩ := hcut
         obtain ⟨wa, wcap, hvw, -⟩ := EL.out.2.2.2.2.ws
         rw [hvw] at d15
         have hwl : x.l.q.ws.length ≤ 100 := by have := GL.out.1.q.ok.wl; omega
         have HQ : Hid (RwAt wc.heap.size 3 (.slice wa x.l.q.ws.length wcap) x.l.q.ws.length (rowC wrc x.l.q.ws) wc) := by
          have k := (I5.out.lo.el x HXM.out).2.2.2.2.ws.rw (by decide)
          rw [hvw] at k
          exact k
         have hw9 : (x.l.q.ws.length : Int) < 9223372036854775808 := by omega
         have HWL : Hid (x.l.q.ws.length ≤ 100) := hwl
         clear hwl
         have C26 : Hid (∀ y W, y ∈ x.l.q.ws → Calls Tryz.prog 26 #[sd y.key, iw (n : Int)] W fun r w' => r = .returned (.tuple #[iw (x.l.sh : Int), iw 0]) ∧ W = w') := fun y W hy => by
          have k := Pla.shard11 y.key (n : Int) W
          rw [(home_some (GL.out.1.q.ws y hy)).1] at k
          exact k
         clear hvw d1 d4 d11 HSH
         go_wp2_with fail
         go_loopw [144] (fun s144 wq => ∃ m : Nat, s144 = iw (m : Int) ∧ m ≤ x.l.q.ws.length ∧ Hid (Below wc.heap.size wc wq)) (fun s144 _ => x.l.q.ws.length - (intOf s144).toNat)
         case atStart => exact ⟨0, rfl, Nat.zero_le _, Below.refl _ _⟩
         case round =>
          rename_i wq
          obtain ⟨m, rfl, hm, hB3⟩ := hrel
          have HB3 : Hid (Below wc.heap.size wc wr) := hB3
          clear hB3
          by_cases hlt3 : m < x.l.q.ws.length
          ·have hlt3' : decide ((m : Int) < (x.l.q.ws.length : Int)) = true := decide_eq_true (by omega)
           obtain ⟨b3, off3, rfl, hrng3⟩ := rw_range wrc_len dw (by decide) (HQ.out.on HB3.out) hlt3
           have hy := getD_mem (d := dw) hlt3
           generalize x.l.q.ws.getD m dw = y at hrng3 hy
           have ER : Hid (wr.rangeAt b3 (off3 + m * 3) (wrc y)) := hrng3
           have C26' : Hid (∀ W, 1 = 1 → _) := fun W _ => C26.out y W hy
           have N3 : Hid _ := heap_alloc_new wr (.cells (wrc y).toArray 70)
           have B3 : Hid (Below wc.heap.size wc (wr.alloc (.cells (wrc y).toArray 70))) := HB3.out.trans ((al (W := wr) (.cells (wrc y).toArray 70)).mono HB3.out.size)
           obtain ⟨W3, hW3⟩ := xj (wr.alloc (.cells (wrc y).toArray 70))
           rw [hW3] at N3 B3
           have e0 : W3.cell? ⟨wr.heap.size, 0, none⟩ = some (sd y.key) := block_cell N3.out rfl
           have d1 : W3.cell? ⟨bx, 1, none⟩ = some (uu x.l.sh) := (CEL.out W3 (by rw [B3.out.block _ (lt_blk N5.out)]; exact N5.out)).2.1
           have hm1 : IntKind.i64.wrap ((m : Int) + 1) = ((m + 1 : Nat) : Int) := by rw [IntKind.wrap_i64]; have := HWL.out; omega
           have HM3 : Hid (m < x.l.q.ws.length) := hlt3
           have hally : Hid ((wrc y).toArray.all (·.oneCell') = true) := all_oneCell_toArray (fun u hu => by unfold wrc at hu; simp only [List.mem_cons, List.not_mem_nil, or_false] at hu; rcases hu with rfl | rfl | rfl <;> rfl)
           clear hm hlt3 hw9 hV1 hV3
           clear hrng3 hy
           go_wp2_with (first
            | (refine wpList_load_mid rfl 70 _ rfl b3 (off3 + m * 3) rfl (wrc y) _ ER.out Tryz.underlying70 rfl (by kernel_rfl) ?_)
            | (refine wpList_store_row rfl 70 _ _ rfl wr.heap.size (wrc y).toArray rfl rfl 70 _ (heap_alloc_new wr _) (by kernel_rfl) rfl hally.out ?_; rewrite [World.setRow_alloc_new, hW3]))
           refine (C26'.out _ (by trivial)).mono ?_
           rintro e w6 ⟨rfl, rfl⟩
           clear C26' ER hW3
           go_wp2_with fail
           go_roundw
           case rel => exact ⟨m + 1, by first | rfl | go_num, HM3.out, B3⟩
           case measure => have := HM3.out; simp [intOf]; omega
          ·have hge3 : ¬ (m : Int) < (x.l.q.ws.length : Int) := by omega
           have I7 : Hid _ := I5.out.on HB3.out
           have N7 : Hid (wr.heap[bx]? = some (.cells (lxc x).toArray 55 (0, 0))) := by show _ = _; rw [HB3.out.block _ (lt_blk N5.out)]; exact N5.out
           have d2 : wr.cell? ⟨bx, 2, none⟩ = some (uu x.l.sq) := (CEL.out wr N7.out).2.2.1
           have I8 : Hid _ := I7.out.on (al (W := wr) (.cells (lxc x).toArray 55))
           have HOw : Hid (Ow w.heap.size 55 31 (.slice ta S2.length tc) S2.length (rowC lxc S2) (wr.heap.size + 1) (.slice (some ⟨wr.heap.size, 0, none⟩) 1 1) 1 (lxc x) (wr.alloc (.cells (lxc x).toArray 55))) := ⟨I8.out.se.own, row_one lxc 31 lxc_len x 55 wr (fun j u h => block_cell (heap_alloc_new wr _) (by simpa using h)), lxc_one EL.out.2.2.1 EL.out.2.2.2.1, I8.out.se.below.size, by have := I7.out.sl; have := HNUM.out; omega⟩
           have fin : Hid (∀ v' w8, w8.ownsRow w.heap.size 55 31 v' (S2.length + 1) (rowC lxc S2 ++ lxc x) → (wr.alloc (.cells (lxc x).toArray 55)).grownBy w8 (Value.slice ta S2.length tc).ownBlock → (v'.ownBlock = (Value.slice ta S2.length tc).ownBlock ∨ v'.ownBlock = some (wr.heap.size + 1)) → In4 w sb ba i (max lb x.l.sq) a X2 (.slice (some ⟨b2, off2, none⟩) L.length vc) L (j + 1) v' (S2 ++ [x]) w8) := fun v' w8 g1 g2 g3 => I8.out.next HL.out HNUM.out.2.2.1 HXE.out g1 g2 (by rw [size_al]; exact g3)
           have hj1 : IntKind.i64.wrap ((j : Int) + 1) = ((j + 1 : Nat) : Int) := by rw [IntKind.wrap_i64]; have := HNUM.out; omega
           obtain ⟨i0, z0', hin0, hi0, hi1, hi2, hi3⟩ := info55
           clear hm hlt3 hw9 I7 I8 hV1 hV2 hV3
           go_upto_region 37 with fail
           clear hge3
           go_upto_region 38 with fail
           have hmax : Hid (max (lb : Int) (x.l.sq : Int) = ((max lb x.l.sq : Nat) : Int)) := by show _ = _; omega
           clear d2 hj1
           go_wp2_with (first
            | (refine wpList_load_row rfl 55 _ rfl bx rfl 55 _ (0, 0) _ N7.out Tryz.underlying55 rfl (by kernel_rfl) ?_)
            | (refine wpList_buildSlice rfl 46 55 1 _ rfl (lxc x).toArray _ _ Tryz.underlying46 rfl rfl (by decide) (by decide) (by kernel_rfl) ?_)
            | (at_builtin; refine wpList_append_rw HOw.out Tryz.underlying46 hin0 hi0 hi1 hi2 hi3 (by decide) (by decide) (.tmp 165) (.tmp 167) rfl rfl rfl rfl ?_))
           intro v' w8 g1 g2 g3
           have RF : Hid _ := fin.out v' w8 g1 g2 g3
           obtain ⟨va', vc', hve', -⟩ := rw_own g1
           subst hve'
           clear g1 g2 g3 HOw fin
           have hj1 : (j : Int) + 1 < 9223372036854775808 := by have := HNUM.out; omega
           go_wp2_with fail
           go_roundw
           case rel => exact ⟨j + 1, max lb x.l.sq, _, by go_num, congrArg (Value.int .u32) hmax.out, HNUM.out.2.2.1, RF⟩
           case measure => have := HNUM.out; simp [intOf]; omega
      ·have hge2 : ¬ (j : Int) < (L.length : Int) := by omega
       have F : Hid (Ro4 w sb c n (i + 1) lb X2 (.slice ta S2.length tc) S2 wr) := R2.out.done HL.out.len hj HX2.out
       have hi1 : IntKind.i64.wrap ((i : Int) + 1) = ((i + 1 : Nat) : Int) := by rw [IntKind.wrap_i64]; omega
       clear R2 HL HX2
       go_wp2_with fail
       go_roundw
       case rel => exact ⟨i + 1, lb, X2, S2, by first | rfl | go_num, rfl, by omega, by omega, F⟩
       case measure => simp [intOf]; omega
  ·have hge : ¬ (i : Int) < (acts.length : Int) := by omega
   go_wp2_with fail
   go_ret
   exact ⟨rfl, R.out.se.below⟩
theorem sends4bad (c n : Int) (h : ¬ (0 ≤ c ∧ c < 4 ∧ 1 ≤ n ∧ n ≤ 8)) (ao : Option Addr) (len cap : Nat) (w : World) : Calls Tryz.prog 4 #[iw c, iw n, .slice ao len cap] w fun e w' => e = .returned (.bool true) ∧ Below w.heap.size w w' := by
 have C7 : Hid (1 = 1 → _) := fun _ => awake7 w
 have C8 : Hid (∀ W, 1 = 1 → _) := fun W _ => new8bad c n h W
 clear h
 go_enter Tryz.func4, Tryz.ntmps4
 go_wp2_with fail
 refine (C7.out (by trivial)).mono ?_
 rintro e w1 ⟨rfl, h1⟩
 have HB : Hid _ := h1
 clear C7 h1
 go_wp2_with fail
 refine (C8.out _ (by trivial)).mono ?_
 rintro e w2 ⟨rfl, rfl⟩
 clear C8
 go_wp2_with fail
 go_ret
 exact ⟨rfl, HB.out⟩
end Go.Proofs.YtkdkgdollmmcnaaGreat
