import Derived.Test.YtkdkgdollmmcnaaGreatWby
set_option maxHeartbeats 4000000
set_option maxRecDepth 100000
set_option linter.unusedVariables false
set_option linter.unusedSimpArgs false
namespace Go.Proofs.YtkdkgdollmmcnaaGreat
open Go.RowKit Go.Sort Go.Shelf
theorem once6 (acts : List Ac) (ao : Option Addr) (cap : Nat) (w : World) (hA : RwAt w.heap.size 53 (.slice ao acts.length cap) acts.length (rowC acc acts) w) (hO : ∀ a ∈ acts, AcOk w a) : Calls Tryz.prog 6 #[.slice ao acts.length cap] w fun e w' => e = .returned (.bool true) ∧ Below w.heap.size w w' := by
 have HA : Hid _ := hA
 have HO : Hid (∀ a ∈ acts, AcOk w a) := hO
 have hlen : (acts.length : Int) < 9223372036854775808 := by
  obtain ⟨ao', cap', e, -, h2, h3, -⟩ := hA
  omega
 have C7 : Hid (1 = 1 → _) := fun _ => awake7 w
 clear hA hO
 go_enter Tryz.func6, Tryz.ntmps6
 go_wp2_with fail
 refine (C7.out (by trivial)).mono ?_
 rintro e w1 ⟨rfl, h1⟩
 have C8 : Hid (1 = 1 → _) := fun _ => Duo.new (w := w) (w1 := w1) 0 2 (by decide) (by decide) h1
 clear C7 h1
 go_wp2_with fail
 refine (C8.out (by trivial)).mono ?_
 rintro e w2 ⟨rfl, -, h2⟩
 have C9 : Hid (1 = 1 → _) := fun _ => h2
 clear h2 C8
 obtain ⟨pa, hpa⟩ := xj w1.heap.size
 rw [hpa] at C9 ⊢
 clear hpa
 go_wp2_with fail
 refine (C9.out (by trivial)).mono ?_
 rintro e w3 ⟨pb, rfl, h3⟩
 have R0 : Hid (Ro6 w pa pb 0 (Ss.new 0 2) sy [] w3) := ⟨h3, rfl, Nat.zero_le _, fun x hx => by cases hx⟩
 clear h3 C9
 go_wp2_with fail
 go_loopw [7, 28] (fun s7 s28 wq => ∃ (i : Nat) (X : Ss) (S : List Lx), s28 = iw (i : Int) ∧ i ≤ acts.length ∧ i ≤ 60 ∧ Hid (Ro6 w pa pb i X s7 S wq)) (fun _ s28 _ => acts.length - (intOf s28).toNat)
 case atStart => exact ⟨0, _, [], rfl, Nat.zero_le _, Nat.zero_le _, R0⟩
 case round =>
  obtain ⟨i, X, S, rfl, hi, hi60, hR⟩ := hrel
  have R : Hid (Ro6 w pa pb i X u7 S wr) := hR
  clear hR R0
  obtain ⟨sa, sc, hu7, -⟩ := rw_own R.out.tw.own
  subst hu7
  by_cases hlt : i < acts.length
  ·have hlt' : (i : Int) < (acts.length : Int) := by omega
   obtain ⟨b0, off, rfl, hrng⟩ := acts_at HA.out R.out.tw.below hlt
   have hAc := HO.out _ (getD_mem (d := dac) hlt)
   obtain ⟨a, ha⟩ := xj (acts.getD i dac)
   rw [ha] at hrng hAc
   have HAc : Hid (AcOk w a) := hAc
   have ER : Hid (wr.rangeAt b0 (off + i * 53) (acc a)) := hrng
   have hall : Hid ((acc a).toArray.all (·.oneCell') = true) := all_oneCell_toArray (acc_one hAc.one)
   clear hrng hAc ha
   have S9 : Hid (Duo w pa pb X X (18 * i) (18 * i) [(wr.heap.size, (acc a).toArray, 57)] (.slice sa S.length sc) S [] [] (wr.alloc (.cells (acc a).toArray 57))) := R.out.tw.box _ 57
   obtain ⟨W9, hW9⟩ := xj (wr.alloc (.cells (acc a).toArray 57))
   rw [hW9] at S9
   by_cases h60 : i = 60
   ·have h60' : ((i : Int) == 60) = true := by rw [h60]; rfl
    clear h60
    go_wp2_with (first
     | (refine wpList_load_mid rfl 57 _ rfl b0 (off + i * 53) rfl (acc a) _ ER.out Tryz.underlying57 rfl (by kernel_rfl) ?_)
     | (refine wpList_store_row rfl 57 _ _ rfl wr.heap.size (acc a).toArray rfl rfl 57 _ (heap_alloc_new wr _) (by kernel_rfl) rfl hall.out ?_; rewrite [World.setRow_alloc_new, hW9]))
    go_ret
    exact ⟨rfl, S9.out.below⟩
   ·have h60' : ((i : Int) == 60) = false := beq_eq_false_iff_ne.2 (by omega)
    have hi59 : i < 60 := by omega
    clear h60
    go_upto_region 10 with (first
     | (refine wpList_load_mid rfl 57 _ rfl b0 (off + i * 53) rfl (acc a) _ ER.out Tryz.underlying57 rfl (by kernel_rfl) ?_)
     | (refine wpList_store_row rfl 57 _ _ rfl wr.heap.size (acc a).toArray rfl rfl 57 _ (heap_alloc_new wr _) (by kernel_rfl) rfl hall.out ?_; rewrite [World.setRow_alloc_new, hW9]))
    (try simp only [Act.put])
    clear hW9 ER hall
    obtain ⟨ba, hba⟩ := xj wr.heap.size
    rw [hba] at S9 ⊢
    clear hba
    obtain ⟨b1, hb1⟩ := xj W9.heap.size
    have D1 := S9.out.box RZ 41
    have D2 := D1.box RZ 41
    obtain ⟨WA, hWA⟩ := xj ((W9.alloc (.cells RZ 41)).alloc (.cells RZ 41))
    rw [hWA, size_al, hb1] at D2
    have HDS : Hid (ba < b1) := by
     have k1 := lt_blk (S9.out.bm mc)
     show ba < b1
     omega
    have NE : Hid (ba ≠ b1 + 1 ∧ ba ≠ b1) := by have := HDS.out; exact ⟨by omega, by omega⟩
    have SX : Hid (Duo w pa pb X X (18 * i) (18 * i) [(b1 + 1, (rsc zS sy).toArray, 41), (b1, (rsc zS sy).toArray, 41), (ba, (acc a).toArray, 57)] (.slice sa S.length sc) S [] [] WA) := D2
    have HWA : Hid ((W9.alloc (.cells RZ 41)).alloc (.cells RZ 41) = WA ∧ W9.heap.size = b1) := ⟨hWA, hb1⟩
    clear D1 D2 S9 hWA hb1
    go_upto_region 11 with fail
    (try simp only [Act.put])
    rw [HWA.out.1, HWA.out.2]
    clear HWA
    obtain ⟨b2, hb2⟩ := xj (b1 + 1)
    have HD2 : Hid (ba < b1 ∧ b1 < b2) := ⟨HDS.out, by omega⟩
    rw [hb2] at SX ⊢
    clear hb2 HDS NE
    have hcell0 : WA.cell? ⟨ba, 0, none⟩ = some (iw a.what) := block_cell (SX.out.bm (b := ba) (cs := (acc a).toArray) (ty := 57) (by simp)) rfl
    go_upto_block 2 with fail
    clear hcell0
    have hk9 : 18 * i ≤ 100000 := by omega
    have HO0 : Hid (X.out.length ≤ 100000) := by rw [R.out.out]; exact Nat.zero_le _
    have HSET : Hid (∀ (Xa Xb : Ss) (ka kb : Nat) (c1 c2 cs : Array Value) Pd W, Duo w pa pb Xa Xb ka kb [(b2, c2, 41), (b1, c1, 41), (ba, (acc a).toArray, 57)] (.slice sa S.length sc) S [] Pd W → Duo w pa pb Xa Xb ka kb [(b2, c2, 41), (b1, cs, 41), (ba, (acc a).toArray, 57)] (.slice sa S.length sc) S [] Pd (W.setRow b1 cs) ∧ Duo w pa pb Xa Xb ka kb [(b2, cs, 41), (b1, c1, 41), (ba, (acc a).toArray, 57)] (.slice sa S.length sc) S [] Pd (W.setRow b2 cs)) := fun Xa Xb ka kb c1 c2 cs Pd W h => by
     have := HD2.out
     exact ⟨Duo.set (l1 := [(b2, c2, 41)]) (l2 := [(ba, (acc a).toArray, 57)]) h (by decide) (fun p hp => by rw [List.mem_singleton.1 hp]; show b2 ≠ b1; omega) (fun p hp => by rw [List.mem_singleton.1 hp]; show ba ≠ b1; omega), Duo.set (l1 := []) (l2 := [(b1, c1, 41), (ba, (acc a).toArray, 57)]) h (by decide) (fun p hp => by cases hp) (fun p hp => by
      rcases List.mem_cons.1 hp with rfl | hp
      ·show b1 ≠ b2
       omega
      ·rw [List.mem_singleton.1 hp]
       show ba ≠ b2
       omega)⟩
    go_cut [7] (fun s7 wc => ∃ (X1 : Ss) (r : Rs) (v1 v2 : Value) (ps : List Pr), s7 = .slice sa S.length sc ∧ Hid (Mi6 w pa pb ba b1 b2 i a X1 r v1 v2 ps (.slice sa S.length sc) S wc))
    case first =>
     by_cases q0 : a.what = 0
     ·have q0b : (a.what == 0) = true := by rw [q0]; rfl
      clear q0
      have e2 : WA.cell? ⟨ba, 2, none⟩ = some (uw a.ph) := block_cell (SX.out.bm (b := ba) (cs := (acc a).toArray) (ty := 57) (by simp)) rfl
      have RO : Hid (WA.rangeAt ba 3 [iw a.op.k, sd a.op.key, sd a.op.val, sd a.op.to, iw a.op.lim]) := range_box (o := 3) (n := 5) (SX.out.bm (b := ba) (cs := (acc a).toArray) (ty := 57) (by simp))
      have C11 : Hid (1 = 1 → _) := fun _ => SX.out.do hk9 HO0.out a.ph a.op
      have HOUT : Hid ((doF bt X a.ph a.op).1.out.length ≤ 2000) := by
       have := (do_gw (B := bt) (s := X) (R.out.tw.gs.1.pl bt_good) R.out.tw.gs.1.n.2 a.ph a.op).lo
       rw [R.out.out] at this
       exact Nat.le_trans this (by decide)
      have C12 : Hid (∀ c1 c2 W, Duo w pa pb (doF bt X a.ph a.op).1 X (18 * i + 9) (18 * i) [(b2, c2, 41), (b1, c1, 41), (ba, (acc a).toArray, 57)] (.slice sa S.length sc) S [] [] W → _) := fun c1 c2 W h => h.swap.do hk9 HO0.out a.ph a.op
      generalize doF bt X a.ph a.op = D at *
      unfold rsV at C11 C12
      have hall := rsc_all D.2 sy rfl
      go_wp2_with (refine wpList_load_mid rfl 44 _ rfl ba 3 rfl [iw a.op.k, sd a.op.key, sd a.op.val, sd a.op.to, iw a.op.lim] _ RO.out Tryz.underlying44 rfl (by kernel_rfl) ?_)
      refine (C11.out (by trivial)).mono ?_
      rintro e w4 ⟨rfl, h4⟩
      have N4 : Hid (w4.heap[b1]? = some (.cells (rsc zS sy).toArray 41 (0, 0))) := h4.bm (by simp)
      have S4 : Hid _ := ((HSET.out _ _ _ _ _ _ (rsc D.2 sy).toArray _ _ h4).1)
      obtain ⟨W5, hW5⟩ := xj (w4.setRow b1 (rsc D.2 sy).toArray)
      rw [hW5] at S4
      have HE5 : Hid (w4.setRow b1 (rsc D.2 sy).toArray = W5) := hW5
      have e2' : W5.cell? ⟨ba, 2, none⟩ = some (uw a.ph) := block_cell (S4.out.bm (b := ba) (cs := (acc a).toArray) (ty := 57) (by simp)) rfl
      have RO5 : Hid (W5.rangeAt ba 3 [iw a.op.k, sd a.op.key, sd a.op.val, sd a.op.to, iw a.op.lim]) := range_box (o := 3) (n := 5) (S4.out.bm (b := ba) (cs := (acc a).toArray) (ty := 57) (by simp))
      clear h4 C11 e2 RO hW5 SX
      go_wp2_with (first
       | (refine wpList_store_row rfl 41 _ _ rfl b1 (rsc D.2 sy).toArray rfl rfl 41 _ N4.out (by kernel_rfl) rfl hall ?_; rewrite [HE5.out])
       | (refine wpList_load_mid rfl 44 _ rfl ba 3 rfl [iw a.op.k, sd a.op.key, sd a.op.val, sd a.op.to, iw a.op.lim] _ RO5.out Tryz.underlying44 rfl (by kernel_rfl) ?_))
      refine (C12.out _ _ _ S4.out).mono ?_
      rintro e w6 ⟨rfl, h6⟩
      have N6 : Hid (w6.heap[b2]? = some (.cells (rsc zS sy).toArray 41 (0, 0))) := h6.bm (by simp)
      have F : Hid (Mi6 w pa pb ba b1 b2 i a D.1 D.2 sy sy [] (.slice sa S.length sc) S (w6.setRow b2 (rsc D.2 sy).toArray)) := ⟨((HSET.out _ _ _ _ _ _ (rsc D.2 sy).toArray _ _ h6.swap).2.newp.newp.le (by omega) (by omega)), rfl, rfl, HOUT.out⟩
      clear h6 C12 S4 HSET
      go_wp2_with (refine wpList_store_row rfl 41 _ _ rfl b2 (rsc D.2 sy).toArray rfl rfl 41 _ N6.out (by kernel_rfl) rfl hall ?_)
      go_meet
      exact ⟨_, _, _, _, _, rfl, F⟩
     have q0b : (a.what == 0) = false := beq_eq_false_iff_ne.2 q0
     by_cases q14 : a.what = 1 ∨ a.what = 4
     ·have NB : Hid (WA.heap[ba]? = some (.cells (acc a).toArray 57 (0, 0))) := SX.out.bm (b := ba) (cs := (acc a).toArray) (ty := 57) (by simp)
      have HS : Hid ((∀ x ∈ S, x.vw.oneCell' = true ∧ x.vs.oneCell' = true) ∧ S.length ≤ 1000000) := ⟨R.out.so, by have := R.out.sl; omega⟩
      obtain ⟨l, hl⟩ := xj (heardF a S)
      obtain ⟨hw, hhw⟩ := xj (heardW a S.length)
      obtain ⟨hs, hhs⟩ := xj (heardS a S.length)
      obtain ⟨hp, hhp⟩ := xj (heardP a S.length)
      have C16 : Hid (1 = 1 → Calls Tryz.prog 16 #[.agg (acc a).toArray, (.slice sa S.length sc)] WA fun e w' => e = .returned (.agg (lfc l hw hs hp).toArray) ∧ Below WA.heap.size WA w') := fun _ => by
       have k := heard16 HAc.out SX.out.own HS.out.1 HS.out.2
       rw [hl, hhw, hhs, hhp] at k
       exact k
      have HLA : Hid (∀ W, Below w.heap.size w W → LAt w.heap.size l hw hs hp W) := fun W hb => by
       have k := heard_at (S := S) HAc.out hb
       rw [hl, hhw, hhs, hhp] at k
       exact k
      have hallL : Hid ((lfc l hw hs hp).toArray.all (·.oneCell') = true) := by
       have k := heard_one HAc.out.one S.length
       rw [hhw, hhs, hhp] at k
       exact all_oneCell_toArray (lfc_one k.1 k.2.1 k.2.2)
      clear hl hhw hhs hhp
      have hq : ((a.what == 1) = true) ∨ ((a.what == 1) = false ∧ (a.what == 4) = true) := by
       by_cases g : a.what = 1
       ·exact .inl (by rw [g]; rfl)
       ·exact .inr ⟨beq_eq_false_iff_ne.2 g, by rw [q14.resolve_left g]; rfl⟩
      clear q14 q0
      have TT : Hid (∀ w4, Below WA.heap.size WA w4 → Duo w pa pb X X (18 * i) (18 * i) [(w4.heap.size, (lfc l hw hs hp).toArray, 55), (b2, (rsc zS sy).toArray, 41), (b1, (rsc zS sy).toArray, 41), (ba, (acc a).toArray, 57)] (.slice sa S.length sc) S [] [] (w4.alloc (.cells (lfc l hw hs hp).toArray 55)) ∧ b2 < w4.heap.size) := fun w4 h => ⟨(SX.out.on h).box _ 55, lt_blk ((SX.out.on h).bm mc)⟩
      rcases hq with u1 | ⟨u1, u2⟩
      all_goals
       go_wp2_with (refine wpList_load_row rfl 57 _ rfl ba rfl 57 _ (0, 0) _ NB.out Tryz.underlying57 rfl (by kernel_rfl) ?_)
       refine (C16.out (by trivial)).mono ?_
       rintro e w4 ⟨rfl, h4⟩
       have S5 : Hid _ := (TT.out w4 h4).1
       have HBX := (TT.out w4 h4).2
       obtain ⟨WL, hWL⟩ := xj (w4.alloc (.cells (lfc l hw hs hp).toArray 55))
       rw [hWL] at S5
       have HWL : Hid (w4.alloc (.cells (lfc l hw hs hp).toArray 55) = WL) := hWL
       clear hWL h4 C16 SX TT NB
       go_upto_region 18 with (refine wpList_store_row rfl 55 _ _ rfl w4.heap.size (lfc l hw hs hp).toArray rfl rfl 55 _ (heap_alloc_new w4 _) (by kernel_rfl) rfl hallL.out ?_; rewrite [World.setRow_alloc_new, HWL.out])
       (try simp only [Act.put])
       clear HWL
       obtain ⟨bx, hbx⟩ := xj w4.heap.size
       rw [hbx] at S5 HBX ⊢
       clear hbx
       have HSE : Hid (∀ (Xa Xb : Ss) (ka kb : Nat) (c1 c2 cl cs : Array Value) Hd Pd W, Duo w pa pb Xa Xb ka kb [(bx, cl, 55), (b2, c2, 41), (b1, c1, 41), (ba, (acc a).toArray, 57)] (.slice sa S.length sc) S Hd Pd W → Duo w pa pb Xa Xb ka kb [(bx, cl, 55), (b2, c2, 41), (b1, cs, 41), (ba, (acc a).toArray, 57)] (.slice sa S.length sc) S Hd Pd (W.setRow b1 cs) ∧ Duo w pa pb Xa Xb ka kb [(bx, cl, 55), (b2, cs, 41), (b1, c1, 41), (ba, (acc a).toArray, 57)] (.slice sa S.length sc) S Hd Pd (W.setRow b2 cs)) := fun Xa Xb ka kb c1 c2 cl cs Hd Pd W h => by
        have := HD2.out
        exact ⟨Duo.set (l1 := [(bx, cl, 55), (b2, c2, 41)]) (l2 := [(ba, (acc a).toArray, 57)]) h (by decide) (fun p hp => by
         rcases List.mem_cons.1 hp with rfl | hp
         ·show bx ≠ b1
          omega
         ·rw [List.mem_singleton.1 hp]
          show b2 ≠ b1
          omega) (fun p hp => by rw [List.mem_singleton.1 hp]; show ba ≠ b1; omega), Duo.set (l1 := [(bx, cl, 55)]) (l2 := [(b1, c1, 41), (ba, (acc a).toArray, 57)]) h (by decide) (fun p hp => by rw [List.mem_singleton.1 hp]; show bx ≠ b2; omega) (fun p hp => by
         rcases List.mem_cons.1 hp with rfl | hp
         ·show b1 ≠ b2
          omega
         ·rw [List.mem_singleton.1 hp]
          show ba ≠ b2
          omega)⟩
       have C17 : Hid (1 = 1 → _) := fun _ => S5.out.hear hk9 HO0.out l hw hs hp (HLA.out WL S5.out.below)
       have C18 : Hid (∀ c1 c2 cl Pd W, Duo w pa pb (hearR X l).1 X (18 * i + 9) (18 * i) [(bx, cl, 55), (b2, c2, 41), (b1, c1, 41), (ba, (acc a).toArray, 57)] (.slice sa S.length sc) S [] Pd W → _) := fun c1 c2 cl Pd W h => h.swap.hear hk9 HO0.out l hw hs hp (HLA.out W h.below)
       have HOUT : Hid ((hearR X l).1.out.length ≤ 2000) := by
        have := hearR_out (X := X) (R.out.tw.gs.1.pl bt_good) l
        rw [R.out.out] at this
        exact Nat.le_trans this (by decide)
       have TW : Hid (l.r.k ≠ 0 → hearR { (hearR X l).1 with out := [] } l = ({ (hearR X l).1 with out := [] }, zS)) := hearR_twice R.out.tw.gs.2.1
       have NL : Hid (WL.heap[bx]? = some (.cells (lfc l hw hs hp).toArray 55 (0, 0))) := S5.out.bm mc
       generalize hearR X l = D at *
       go_wp2_with (refine wpList_load_row rfl 55 _ rfl bx rfl 55 _ (0, 0) _ NL.out Tryz.underlying55 rfl (by kernel_rfl) ?_)
       refine (C17.out (by trivial)).mono ?_
       rintro e w5 ⟨v1, rfl, hv1, h5⟩
       have N5 : Hid (w5.heap[b1]? = some (.cells (rsc zS sy).toArray 41 (0, 0))) := h5.bm (by simp)
       have S6 : Hid _ := (HSE.out _ _ _ _ _ _ _ (rsc D.2 v1).toArray _ _ _ h5).1
       obtain ⟨W6, hW6⟩ := xj (w5.setRow b1 (rsc D.2 v1).toArray)
       rw [hW6] at S6
       have HE6 : Hid (w5.setRow b1 (rsc D.2 v1).toArray = W6) := hW6
       have N6 : Hid (W6.heap[bx]? = some (.cells (lfc l hw hs hp).toArray 55 (0, 0))) := S6.out.bm mc
       have hall1 := rsc_all D.2 v1 hv1
       have HV1 : Hid (v1.oneCell' = true) := hv1
       clear h5 C17 hW6 S5 NL hv1
       go_wp2_with (first
        | (refine wpList_store_row rfl 41 _ _ rfl b1 (rsc D.2 v1).toArray rfl rfl 41 _ N5.out (by kernel_rfl) rfl hall1 ?_; rewrite [HE6.out])
        | (refine wpList_load_row rfl 55 _ rfl bx rfl 55 _ (0, 0) _ N6.out Tryz.underlying55 rfl (by kernel_rfl) ?_))
       refine (C18.out _ _ _ _ _ S6.out).mono ?_
       rintro e w7 ⟨v2, rfl, hv2, h7⟩
       have N7 : Hid (w7.heap[b2]? = some (.cells (rsc zS sy).toArray 41 (0, 0))) := h7.bm (by simp)
       have S8 : Hid _ := (HSE.out _ _ _ _ _ _ _ (rsc D.2 v2).toArray _ _ _ h7.swap).2
       obtain ⟨W8, hW8⟩ := xj (w7.setRow b2 (rsc D.2 v2).toArray)
       rw [hW8] at S8
       have HE8 : Hid (w7.setRow b2 (rsc D.2 v2).toArray = W8) := hW8
       have k17 : W8.cell? ⟨bx, 17, none⟩ = some (iw l.r.k) := block_cell (S8.out.bm (b := bx) (cs := (lfc l hw hs hp).toArray) (ty := 55) (by simp)) rfl
       have hall2 := rsc_all D.2 v2 hv2
       have HV2 : Hid (v2.oneCell' = true) := hv2
       clear h7 C18 hW8 S6 N6 hv2 hall1 N5 HE6 HSE
       by_cases hk0 : l.r.k = 0
       ·have hk0b : (l.r.k != 0) = false := by rw [hk0]; rfl
        have F : Hid (Mi6 w pa pb ba b1 b2 i a D.1 D.2 v1 v2 D.2.ps (.slice sa S.length sc) S W8) := ⟨(S8.out.less (fun p hp => List.mem_cons_of_mem _ hp)).le (by omega) (by omega), HV1.out, HV2.out, HOUT.out⟩
        clear hk0
        go_wp2_with (refine wpList_store_row rfl 41 _ _ rfl b2 (rsc D.2 v2).toArray rfl rfl 41 _ N7.out (by kernel_rfl) rfl hall2 ?_; rewrite [HE8.out])
        go_meet
        exact ⟨_, _, _, _, _, rfl, F⟩
       ·have hk0b : (l.r.k != 0) = true := bne_iff_ne.2 hk0
        have HT : Hid _ := TW.out hk0
        have HRS : Hid (S.length ≤ 2000 * i ∧ (∀ x ∈ S, x.vw.oneCell' = true ∧ x.vs.oneCell' = true) ∧ i < acts.length ∧ i < 60) := ⟨R.out.sl, R.out.so, hlt, hi59⟩
        have C13 : Hid (1 = 1 → _) := fun _ => S8.out.swap.out
        clear hk0 TW HO0 HAc hk9 R HA HO hi hi60 hlen hlt hlt' hi59 h60' q0b HBX
        go_wp2_with (refine wpList_store_row rfl 41 _ _ rfl b2 (rsc D.2 v2).toArray rfl rfl 41 _ N7.out (by kernel_rfl) rfl hall2 ?_; rewrite [HE8.out])
        refine (C13.out (by trivial)).mono ?_
        rintro e w9 ⟨vb, L2, rfl, l2, h9⟩
        have S9 : Hid _ := h9
        have k := S9.out.hear (by have := HRS.out; omega) (Nat.zero_le _) l hw hs hp (HLA.out w9 S9.out.below)
        rw [HT.out] at k
        have C17 : Hid (1 = 1 → _) := fun _ => k
        have N9 : Hid (w9.heap[bx]? = some (.cells (lfc l hw hs hp).toArray 55 (0, 0))) := S9.out.bm mc
        clear k h9 C13 S8 N7 HE8 hall2 k17
        go_upto_region 22 with fail
        go_wp2_with (refine wpList_load_row rfl 55 _ rfl bx rfl 55 _ (0, 0) _ N9.out Tryz.underlying55 rfl (by kernel_rfl) ?_)
        refine (C17.out (by trivial)).mono ?_
        rintro e wa ⟨v3, rfl, hv3, ha⟩
        have Sa : Hid _ := ha.on (al (W := wa) (.cells (rsc zS v3).toArray 41))
        have hall3 := rsc_all zS v3 hv3
        obtain ⟨Wc, hWc⟩ := xj (wa.alloc (.cells (rsc zS v3).toArray 41))
        have c0 : Wc.cell? ⟨wa.heap.size, 0, none⟩ = some (iw 0) := by
         have k := heap_alloc_new wa (.cells (rsc zS v3).toArray 41)
         rw [hWc] at k
         exact block_cell k rfl
        rw [hWc] at Sa
        have HWc : Hid (wa.alloc (.cells (rsc zS v3).toArray 41) = Wc) := hWc
        have C13 : Hid (1 = 1 → _) := fun _ => Sa.out.out
        clear ha C17 S9 N9 hWc hv3 Sa
        go_wp2_with (refine wpList_store_row rfl 41 _ _ rfl wa.heap.size (rsc zS v3).toArray rfl rfl 41 _ (heap_alloc_new wa _) (by kernel_rfl) rfl hall3 ?_; rewrite [World.setRow_alloc_new, HWc.out])
        refine (C13.out (by trivial)).mono ?_
        rintro e wd ⟨vc, L3, rfl, l3, hd⟩
        have e3 : L3 = [] := List.map_eq_nil_iff.1 l3
        subst e3
        have Sd : Hid _ := hd
        obtain ⟨ac, cc, hvc, -⟩ := rw_own (hd.row (q := (vc, [])) (by simp)).1
        dsimp only [List.length_nil] at hvc
        subst hvc
        have C14 : Hid (1 = 1 → _) := fun _ => Sd.out.swap.out
        clear hd C13 c0 HWc hall3 l3
        go_upto_region 25 with fail
        go_wp2_with fail
        refine (C14.out (by trivial)).mono ?_
        rintro e we ⟨va, L1, rfl, l1, he⟩
        have H8 : Hid _ := he
        clear he C14 Sd
        obtain ⟨aa, ca, hva, -⟩ := rw_own (H8.out.row (q := (va, L1)) (by simp)).1
        obtain ⟨ab, cb, hvb, -⟩ := rw_own (H8.out.row (q := (vb, L2)) (by simp)).1
        dsimp only at hva hvb
        subst hva hvb
        have HLN : Hid (L2.length ≤ 2000 ∧ L2.map Lx.l = L1.map Lx.l) := ⟨by
         have := congrArg List.length l2
         rw [List.length_map] at this
         rw [this]
         exact HOUT.out, l2.trans l1.symm⟩
        have C24 : Hid (1 = 1 → Calls Tryz.prog 24 #[.slice ab L2.length cb, .slice aa L1.length ca] we fun e w' => e = .returned (.bool true) ∧ Below we.heap.size we w') := fun _ => letters24 L2 L1 ab aa cb ca we (rw_own (H8.out.row (q := (.slice ab L2.length cb, L2)) (by simp)).1) (rw_own (H8.out.row (q := (.slice aa L1.length ca, L1)) (by simp)).1) (H8.out.row (q := (.slice ab L2.length cb, L2)) (by simp)).2 (H8.out.row (q := (.slice aa L1.length ca, L1)) (by simp)).2 HLN.out.2 (by have := HLN.out.1; omega)
        obtain ⟨p1, k1, hv1, -⟩ := PsAt.shape (H8.out.prs (q := (v1, D.2.ps)) (by simp))
        obtain ⟨p2, k2, hv2, -⟩ := PsAt.shape (H8.out.prs (q := (v2, D.2.ps)) (by simp))
        dsimp only at hv1 hv2
        subst hv1 hv2
        clear l1 l2
        go_wp2_with fail
        refine (C24.out (by trivial)).mono ?_
        rintro e wf ⟨rfl, hf⟩
        have H9 : Hid _ := H8.out.on hf
        have NR1 : Hid (wf.heap[b1]? = some (.cells (rsc D.2 (.slice p1 D.2.ps.length k1)).toArray 41 (0, 0))) := H9.out.bm (by simp)
        have NR2 : Hid (wf.heap[b2]? = some (.cells (rsc D.2 (.slice p2 D.2.ps.length k2)).toArray 41 (0, 0))) := H9.out.bm (by simp)
        have C23 : Hid (1 = 1 → Calls Tryz.prog 23 #[.agg (rsc D.2 (.slice p1 D.2.ps.length k1)).toArray, .agg (rsc D.2 (.slice p2 D.2.ps.length k2)).toArray] wf fun e w' => e = .returned (.bool true) ∧ Below wf.heap.size wf w') := fun _ => same23 D.2 p1 p2 k1 k2 wf (H9.out.prs (q := (.slice p1 D.2.ps.length k1, D.2.ps)) (by simp)) (H9.out.prs (q := (.slice p2 D.2.ps.length k2, D.2.ps)) (by simp))
        clear hf C24 H8
        go_wp2_with (first
         | (refine wpList_load_row_g rfl 41 _ rfl b1 rfl 41 _ (0, 0) _ NR1.out Tryz.underlying41 rfl (by kernel_rfl) ?_)
         | (refine wpList_load_row_g rfl 41 _ rfl b2 rfl 41 _ (0, 0) _ NR2.out Tryz.underlying41 rfl (by kernel_rfl) ?_))
        refine (C23.out (by trivial)).mono ?_
        rintro e wg ⟨rfl, hg⟩
        have Hg : Hid _ := H9.out.on hg
        have HOw : Hid _ := Hg.out.ow (vo := .slice ab L2.length cb) (L := L2) (by simp) (by have := HLN.out.1; have := HRS.out; omega)
        have fin : Hid (∀ v' w8, w8.ownsRow w.heap.size 55 31 v' (S.length + L2.length) (rowC lxc S ++ rowC lxc L2) → wg.grownBy w8 (Value.slice sa S.length sc).ownBlock → (v'.ownBlock = (Value.slice sa S.length sc).ownBlock ∨ v'.ownBlock = some wg.heap.size) → Ro6 w pa pb (i + 1) { D.1 with out := [] } v' (S ++ L2) w8) := fun v' w8 g1 g2 g3 => Ro6.of Hg.out rfl rfl (by omega) (by omega) rfl (vo := .slice ab L2.length cb) (by simp) HLN.out.1 HRS.out.1 HRS.out.2.1 g1 g2 g3
        obtain ⟨i0, z0', hin0, hi0, hi1, hi2, hi3⟩ := info55
        clear hg C23 H9 NR1 NR2
        go_upto_region 27 with fail
        go_wp2_with (at_builtin; refine wpList_append_rw HOw.out Tryz.underlying46 hin0 hi0 hi1 hi2 hi3 (by decide) (by decide) (.tmp 94) (.tmp 95) rfl rfl rfl rfl ?_)
        intro v' wh g1 g2 g3
        have RF : Hid _ := fin.out v' wh g1 g2 g3
        obtain ⟨va', vc', hve', -⟩ := rw_own g1
        subst hve'
        clear g1 g2 g3 HOw fin Hg
        have hI1 : (i : Int) + 1 < 9223372036854775808 := by have := HRS.out; omega
        go_wp2_with fail
        go_roundw
        case rel => exact ⟨i + 1, _, _, by go_num, HRS.out.2.2.1, HRS.out.2.2.2, RF⟩
        case measure => have := HRS.out; simp [intOf]; omega
     have q1b : (a.what == 1) = false := beq_eq_false_iff_ne.2 (fun g => q14 (.inl g))
     have q4b : (a.what == 4) = false := beq_eq_false_iff_ne.2 (fun g => q14 (.inr g))
     by_cases q2 : a.what = 2
     ·have q2b : (a.what == 2) = true := by rw [q2]; rfl
      have C20 : Hid (1 = 1 → _) := fun _ => SX.out.again hk9 HO0.out
      have C21 : Hid (∀ W, Duo w pa pb (againF X) X (18 * i + 9) (18 * i) [(b2, (rsc zS sy).toArray, 41), (b1, (rsc zS sy).toArray, 41), (ba, (acc a).toArray, 57)] (.slice sa S.length sc) S [] [] W → _) := fun W h => h.swap.again hk9 HO0.out
      have HOUT : Hid ((againF X).out.length ≤ 2000) := by
       show (X.out ++ X.asks.map (letF X)).length ≤ 2000
       rw [R.out.out, List.nil_append, List.length_map]
       have := R.out.tw.gs.2.2
       omega
      clear q2 q14 q0
      go_wp2_with fail
      refine (C20.out (by trivial)).mono ?_
      rintro e w5 ⟨rfl, h5⟩
      have H5 : Hid _ := h5
      clear h5 C20 SX
      go_wp2_with fail
      refine (C21.out _ H5.out).mono ?_
      rintro e w6 ⟨rfl, h6⟩
      have F : Hid (Mi6 w pa pb ba b1 b2 i a (againF X) zS sy sy [] (.slice sa S.length sc) S w6) := ⟨h6.swap.newp.newp.le (by omega) (by omega), rfl, rfl, HOUT.out⟩
      clear h6 C21 H5
      go_wp2_with fail
      go_meet
      exact ⟨_, _, _, _, _, rfl, F⟩
     have q2b : (a.what == 2) = false := beq_eq_false_iff_ne.2 q2
     by_cases q3 : a.what = 3
     ·have q3b : (a.what == 3) = true := by rw [q3]; rfl
      have C12 : Hid (1 = 1 → _) := fun _ => SX.out.give hk9 HO0.out
      have C13 : Hid (∀ c1 c2 W, Duo w pa pb (giveF bt X).1 X (18 * i + 9) (18 * i) [(b2, c2, 41), (b1, c1, 41), (ba, (acc a).toArray, 57)] (.slice sa S.length sc) S [] [] W → _) := fun c1 c2 W h => h.swap.give hk9 HO0.out
      have HOUT : Hid ((giveF bt X).1.out.length ≤ 2000) := by
       have := (give_gw (B := bt) (s := X) (R.out.tw.gs.1.pl bt_good)).lo
       rw [R.out.out] at this
       exact Nat.le_trans this (by decide)
      generalize giveF bt X = D at *
      unfold rsV at C12 C13
      have hall := rsc_all D.2 sy rfl
      clear q3 q2 q14 q0
      go_wp2_with fail
      refine (C12.out (by trivial)).mono ?_
      rintro e w4 ⟨rfl, h4⟩
      have N4 : Hid (w4.heap[b1]? = some (.cells (rsc zS sy).toArray 41 (0, 0))) := h4.bm (by simp)
      have S4 : Hid _ := ((HSET.out _ _ _ _ _ _ (rsc D.2 sy).toArray _ _ h4).1)
      obtain ⟨W5, hW5⟩ := xj (w4.setRow b1 (rsc D.2 sy).toArray)
      rw [hW5] at S4
      have HE5 : Hid (w4.setRow b1 (rsc D.2 sy).toArray = W5) := hW5
      clear h4 C12 hW5 SX
      go_wp2_with (refine wpList_store_row rfl 41 _ _ rfl b1 (rsc D.2 sy).toArray rfl rfl 41 _ N4.out (by kernel_rfl) rfl hall ?_; rewrite [HE5.out])
      refine (C13.out _ _ _ S4.out).mono ?_
      rintro e w6 ⟨rfl, h6⟩
      have N6 : Hid (w6.heap[b2]? = some (.cells (rsc zS sy).toArray 41 (0, 0))) := h6.bm (by simp)
      have F : Hid (Mi6 w pa pb ba b1 b2 i a D.1 D.2 sy sy [] (.slice sa S.length sc) S (w6.setRow b2 (rsc D.2 sy).toArray)) := ⟨((HSET.out _ _ _ _ _ _ (rsc D.2 sy).toArray _ _ h6.swap).2.newp.newp.le (by omega) (by omega)), rfl, rfl, HOUT.out⟩
      clear h6 C13 S4 HSET
      go_wp2_with (refine wpList_store_row rfl 41 _ _ rfl b2 (rsc D.2 sy).toArray rfl rfl 41 _ N6.out (by kernel_rfl) rfl hall ?_)
      go_meet
      exact ⟨_, _, _, _, _, rfl, F⟩
     have q3b : (a.what == 3) = false := beq_eq_false_iff_ne.2 q3
     have F : Hid (Mi6 w pa pb ba b1 b2 i a X zS sy sy [] (.slice sa S.length sc) S WA) := ⟨SX.out.newp.newp.le (by omega) (by omega), rfl, rfl, by rw [R.out.out]; exact Nat.zero_le _⟩
     clear q3 q2 q14 q0
     go_wp2_with fail
     go_meet
     exact ⟨_, _, _, _, _, rfl, F⟩
    case rest =>
     obtain ⟨X1, r, v1, v2, ps, rfl, hM⟩ := hcut
     have HM : Hid (Mi6 w pa pb ba b1 b2 i a X1 r v1 v2 ps (.slice sa S.length sc) S wc) := hM
     have HRS : Hid (S.length ≤ 2000 * i ∧ (∀ x ∈ S, x.vw.oneCell' = true ∧ x.vs.oneCell' = true) ∧ i < acts.length ∧ i < 60) := ⟨R.out.sl, R.out.so, hlt, hi59⟩
     have C13 : Hid (1 = 1 → _) := fun _ => HM.out.tw.out
     clear hM SX HO0 HAc hk9 R HA HO HSET hlt hlt' hi hi60 hi59 h60' hlen
     go_wp2_with fail
     refine (C13.out (by trivial)).mono ?_
     rintro e w7 ⟨va, L1, rfl, l1, h7⟩
     have H7 : Hid _ := h7
     have C14 : Hid (1 = 1 → _) := fun _ => H7.out.swap.out
     clear h7 C13
     go_wp2_with fail
     refine (C14.out (by trivial)).mono ?_
     rintro e w8 ⟨vb, L2, rfl, l2, h8⟩
     have H8 : Hid _ := h8.swap
     clear h8 C14 H7
     obtain ⟨aa, ca, hva, -⟩ := rw_own (H8.out.row (q := (va, L1)) (by simp)).1
     obtain ⟨ab, cb, hvb, -⟩ := rw_own (H8.out.row (q := (vb, L2)) (by simp)).1
     dsimp only at hva hvb
     subst hva hvb
     have HLN : Hid (L1.length ≤ 2000 ∧ L1.map Lx.l = L2.map Lx.l) := ⟨by
      have := congrArg List.length l1
      rw [List.length_map] at this
      rw [this]
      exact HM.out.out, l1.trans l2.symm⟩
     obtain ⟨p1, k1, hv1, -⟩ := PsAt.shape (HM.out.tw.prs (q := (v1, ps)) (by simp))
     obtain ⟨p2, k2, hv2, -⟩ := PsAt.shape (HM.out.tw.prs (q := (v2, ps)) (by simp))
     dsimp only at hv1 hv2
     subst hv1 hv2
     have C24 : Hid (1 = 1 → Calls Tryz.prog 24 #[.slice aa L1.length ca, .slice ab L2.length cb] w8 fun e w' => e = .returned (.bool true) ∧ Below w8.heap.size w8 w') := fun _ => letters24 L1 L2 aa ab ca cb w8 (rw_own (H8.out.row (q := (.slice aa L1.length ca, L1)) (by simp)).1) (rw_own (H8.out.row (q := (.slice ab L2.length cb, L2)) (by simp)).1) (H8.out.row (q := (.slice aa L1.length ca, L1)) (by simp)).2 (H8.out.row (q := (.slice ab L2.length cb, L2)) (by simp)).2 HLN.out.2 (by have := HLN.out.1; omega)
     go_wp2_with fail
     refine (C24.out (by trivial)).mono ?_
     rintro e w9 ⟨rfl, h9⟩
     have H9 : Hid _ := H8.out.on h9
     have NR1 : Hid (w9.heap[b1]? = some (.cells (rsc r (.slice p1 ps.length k1)).toArray 41 (0, 0))) := H9.out.bm (by simp)
     have NR2 : Hid (w9.heap[b2]? = some (.cells (rsc r (.slice p2 ps.length k2)).toArray 41 (0, 0))) := H9.out.bm (by simp)
     have C23 : Hid (1 = 1 → Calls Tryz.prog 23 #[.agg (rsc r (.slice p1 ps.length k1)).toArray, .agg (rsc r (.slice p2 ps.length k2)).toArray] w9 fun e w' => e = .returned (.bool true) ∧ Below w9.heap.size w9 w') := fun _ => same23 { r with ps := ps } p1 p2 k1 k2 w9 (H9.out.prs (q := (.slice p1 ps.length k1, ps)) (by simp)) (H9.out.prs (q := (.slice p2 ps.length k2, ps)) (by simp))
     clear h9 C24 H8
     go_wp2_with (first
      | (refine wpList_load_row_g rfl 41 _ rfl b1 rfl 41 _ (0, 0) _ NR1.out Tryz.underlying41 rfl (by kernel_rfl) ?_)
      | (refine wpList_load_row_g rfl 41 _ rfl b2 rfl 41 _ (0, 0) _ NR2.out Tryz.underlying41 rfl (by kernel_rfl) ?_))
     refine (C23.out (by trivial)).mono ?_
     rintro e wa ⟨rfl, ha⟩
     have Ha : Hid _ := H9.out.on ha
     have CQ : Hid (1 = 1 → _) := fun _ => Ha.out.quiet
     clear ha C23 H9 NR1 NR2
     go_wp2_with fail
     refine (CQ.out (by trivial)).mono ?_
     rintro e wb ⟨rfl, hb⟩
     have Hb : Hid _ := Ha.out.on hb
     have CR : Hid (1 = 1 → _) := fun _ => Hb.out.swap.quiet
     clear hb CQ Ha
     go_wp2_with fail
     refine (CR.out (by trivial)).mono ?_
     rintro e wd ⟨rfl, hd⟩
     have Hd : Hid _ := Hb.out.on hd
     have HOw : Hid _ := Hd.out.ow (vo := .slice aa L1.length ca) (L := L1) (by simp) (by have := HLN.out.1; have := HRS.out; omega)
     have fin : Hid (∀ v' w8, w8.ownsRow w.heap.size 55 31 v' (S.length + L1.length) (rowC lxc S ++ rowC lxc L1) → wd.grownBy w8 (Value.slice sa S.length sc).ownBlock → (v'.ownBlock = (Value.slice sa S.length sc).ownBlock ∨ v'.ownBlock = some wd.heap.size) → Ro6 w pa pb (i + 1) { X1 with out := [] } v' (S ++ L1) w8) := fun v' w8 g1 g2 g3 => Ro6.of Hd.out rfl rfl (by omega) (by omega) rfl (vo := .slice aa L1.length ca) (by simp) HLN.out.1 HRS.out.1 HRS.out.2.1 g1 g2 g3
     obtain ⟨i0, z0', hin0, hi0, hi1, hi2, hi3⟩ := info55
     clear hd CR Hb
     generalize hqz : (X1.asks.length == 0) = qz at *
     have hqq : (qz != qz) = false := by simp
     clear hqz
     go_upto_region 37 with fail
     clear hqq
     go_wp2_with (at_builtin; refine wpList_append_rw HOw.out Tryz.underlying46 hin0 hi0 hi1 hi2 hi3 (by decide) (by decide) (.tmp 129) (.tmp 130) rfl rfl rfl rfl ?_)
     intro v' we g1 g2 g3
     have RF : Hid _ := fin.out v' we g1 g2 g3
     obtain ⟨va', vc', hve', -⟩ := rw_own g1
     subst hve'
     clear g1 g2 g3 HOw fin Hd
     have hI1 : (i : Int) + 1 < 9223372036854775808 := by have := HRS.out; omega
     go_wp2_with fail
     go_roundw
     case rel => exact ⟨i + 1, _, _, by go_num, HRS.out.2.2.1, HRS.out.2.2.2, RF⟩
     case measure => have := HRS.out; simp [intOf]; omega
  ·have hge : ¬ (i : Int) < (acts.length : Int) := by omega
   go_wp2_with fail
   go_ret
   exact ⟨rfl, R.out.tw.below⟩
end Go.Proofs.YtkdkgdollmmcnaaGreat
