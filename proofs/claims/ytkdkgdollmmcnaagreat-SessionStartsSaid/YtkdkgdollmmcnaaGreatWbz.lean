import Derived.Test.YtkdkgdollmmcnaaGreatWby
set_option maxHeartbeats 4000000
set_option maxRecDepth 100000
set_option linter.unusedVariables false
set_option linter.unusedSimpArgs false
namespace Go.Proofs.YtkdkgdollmmcnaaGreat
open Go.RowKit Go.Sort Go.Shelf
variable {M M' G N : Nat → Prop} {W W' w : World} {f f' : Fo} {X X' : Ss}
structure Ro5 (w : World) (sb bl i n lp ll : Nat) (X : Ss) (vS : Value) (S : List Lx) (W : World) : Prop where
 se : Se w sb X (9 * i) [(bl, #[uw lp, uu ll], 34)] vS S W
 out : X.out = []
 up : Up X (lp, ll)
 n : X.n = n
 cl : X.cl = 1
 sl : S.length ≤ 1000 * i
 so : ∀ x ∈ S, x.vw.oneCell' = true ∧ x.vs.oneCell' = true
structure Mi5 (w : World) (sb bl ba br i n lp ll : Nat) (a : Ac) (X : Ss) (r : Rs) (vp : Value) (vS : Value) (S : List Lx) (W : World) : Prop where
 se : Se w sb X (9 * i + 9) [(br, (rsc r vp).toArray, 41), (ba, (acc a).toArray, 57), (bl, #[uw lp, uu ll], 34)] vS S W
 one : vp.oneCell' = true
 out : X.out.length ≤ 1000
 up : Up X (if r.k = 4 ∧ (lp < r.ap ∨ lp = r.ap ∧ ll < r.al) then (r.ap, r.al) else (lp, ll))
 n : X.n = n
 cl : X.cl = 1
theorem row_one55 {L : List Lx} (h : ∀ x ∈ L, x.vw.oneCell' = true ∧ x.vs.oneCell' = true) : ∀ u ∈ rowC lxc L, u.oneCell' = true := fun u hu => by
 obtain ⟨x, hx, hu⟩ := List.mem_flatMap.1 hu
 unfold lxc lec at hu
 simp only [List.mem_cons, List.mem_append] at hu
 rcases hu with rfl | rfl | rfl | rfl | hu | hu
 ·rfl
 ·rfl
 ·rfl
 ·rfl
 ·exact rqc_one (h x hx).1 (h x hx).2 u hu
 ·unfold zrc at hu
  simp only [List.mem_cons, List.not_mem_nil, or_false] at hu
  rcases hu with rfl | rfl | rfl | rfl | rfl | rfl | rfl | rfl | rfl | rfl | rfl | rfl | rfl | rfl <;> rfl
theorem hearR_cm (X : Ss) (l : Le) : Cm X (hearR X l) := by
 unfold hearR
 split
 ·exact hear_cm bt X l
 ·exact Cm.of (St.refl X) zs_k
theorem hearR_out {X : Ss} (hp : (bt.parts X.ws X.nsh).length ≤ 8) (l : Le) : (hearR X l).1.out.length ≤ X.out.length + 9 := by
 unfold hearR
 split
 ·exact (hear_gw hp l).lo
 ·exact Nat.le_add_right _ _
theorem starts5 (acts : List Ac) (ao : Option Addr) (cap : Nat) (w : World) (hA : RwAt w.heap.size 53 (.slice ao acts.length cap) acts.length (rowC acc acts) w) (hO : ∀ a ∈ acts, AcOk w a) : Calls Tryz.prog 5 #[.slice ao acts.length cap] w fun e w' => e = .returned (.bool true) ∧ Below w.heap.size w w' := by
 have HA : Hid _ := hA
 have HO : Hid (∀ a ∈ acts, AcOk w a) := hO
 have hlen : (acts.length : Int) < 9223372036854775808 := by
  obtain ⟨ao', cap', e, -, h2, h3, -⟩ := hA
  omega
 have C7 : Hid (1 = 1 → _) := fun _ => awake7 w
 clear hA hO
 go_enter Tryz.func5, Tryz.ntmps5
 go_wp2_with fail
 refine (C7.out (by trivial)).mono ?_
 rintro e w1 ⟨rfl, h1⟩
 have C8 : Hid (1 = 1 → _) := fun _ => Se.new (w := w) (w1 := w1) 1 3 (by decide) (by decide) h1
 clear C7 h1
 go_wp2_with fail
 refine (C8.out (by trivial)).mono ?_
 rintro e w2 ⟨sb, rfl, h2⟩
 obtain ⟨bl, hbl⟩ := xj w2.heap.size
 have R0 : Hid (Ro5 w sb bl 0 0 0 0 (Ss.new 1 3) sy [] (w2.alloc (.cells #[.int .u64 0, .int .u32 0] 34))) := ⟨by rw [← hbl]; exact h2.box _ 34 (by decide), rfl, ⟨leT.refl _, leT.refl _⟩, rfl, rfl, Nat.zero_le _, fun x hx => by cases hx⟩
 obtain ⟨W0, hW0⟩ := xj (w2.alloc (.cells #[.int .u64 0, .int .u32 0] 34))
 rw [hW0] at R0
 clear h2 C8
 go_wp2_with fail
 clear hbl hW0
 go_loopw [5, 7, 19] (fun s5 s7 s19 wq => ∃ (i n lp ll : Nat) (X : Ss) (S : List Lx), s19 = iw (i : Int) ∧ s7 = uu n ∧ i ≤ acts.length ∧ i ≤ 80 ∧ Hid (Ro5 w sb bl i n lp ll X s5 S wq)) (fun _ _ s19 _ => acts.length - (intOf s19).toNat)
 case atStart => exact ⟨0, 0, 0, 0, _, [], rfl, rfl, Nat.zero_le _, Nat.zero_le _, R0⟩
 case round =>
  obtain ⟨i, n, lp, ll, X, S, rfl, rfl, hi, hi80, hR⟩ := hrel
  have R : Hid (Ro5 w sb bl i n lp ll X u5 S wr) := hR
  clear hR R0
  obtain ⟨sa, sc, hu5, -⟩ := rw_own R.out.se.own
  subst hu5
  by_cases hlt : i < acts.length
  ·have hlt' : (i : Int) < (acts.length : Int) := by omega
   obtain ⟨b0, off, rfl, hrng⟩ := acts_at HA.out R.out.se.below hlt
   have hAc := HO.out _ (getD_mem (d := dac) hlt)
   obtain ⟨a, ha⟩ := xj (acts.getD i dac)
   rw [ha] at hrng hAc
   have HAc : Hid (AcOk w a) := hAc
   have ER : Hid (wr.rangeAt b0 (off + i * 53) (acc a)) := hrng
   have hall : Hid ((acc a).toArray.all (·.oneCell') = true) := all_oneCell_toArray (acc_one hAc.one)
   clear hrng hAc ha
   have S9 : Hid (Se w sb X (9 * i) [(wr.heap.size, (acc a).toArray, 57), (bl, #[uw lp, uu ll], 34)] (.slice sa S.length sc) S (wr.alloc (.cells (acc a).toArray 57))) := R.out.se.box _ 57 (by decide)
   obtain ⟨W9, hW9⟩ := xj (wr.alloc (.cells (acc a).toArray 57))
   rw [hW9] at S9
   by_cases h80 : i = 80
   ·have h80' : ((i : Int) == 80) = true := by rw [h80]; rfl
    clear h80
    go_wp2_with (first
     | (refine wpList_load_mid rfl 57 _ rfl b0 (off + i * 53) rfl (acc a) _ ER.out Tryz.underlying57 rfl (by kernel_rfl) ?_)
     | (refine wpList_store_row rfl 57 _ _ rfl wr.heap.size (acc a).toArray rfl rfl 57 _ (heap_alloc_new wr _) (by kernel_rfl) rfl hall.out ?_; rewrite [World.setRow_alloc_new, hW9]))
    go_ret
    exact ⟨rfl, S9.out.below⟩
   ·have h80' : ((i : Int) == 80) = false := beq_eq_false_iff_ne.2 (by omega)
    have hi79 : i < 80 := by omega
    clear h80
    go_upto_region 11 with (first
     | (refine wpList_load_mid rfl 57 _ rfl b0 (off + i * 53) rfl (acc a) _ ER.out Tryz.underlying57 rfl (by kernel_rfl) ?_)
     | (refine wpList_store_row rfl 57 _ _ rfl wr.heap.size (acc a).toArray rfl rfl 57 _ (heap_alloc_new wr _) (by kernel_rfl) rfl hall.out ?_; rewrite [World.setRow_alloc_new, hW9]))
    (try simp only [Act.put])
    clear hW9 ER hall
    obtain ⟨ba, hba⟩ := xj wr.heap.size
    rw [hba] at S9 ⊢
    clear hba
    obtain ⟨br, hbr⟩ := xj W9.heap.size
    have SX : Hid (Se w sb X (9 * i) [(br, (rsc zS sy).toArray, 41), (ba, (acc a).toArray, 57), (bl, #[uw lp, uu ll], 34)] (.slice sa S.length sc) S (W9.alloc (.cells (rsc zS sy).toArray 41))) := by rw [← hbr]; exact S9.out.box _ 41 (by decide)
    have HDS : Hid (ba < br ∧ bl < br ∧ bl ≠ ba) := by
     have k1 := lt_blk (S9.out.bm mc)
     have k2 := S9.out.bm (b := bl) (List.mem_cons_of_mem _ mc)
     exact ⟨by omega, by have := lt_blk k2; omega, fun e => by
      have k3 := S9.out.bm mc
      rw [e, k3] at k2
      injection k2 with k2
      injection k2 with _ k2 _
      cases k2⟩
    obtain ⟨WX, hWX⟩ := xj (W9.alloc (.cells (rsc zS sy).toArray 41))
    rw [hWX] at SX
    have NX : Hid ((W9.alloc (.cells RZ 41)).heap[br]? = some (.cells RZ 41 (0, 0))) := by rw [← hbr]; exact heap_alloc_new W9 _
    have EX : Hid ((W9.alloc (.cells RZ 41)).setRow br (rsc zS sy).toArray = WX) := by
     show _ = _
     rw [← hbr, World.setRow_alloc_new, hWX]
    have hz := rsc_all zS sy rfl
    clear hWX S9
    go_upto_region 12 with (first
     | (refine wpList_store_row rfl 41 _ _ rfl br (rsc zS sy).toArray rfl rfl 41 _ NX.out (by kernel_rfl) rfl hz ?_; rewrite [EX.out]))
    (try simp only [Act.put])
    clear NX EX hz hbr
    have hcell0 : WX.cell? ⟨ba, 0, none⟩ = some (iw a.what) := block_cell (SX.out.bm (b := ba) (cs := (acc a).toArray) (ty := 57) (by simp)) rfl
    go_upto_block 2 with fail
    clear hcell0
    have hk9 : 9 * i ≤ 100000 := by omega
    have HO0 : Hid (X.out.length ≤ 100000) := by rw [R.out.out]; exact Nat.zero_le _
    have HP : Hid (∀ p ∈ [(ba, (acc a).toArray, (57 : TypeId)), (bl, #[uw lp, uu ll], 34)], p.1 ≠ br) := fun p hp => by
     simp only [List.mem_cons, List.not_mem_nil, or_false] at hp
     have := HDS.out
     rcases hp with rfl | rfl
     ·show ba ≠ br
      omega
     ·show bl ≠ br
      omega
    go_cut [7] (fun s7 wc => ∃ (n1 lp1 ll1 : Nat) (X1 : Ss) (r : Rs) (vp : Value), s7 = uu n1 ∧ Hid (Mi5 w sb bl ba br i n1 lp1 ll1 a X1 r vp (.slice sa S.length sc) S wc))
    case first =>
     by_cases q0 : a.what = 0
     ·have q0b : (a.what == 0) = true := by rw [q0]; rfl
      clear q0
      have e2 : WX.cell? ⟨ba, 2, none⟩ = some (uw a.ph) := block_cell (SX.out.bm (b := ba) (cs := (acc a).toArray) (ty := 57) (by simp)) rfl
      have RO : Hid (WX.rangeAt ba 3 [iw a.op.k, sd a.op.key, sd a.op.val, sd a.op.to, iw a.op.lim]) := range_box (o := 3) (n := 5) (SX.out.bm (b := ba) (cs := (acc a).toArray) (ty := 57) (by simp))
      have C11 : Hid (1 = 1 → _) := fun _ => SX.out.do hk9 HO0.out a.ph a.op
      obtain ⟨D, hD⟩ := xj (doF bt X a.ph a.op)
      have HD : Hid (doF bt X a.ph a.op = D) := hD
      rw [hD] at C11
      clear hD
      go_wp2_with (refine wpList_load_mid rfl 44 _ rfl ba 3 rfl [iw a.op.k, sd a.op.key, sd a.op.val, sd a.op.to, iw a.op.lim] _ RO.out Tryz.underlying44 rfl (by kernel_rfl) ?_)
      refine (C11.out (by trivial)).mono ?_
      rintro e w4 ⟨rfl, h4⟩
      have S4 : Hid (Se w sb D.1 (9 * i + 9) [(br, (rsc D.2 sy).toArray, 41), (ba, (acc a).toArray, 57), (bl, #[uw lp, uu ll], 34)] (.slice sa S.length sc) S (w4.setRow br (rsc D.2 sy).toArray)) := h4.setR HP.out _
      have N4 : Hid (w4.heap[br]? = some (.cells (rsc zS sy).toArray 41 (0, 0))) := h4.bm mc
      obtain ⟨W5, hW5⟩ := xj (w4.setRow br (rsc D.2 sy).toArray)
      rw [hW5] at S4
      have g3 : W5.cell? ⟨ba, 3, none⟩ = some (iw a.op.k) := block_cell (S4.out.bm (b := ba) (cs := (acc a).toArray) (ty := 57) (by simp)) rfl
      have r0 : W5.cell? ⟨br, 0, none⟩ = some (iw D.2.k) := block_cell (S4.out.bm (b := br) (cs := (rsc D.2 sy).toArray) (ty := 41) (by simp)) rfl
      clear h4 C11 e2 RO
      unfold rsV
      have hall4 := rsc_all D.2 sy rfl
      have HE5 : Hid (w4.setRow br (rsc D.2 sy).toArray = W5) := hW5
      clear hW5
      by_cases hbeg : a.op.k = 1 ∧ D.2.k = 1
      ·have u1 : (a.op.k == 1) = true := by rw [hbeg.1]; rfl
       have u2 : (D.2.k == 1) = true := by rw [hbeg.2]; rfl
       have HB := do_begin bt bt_ticks X a.ph a.op hbeg.1 (by rw [HD.out]; exact hbeg.2)
       rw [HD.out] at HB
       obtain ⟨t1, t2, t3, t4, t5, t6, t7, t8, t9, t10⟩ := HB
       have hup := R.out.up
       have hlt2 : lp < D.2.ap ∨ lp = D.2.ap ∧ ll < D.2.al := by
        have := hup.1.lt t1
        exact this
       have hn1 : D.2.n = n + 1 := by rw [t5, R.out.n]
       have hc1 : D.2.c = 1 := by rw [t4, R.out.cl]
       have hX1 : D.1.n = n + 1 := by rw [t8, R.out.n]
       have hX2 : D.1.cl = 1 := by rw [t9, R.out.cl]
       have HN : Hid (D.1.n = n + 1 ∧ D.1.cl = 1 ∧ Up D.1 (D.2.ap, D.2.al) ∧ D.2.k = 1 ∧ n < 1000) := ⟨hX1, hX2, ⟨by rw [t2]; exact leT.refl _, by rw [t2, t3]; exact leT.refl _⟩, hbeg.2, by have := R.out.se.ok.2.2.1; rw [R.out.n] at this; omega⟩
       have HOUT : Hid (D.1.out.length ≤ 1000) := by
        have := (do_gw (B := bt) (s := X) (R.out.se.gs.pl bt_good) R.out.se.gs.n.2 a.ph a.op).lo
        rw [HD.out, R.out.out] at this
        exact Nat.le_trans this (by decide)
       have r2 : W5.cell? ⟨br, 2, none⟩ = some (.int .u32 1) := by
        have k : W5.cell? ⟨br, 2, none⟩ = some (uu D.2.c) := block_cell (S4.out.bm (b := br) (cs := (rsc D.2 sy).toArray) (ty := 41) (by simp)) rfl
        rw [hc1] at k
        exact k
       have r3 : W5.cell? ⟨br, 3, none⟩ = some (.int .u32 ((n : Int) + 1)) := by
        have k : W5.cell? ⟨br, 3, none⟩ = some (uu D.2.n) := block_cell (S4.out.bm (b := br) (cs := (rsc D.2 sy).toArray) (ty := 41) (by simp)) rfl
        rw [hn1] at k
        exact k
       have r4 : W5.cell? ⟨br, 4, none⟩ = some (uw D.2.ap) := by
        have k : W5.cell? ⟨br, 4, none⟩ = some (uw D.2.sp) := block_cell (S4.out.bm (b := br) (cs := (rsc D.2 sy).toArray) (ty := 41) (by simp)) rfl
        rw [t6] at k
        exact k
       have r5 : W5.cell? ⟨br, 5, none⟩ = some (uu D.2.al) := by
        have k : W5.cell? ⟨br, 5, none⟩ = some (uu D.2.sl) := block_cell (S4.out.bm (b := br) (cs := (rsc D.2 sy).toArray) (ty := 41) (by simp)) rfl
        rw [t7] at k
        exact k
       have r6 : W5.cell? ⟨br, 6, none⟩ = some (uw D.2.ap) := block_cell (S4.out.bm (b := br) (cs := (rsc D.2 sy).toArray) (ty := 41) (by simp)) rfl
       have r7 : W5.cell? ⟨br, 7, none⟩ = some (uu D.2.al) := block_cell (S4.out.bm (b := br) (cs := (rsc D.2 sy).toArray) (ty := 41) (by simp)) rfl
       have l0 : W5.cell? ⟨bl, 0, none⟩ = some (uw lp) := block_cell (S4.out.bm (b := bl) (cs := #[uw lp, uu ll]) (ty := 34) (by simp)) rfl
       have l1 : W5.cell? ⟨bl, 1, none⟩ = some (uu ll) := block_cell (S4.out.bm (b := bl) (cs := #[uw lp, uu ll]) (ty := 34) (by simp)) rfl
       have z0 : W5.frozen? ⟨bl, 0, none⟩ = false := block_frozen (S4.out.bm (b := bl) (cs := #[uw lp, uu ll]) (ty := 34) (by simp)) 0
       have z1 : W5.frozen? ⟨bl, 1, none⟩ = false := block_frozen (S4.out.bm (b := bl) (cs := #[uw lp, uu ll]) (ty := 34) (by simp)) 1
       have hq38 := run_neq38 1 ((n : Int) + 1) 1 ((n : Int) + 1)
       have hq34 := run_neq34 (D.2.ap : Int) (D.2.al : Int) (D.2.ap : Int) (D.2.al : Int)
       rw [show (!((1 : Int) == 1 && ((n : Int) + 1) == ((n : Int) + 1))) = false from by simp] at hq38
       rw [show (!(((D.2.ap : Int)) == D.2.ap && ((D.2.al : Int)) == D.2.al)) = false from by simp] at hq34
       have SY : Hid (Se w sb D.1 (9 * i + 9) [(br, (rsc D.2 sy).toArray, 41), (ba, (acc a).toArray, 57), (bl, #[uw D.2.ap, uu D.2.al], 34)] (.slice sa S.length sc) S ((W5.setCell ⟨bl, 0, none⟩ (uw D.2.ap)).setCell ⟨bl, 1, none⟩ (uu D.2.al))) := S4.out.setL HDS.out.2.2 (by have := HDS.out; omega) _ _
       have hw : IntKind.u32.wrap ((n : Int) + 1) = (n : Int) + 1 := by have := u32_of (n := n + 1) (by have := HN.out.2.2.2.2; omega); simpa using this
       have hn32 : (n : Int) + 1 < 4294967296 := by have := HN.out.2.2.2.2; omega
       clear t1 t2 t3 t4 t5 t6 t7 t8 t9 t10 hup hn1 hc1 hX1 hX2 hbeg
       obtain ⟨dap, hdap⟩ := xj D.2.ap
       obtain ⟨dal, hdal⟩ := xj D.2.al
       rw [hdap] at hlt2 r4 r6 hq34 SY HN
       rw [hdal] at hlt2 r5 r7 hq34 SY HN
       have HDD : Hid (D.2.ap = dap ∧ D.2.al = dal) := ⟨hdap, hdal⟩
       clear hdap hdal
       obtain ⟨n1, hn1⟩ := xj (n + 1)
       have hnn : (n : Int) + 1 = (n1 : Int) := by omega
       rw [hnn] at r3 hq38
       rw [hn1] at HN
       clear hw hn1
       have l1' : (W5.setCell ⟨bl, 0, none⟩ (uw dap)).cell? ⟨bl, 1, none⟩ = some (uu ll) := block_cell (block_set (j := 0) (uw dap) (S4.out.bm (b := bl) (cs := #[uw lp, uu ll]) (ty := 34) (by simp))) rfl
       have z1' : (W5.setCell ⟨bl, 0, none⟩ (uw dap)).frozen? ⟨bl, 1, none⟩ = false := block_frozen (block_set (j := 0) (uw dap) (S4.out.bm (b := bl) (cs := #[uw lp, uu ll]) (ty := 34) (by simp))) 1
       clear S4
       have fin : Hid (∀ W, ((W5.setCell ⟨bl, 0, none⟩ (uw dap)).setCell ⟨bl, 1, none⟩ (uu dal)) = W → Mi5 w sb bl ba br i n1 dap dal a D.1 D.2 sy (.slice sa S.length sc) S W) := fun W e => ⟨by rw [← e]; exact SY.out, rfl, HOUT.out, by rw [if_neg (fun g => absurd (HN.out.2.2.2.1.symm.trans g.1) (by decide))]; exact HN.out.2.2.1, HN.out.1, HN.out.2.1⟩
       by_cases hlp : lp < dap
       ·have v1 : lp ≤ dap := by omega
        have v2 : ((dap : Int) == (lp : Int)) = false := beq_eq_false_iff_ne.2 (by omega)
        clear hlt2 hlp hk9 hlt hlt' hi hi80 hi79 h80' hlen
        go_upto_region 17 with (refine wpList_store_row rfl 41 _ _ rfl br (rsc D.2 sy).toArray rfl rfl 41 _ N4.out (by kernel_rfl) rfl hall4 ?_; rewrite [HE5.out])
        clear hn32 hnn u1 u2 g3 r0 hall4 N4 HE5 q0b
        go_wp2_with fail
        go_meet
        exact ⟨n1, dap, dal, D.1, D.2, sy, rfl, fin.out _ rfl⟩
       ·have v1 : lp ≤ dap := by omega
        have v2 : ((dap : Int) == (lp : Int)) = true := by rw [beq_iff_eq]; omega
        have v3 : ll < dal := by omega
        clear hlt2 hlp hk9 hlt hlt' hi hi80 hi79 h80' hlen
        go_upto_region 17 with (refine wpList_store_row rfl 41 _ _ rfl br (rsc D.2 sy).toArray rfl rfl 41 _ N4.out (by kernel_rfl) rfl hall4 ?_; rewrite [HE5.out])
        clear hn32 hnn u1 u2 g3 r0 hall4 N4 HE5 q0b
        go_wp2_with fail
        go_meet
        exact ⟨n1, dap, dal, D.1, D.2, sy, rfl, fin.out _ rfl⟩
      ·have HC := do_cm bt X a.ph a.op R.out.up.2 (by rw [HD.out]; exact hbeg)
       rw [HD.out] at HC
       have HOUT : D.1.out.length ≤ 1000 := by
        have := (do_gw (B := bt) (s := X) (R.out.se.gs.pl bt_good) R.out.se.gs.n.2 a.ph a.op).lo
        rw [HD.out, R.out.out] at this
        exact Nat.le_trans this (by decide)
       have fin : Hid (Mi5 w sb bl ba br i n lp ll a D.1 D.2 sy (.slice sa S.length sc) S W5) := ⟨S4.out, rfl, HOUT, R.out.up.hear HC, HC.2.2.1.trans R.out.n, HC.2.2.2.1.trans R.out.cl⟩
       clear HC HOUT
       have hcase : ((a.op.k == 1) = true ∧ (D.2.k == 1) = false) ∨ (a.op.k == 1) = false := by
        by_cases g : a.op.k = 1
        ·exact .inl ⟨by rw [g]; rfl, beq_eq_false_iff_ne.2 (fun g2 => hbeg ⟨g, g2⟩)⟩
        ·exact .inr (beq_eq_false_iff_ne.2 g)
       clear hbeg
       rcases hcase with ⟨u1, u2⟩ | u1
       ·go_wp2_with (refine wpList_store_row rfl 41 _ _ rfl br (rsc D.2 sy).toArray rfl rfl 41 _ N4.out (by kernel_rfl) rfl hall4 ?_; rewrite [HE5.out])
        go_meet
        exact ⟨n, lp, ll, D.1, D.2, sy, rfl, fin⟩
       ·go_wp2_with (refine wpList_store_row rfl 41 _ _ rfl br (rsc D.2 sy).toArray rfl rfl 41 _ N4.out (by kernel_rfl) rfl hall4 ?_; rewrite [HE5.out])
        go_meet
        exact ⟨n, lp, ll, D.1, D.2, sy, rfl, fin⟩
     have q0b : (a.what == 0) = false := beq_eq_false_iff_ne.2 q0
     have HS : Hid ((∀ x ∈ S, x.vw.oneCell' = true ∧ x.vs.oneCell' = true) ∧ S.length ≤ 1000000) := ⟨R.out.so, by have := R.out.sl; omega⟩
     by_cases q14 : a.what = 1 ∨ a.what = 4
     ·have NB : Hid (WX.heap[ba]? = some (.cells (acc a).toArray 57 (0, 0))) := SX.out.bm (b := ba) (cs := (acc a).toArray) (ty := 57) (by simp)
      obtain ⟨l, hl⟩ := xj (heardF a S)
      obtain ⟨hw, hhw⟩ := xj (heardW a S.length)
      obtain ⟨hs, hhs⟩ := xj (heardS a S.length)
      obtain ⟨hp, hhp⟩ := xj (heardP a S.length)
      have C16 : Hid (1 = 1 → Calls Tryz.prog 16 #[.agg (acc a).toArray, (.slice sa S.length sc)] WX fun e w' => e = .returned (.agg (lfc l hw hs hp).toArray) ∧ Below WX.heap.size WX w') := fun _ => by
       have k := heard16 HAc.out SX.out.own HS.out.1 HS.out.2
       rw [hl, hhw, hhs, hhp] at k
       exact k
      have C17 : Hid (∀ W, Below WX.heap.size WX W → Calls Tryz.prog 17 #[pz sb, .agg (lfc l hw hs hp).toArray] W fun e w' => (∃ v', e = .returned (.agg (rsc (hearR X l).2 v').toArray) ∧ v'.oneCell' = true) ∧ Se w sb (hearR X l).1 (9 * i + 9) [(br, (rsc zS sy).toArray, 41), (ba, (acc a).toArray, 57), (bl, #[uw lp, uu ll], 34)] (.slice sa S.length sc) S w') := fun W hb => by
       have k := heard_at (S := S) HAc.out (SX.out.on hb).below
       rw [hl, hhw, hhs, hhp] at k
       exact ((SX.out.on hb).hear hk9 HO0.out l hw hs hp k).mono fun e w' ⟨⟨v', g1, g2, _⟩, g3⟩ => ⟨⟨v', g1, g2⟩, g3⟩
      clear hl hhw hhs hhp
      obtain ⟨D, hD⟩ := xj (hearR X l)
      have HD : Hid (hearR X l = D) := hD
      rw [hD] at C17
      clear hD
      have HC : Hid (Cm X D) := by rw [← HD.out]; exact hearR_cm X l
      have HOUT : Hid (D.1.out.length ≤ 1000) := by
       have := hearR_out (X := X) (R.out.se.gs.pl bt_good) l
       rw [HD.out, R.out.out] at this
       exact Nat.le_trans this (by decide)
      have hq : ((a.what == 1) = true) ∨ ((a.what == 1) = false ∧ (a.what == 4) = true) := by
       by_cases g : a.what = 1
       ·exact .inl (by rw [g]; rfl)
       ·exact .inr ⟨beq_eq_false_iff_ne.2 g, by rw [q14.resolve_left g]; rfl⟩
      clear q14 q0
      have fin : Hid (∀ w5 v', v'.oneCell' = true → Se w sb D.1 (9 * i + 9) [(br, (rsc zS sy).toArray, 41), (ba, (acc a).toArray, 57), (bl, #[uw lp, uu ll], 34)] (.slice sa S.length sc) S w5 → Mi5 w sb bl ba br i n lp ll a D.1 D.2 v' (.slice sa S.length sc) S (w5.setRow br (rsc D.2 v').toArray) ∧ w5.heap[br]? = some (.cells (rsc zS sy).toArray 41 (0, 0))) := fun w5 v' ho h5 => ⟨⟨h5.setR HP.out _, ho, HOUT.out, R.out.up.hear HC.out, HC.out.2.2.1.trans R.out.n, HC.out.2.2.2.1.trans R.out.cl⟩, h5.bm mc⟩
      rcases hq with u1 | ⟨u1, u2⟩
      ·go_wp2_with (refine wpList_load_row rfl 57 _ rfl ba rfl 57 _ (0, 0) _ NB.out Tryz.underlying57 rfl (by kernel_rfl) ?_)
       refine (C16.out (by trivial)).mono ?_
       rintro e w4 ⟨rfl, h4⟩
       go_wp2_with fail
       refine (C17.out _ h4).mono ?_
       rintro e w5 ⟨⟨v', rfl, hv1⟩, h5⟩
       obtain ⟨hfin, N5⟩ := fin.out w5 v' hv1 h5
       have HFIN : Hid _ := hfin
       have N5 : Hid _ := N5
       have hall5 := rsc_all D.2 v' hv1
       clear hfin h5 h4 C16 C17
       go_wp2_with (refine wpList_store_row rfl 41 _ _ rfl br (rsc D.2 v').toArray rfl rfl 41 _ N5.out (by kernel_rfl) rfl hall5 ?_)
       go_meet
       exact ⟨n, lp, ll, D.1, D.2, v', rfl, HFIN⟩
      ·go_wp2_with (refine wpList_load_row rfl 57 _ rfl ba rfl 57 _ (0, 0) _ NB.out Tryz.underlying57 rfl (by kernel_rfl) ?_)
       refine (C16.out (by trivial)).mono ?_
       rintro e w4 ⟨rfl, h4⟩
       go_wp2_with fail
       refine (C17.out _ h4).mono ?_
       rintro e w5 ⟨⟨v', rfl, hv1⟩, h5⟩
       obtain ⟨hfin, N5⟩ := fin.out w5 v' hv1 h5
       have HFIN : Hid _ := hfin
       have N5 : Hid _ := N5
       have hall5 := rsc_all D.2 v' hv1
       clear hfin h5 h4 C16 C17
       go_wp2_with (refine wpList_store_row rfl 41 _ _ rfl br (rsc D.2 v').toArray rfl rfl 41 _ N5.out (by kernel_rfl) rfl hall5 ?_)
       go_meet
       exact ⟨n, lp, ll, D.1, D.2, v', rfl, HFIN⟩
     have q1b : (a.what == 1) = false := beq_eq_false_iff_ne.2 (fun g => q14 (.inl g))
     have q4b : (a.what == 4) = false := beq_eq_false_iff_ne.2 (fun g => q14 (.inr g))
     have SL : Hid (Se w sb X (9 * i + 9) [(br, (rsc zS sy).toArray, 41), (ba, (acc a).toArray, 57), (bl, #[uw lp, uu ll], 34)] (.slice sa S.length sc) S WX) := SX.out.le (by omega)
     by_cases q2 : a.what = 2
     ·have q2b : (a.what == 2) = true := by rw [q2]; rfl
      have C20 : Hid (1 = 1 → _) := fun _ => SX.out.again hk9 HO0.out
      have HOUT : Hid ((againF X).out.length ≤ 1000) := by
       show (X.out ++ X.asks.map (letF X)).length ≤ 1000
       rw [R.out.out, List.nil_append, List.length_map]
       have := R.out.se.ok.2.1
       omega
      clear q2 q14 q0
      go_wp2_with fail
      refine (C20.out (by trivial)).mono ?_
      rintro e w5 ⟨rfl, h5⟩
      have fin : Hid (Mi5 w sb bl ba br i n lp ll a (againF X) zS sy (.slice sa S.length sc) S w5) := ⟨h5, rfl, HOUT.out, by rw [if_neg (fun g => absurd (show (0 : Int) = 4 from g.1) (by decide))]; exact R.out.up, R.out.n, R.out.cl⟩
      clear h5 C20
      go_wp2_with fail
      go_meet
      exact ⟨n, lp, ll, _, zS, sy, rfl, fin⟩
     have q2b : (a.what == 2) = false := beq_eq_false_iff_ne.2 q2
     by_cases q3 : a.what = 3
     ·have q3b : (a.what == 3) = true := by rw [q3]; rfl
      have C12 : Hid (1 = 1 → _) := fun _ => SX.out.give hk9 HO0.out
      obtain ⟨D, hD⟩ := xj (giveF bt X)
      have HD : Hid (giveF bt X = D) := hD
      rw [hD] at C12
      clear hD
      have HC : Hid (Cm X D) := by rw [← HD.out]; exact give_cm bt X
      have HOUT : Hid (D.1.out.length ≤ 1000) := by
       have := (give_gw (B := bt) (s := X) (R.out.se.gs.pl bt_good)).lo
       rw [HD.out, R.out.out] at this
       exact Nat.le_trans this (by decide)
      clear q3 q2 q14 q0
      go_wp2_with fail
      refine (C12.out (by trivial)).mono ?_
      rintro e w5 ⟨rfl, h5⟩
      have fin : Hid (Mi5 w sb bl ba br i n lp ll a D.1 D.2 sy (.slice sa S.length sc) S (w5.setRow br (rsc D.2 sy).toArray)) := ⟨h5.setR HP.out _, rfl, HOUT.out, R.out.up.hear HC.out, HC.out.2.2.1.trans R.out.n, HC.out.2.2.2.1.trans R.out.cl⟩
      have N5 : Hid (w5.heap[br]? = some (.cells (rsc zS sy).toArray 41 (0, 0))) := h5.bm mc
      have hall5 := rsc_all D.2 sy rfl
      clear h5 C12
      unfold rsV
      go_wp2_with (refine wpList_store_row rfl 41 _ _ rfl br (rsc D.2 sy).toArray rfl rfl 41 _ N5.out (by kernel_rfl) rfl hall5 ?_)
      go_meet
      exact ⟨n, lp, ll, D.1, D.2, sy, rfl, fin⟩
     have q3b : (a.what == 3) = false := beq_eq_false_iff_ne.2 q3
     have fin : Hid (Mi5 w sb bl ba br i n lp ll a X zS sy (.slice sa S.length sc) S WX) := ⟨SL.out, rfl, by rw [R.out.out]; exact Nat.zero_le _, by rw [if_neg (fun g => absurd (show (0 : Int) = 4 from g.1) (by decide))]; exact R.out.up, R.out.n, R.out.cl⟩
     clear q3 q2 q14 q0
     go_wp2_with fail
     go_meet
     exact ⟨n, lp, ll, X, zS, sy, rfl, fin⟩
    case rest =>
     obtain ⟨n1, lp1, ll1, X1, r, vp, rfl, hM⟩ := hcut
     have HM : Hid (Mi5 w sb bl ba br i n1 lp1 ll1 a X1 r vp (.slice sa S.length sc) S wc) := hM
     clear hM SX HO0 HP HAc hk9
     obtain ⟨i0, z0', hin0, hi0, hi1, hi2, hi3⟩ := info55
     have k0 : wc.cell? ⟨br, 0, none⟩ = some (iw r.k) := block_cell (HM.out.se.bm (b := br) (cs := (rsc r vp).toArray) (ty := 41) (by simp)) rfl
     have k6 : wc.cell? ⟨br, 6, none⟩ = some (uw r.ap) := block_cell (HM.out.se.bm (b := br) (cs := (rsc r vp).toArray) (ty := 41) (by simp)) rfl
     have k7 : wc.cell? ⟨br, 7, none⟩ = some (uu r.al) := block_cell (HM.out.se.bm (b := br) (cs := (rsc r vp).toArray) (ty := 41) (by simp)) rfl
     have m0 : wc.cell? ⟨bl, 0, none⟩ = some (uw lp1) := block_cell (HM.out.se.bm (b := bl) (cs := #[uw lp1, uu ll1]) (ty := 34) (by simp)) rfl
     have m1 : wc.cell? ⟨bl, 1, none⟩ = some (uu ll1) := block_cell (HM.out.se.bm (b := bl) (cs := #[uw lp1, uu ll1]) (ty := 34) (by simp)) rfl
     obtain ⟨rk, hrk⟩ := xj r.k
     obtain ⟨rap, hrap⟩ := xj r.ap
     obtain ⟨ral, hral⟩ := xj r.al
     have HUP : Hid (Up X1 (if rk = 4 ∧ (lp1 < rap ∨ lp1 = rap ∧ ll1 < ral) then (rap, ral) else (lp1, ll1))) := by
      have k := HM.out.up
      rw [hrk, hrap, hral] at k
      exact k
     rw [hrk] at k0
     rw [hrap] at k6
     rw [hral] at k7
     clear hrk hrap hral
     have HNUM : Hid (i ≤ acts.length ∧ i < 80 ∧ i < acts.length ∧ 9 * i ≤ 100000) := ⟨hi, hi79, hlt, by omega⟩
     by_cases hst : rk = 4 ∧ (lp1 < rap ∨ lp1 = rap ∧ ll1 < ral)
     ·have hup2 := HUP.out
      rw [if_pos hst] at hup2
      have HU2 : Hid (Up X1 (rap, ral)) := hup2
      clear hup2 HUP
      have SY : Hid (Se w sb X1 (9 * i + 9) [(br, (rsc r vp).toArray, 41), (ba, (acc a).toArray, 57), (bl, #[uw rap, uu ral], 34)] (.slice sa S.length sc) S ((wc.setCell ⟨bl, 0, none⟩ (uw rap)).setCell ⟨bl, 1, none⟩ (uu ral))) := HM.out.se.setL HDS.out.2.2 (by have := HDS.out; omega) _ _
      have y0 : wc.frozen? ⟨bl, 0, none⟩ = false := block_frozen (HM.out.se.bm (b := bl) (cs := #[uw lp1, uu ll1]) (ty := 34) (by simp)) 0
      have m1' : (wc.setCell ⟨bl, 0, none⟩ (uw rap)).cell? ⟨bl, 1, none⟩ = some (uu ll1) := block_cell (block_set (j := 0) (uw rap) (HM.out.se.bm (b := bl) (cs := #[uw lp1, uu ll1]) (ty := 34) (by simp))) rfl
      have y1' : (wc.setCell ⟨bl, 0, none⟩ (uw rap)).frozen? ⟨bl, 1, none⟩ = false := block_frozen (block_set (j := 0) (uw rap) (HM.out.se.bm (b := bl) (cs := #[uw lp1, uu ll1]) (ty := 34) (by simp))) 1
      obtain ⟨WZ, hWZ⟩ := xj ((wc.setCell ⟨bl, 0, none⟩ (uw rap)).setCell ⟨bl, 1, none⟩ (uu ral))
      rw [hWZ] at SY
      have hk4 : (rk == 4) = true := by rw [hst.1]; rfl
      have hor := hst.2
      clear hst hi hi79 hi80 h80' hlt hlt' hlen
      rcases hor with h1 | ⟨h1, h2⟩
      ·have c1 : (lp1 : Int) < (rap : Int) := by omega
       go_upto_region 29 with fail
       clear hWZ y0 m1' y1' k0 k6 k7 m0 m1 hk4 c1 h1
       have C13 : Hid (1 = 1 → _) := fun _ => SY.out.out
       clear SY
       go_wp2_with fail
       refine (C13.out (by trivial)).mono ?_
       rintro e w7 ⟨vo, L, rfl, h7, hown, hel, hone⟩
       obtain ⟨va, vc, hve, -⟩ := rw_own hown
       subst hve
       have hLl : L.length ≤ 1000 := by
        have := congrArg List.length hel
        rw [List.length_map] at this
        rw [this]
        exact HM.out.out
       have hSl : S.length ≤ 80000 := by have := R.out.sl; have := HNUM.out; omega
       have HOw : Hid _ := (show Ow w.heap.size 55 31 (.slice sa S.length sc) S.length (rowC lxc S) w7.heap.size (.slice va L.length vc) L.length (rowC lxc L) w7 from ⟨h7.own, rw_own hown, row_one55 (fun x hx => ⟨(hone x hx).2.2.1, (hone x hx).2.2.2.1⟩), h7.below.size, by omega⟩)
       have fin : Hid (∀ v' w8, w8.ownsRow w.heap.size 55 31 v' (S.length + L.length) (rowC lxc S ++ rowC lxc L) → w7.grownBy w8 (Value.slice sa S.length sc).ownBlock → (v'.ownBlock = (Value.slice sa S.length sc).ownBlock ∨ v'.ownBlock = some w7.heap.size) → Ro5 w sb bl (i + 1) n1 rap ral { X1 with out := [] } v' (S ++ L) w8) := fun v' w8 g1 g2 g3 => ⟨((h7.app g1 g2 g3).less (Lb' := [(bl, #[uw rap, uu ral], 34)]) (fun p hp => by simp only [List.mem_singleton] at hp; subst hp; simp)).le (by omega), rfl, ⟨HU2.out.1, HU2.out.2⟩, HM.out.n, HM.out.cl, by rw [List.length_append]; have := R.out.sl; omega, fun x hx => by
        rcases List.mem_append.1 hx with hx | hx
        ·exact R.out.so x hx
        ·exact ⟨(hone x hx).2.2.1, (hone x hx).2.2.2.1⟩⟩
       have hI1 : (i : Int) + 1 < 9223372036854775808 := by have := HNUM.out; omega
       clear h7 hown hel hone hLl C13 hSl
       go_wp2_with (at_builtin; refine wpList_append_rw HOw.out Tryz.underlying46 hin0 hi0 hi1 hi2 hi3 (by decide) (by decide) (.tmp 131) (.tmp 133) rfl rfl rfl rfl ?_)
       intro v' w8 g1 g2 g3
       have RF : Hid _ := fin.out v' w8 g1 g2 g3
       obtain ⟨va', vc', hve', -⟩ := rw_own g1
       subst hve'
       clear g1 g2 g3 HOw fin
       go_wp2_with fail
       go_roundw
       case rel => exact ⟨i + 1, n1, rap, ral, _, _, by go_num, rfl, by have := HNUM.out; omega, by have := HNUM.out; omega, RF⟩
       case measure => have := HNUM.out; simp [intOf]; omega
      ·subst h1
       have c1 : ((lp1 : Int) == (lp1 : Int)) = true := by simp
       have c2 : (ll1 : Int) < (ral : Int) := by omega
       go_upto_region 29 with fail
       clear hWZ y0 m1' y1' k0 k6 k7 m0 m1 hk4 c1 c2 h2
       have C13 : Hid (1 = 1 → _) := fun _ => SY.out.out
       clear SY
       go_wp2_with fail
       refine (C13.out (by trivial)).mono ?_
       rintro e w7 ⟨vo, L, rfl, h7, hown, hel, hone⟩
       obtain ⟨va, vc, hve, -⟩ := rw_own hown
       subst hve
       have hLl : L.length ≤ 1000 := by
        have := congrArg List.length hel
        rw [List.length_map] at this
        rw [this]
        exact HM.out.out
       have hSl : S.length ≤ 80000 := by have := R.out.sl; have := HNUM.out; omega
       have HOw : Hid _ := (show Ow w.heap.size 55 31 (.slice sa S.length sc) S.length (rowC lxc S) w7.heap.size (.slice va L.length vc) L.length (rowC lxc L) w7 from ⟨h7.own, rw_own hown, row_one55 (fun x hx => ⟨(hone x hx).2.2.1, (hone x hx).2.2.2.1⟩), h7.below.size, by omega⟩)
       have fin : Hid (∀ v' w8, w8.ownsRow w.heap.size 55 31 v' (S.length + L.length) (rowC lxc S ++ rowC lxc L) → w7.grownBy w8 (Value.slice sa S.length sc).ownBlock → (v'.ownBlock = (Value.slice sa S.length sc).ownBlock ∨ v'.ownBlock = some w7.heap.size) → Ro5 w sb bl (i + 1) n1 lp1 ral { X1 with out := [] } v' (S ++ L) w8) := fun v' w8 g1 g2 g3 => ⟨((h7.app g1 g2 g3).less (Lb' := [(bl, #[uw lp1, uu ral], 34)]) (fun p hp => by simp only [List.mem_singleton] at hp; subst hp; simp)).le (by omega), rfl, ⟨HU2.out.1, HU2.out.2⟩, HM.out.n, HM.out.cl, by rw [List.length_append]; have := R.out.sl; omega, fun x hx => by
        rcases List.mem_append.1 hx with hx | hx
        ·exact R.out.so x hx
        ·exact ⟨(hone x hx).2.2.1, (hone x hx).2.2.2.1⟩⟩
       have hI1 : (i : Int) + 1 < 9223372036854775808 := by have := HNUM.out; omega
       clear h7 hown hel hone hLl C13 hSl
       go_wp2_with (at_builtin; refine wpList_append_rw HOw.out Tryz.underlying46 hin0 hi0 hi1 hi2 hi3 (by decide) (by decide) (.tmp 131) (.tmp 133) rfl rfl rfl rfl ?_)
       intro v' w8 g1 g2 g3
       have RF : Hid _ := fin.out v' w8 g1 g2 g3
       obtain ⟨va', vc', hve', -⟩ := rw_own g1
       subst hve'
       clear g1 g2 g3 HOw fin
       go_wp2_with fail
       go_roundw
       case rel => exact ⟨i + 1, n1, lp1, ral, _, _, by go_num, rfl, by have := HNUM.out; omega, by have := HNUM.out; omega, RF⟩
       case measure => have := HNUM.out; simp [intOf]; omega
     ·have hup2 := HUP.out
      rw [if_neg hst] at hup2
      have HU2 : Hid (Up X1 (lp1, ll1)) := hup2
      clear hup2 HUP
      have SY : Hid (Se w sb X1 (9 * i + 9) [(br, (rsc r vp).toArray, 41), (ba, (acc a).toArray, 57), (bl, #[uw lp1, uu ll1], 34)] (.slice sa S.length sc) S wc) := HM.out.se
      have hcs : (rk == 4) = false ∨ ((rk == 4) = true ∧ rap < lp1) ∨ ((rk == 4) = true ∧ rap = lp1 ∧ ral ≤ ll1) := by
       by_cases g : rk = 4
       ·right
        have g' : (rk == 4) = true := by rw [g]; rfl
        rcases Nat.lt_trichotomy rap lp1 with g1 | g1 | g1
        ·exact .inl ⟨g', g1⟩
        ·exact .inr ⟨g', g1, by
          by_cases g2 : ral ≤ ll1
          ·exact g2
          ·exact absurd ⟨g, .inr ⟨g1.symm, by omega⟩⟩ hst⟩
        ·exact absurd ⟨g, .inl g1⟩ hst
       ·exact .inl (beq_eq_false_iff_ne.2 g)
      clear hst hi hi79 hi80 h80' hlt hlt' hlen
      rcases hcs with hk4 | ⟨hk4, h1⟩ | ⟨hk4, h1, h2⟩
      ·go_upto_region 29 with fail
       clear k0 k6 k7 m0 m1 hk4
       have C13 : Hid (1 = 1 → _) := fun _ => SY.out.out
       clear SY
       go_wp2_with fail
       refine (C13.out (by trivial)).mono ?_
       rintro e w7 ⟨vo, L, rfl, h7, hown, hel, hone⟩
       obtain ⟨va, vc, hve, -⟩ := rw_own hown
       subst hve
       have hLl : L.length ≤ 1000 := by
        have := congrArg List.length hel
        rw [List.length_map] at this
        rw [this]
        exact HM.out.out
       have hSl : S.length ≤ 80000 := by have := R.out.sl; have := HNUM.out; omega
       have HOw : Hid _ := (show Ow w.heap.size 55 31 (.slice sa S.length sc) S.length (rowC lxc S) w7.heap.size (.slice va L.length vc) L.length (rowC lxc L) w7 from ⟨h7.own, rw_own hown, row_one55 (fun x hx => ⟨(hone x hx).2.2.1, (hone x hx).2.2.2.1⟩), h7.below.size, by omega⟩)
       have fin : Hid (∀ v' w8, w8.ownsRow w.heap.size 55 31 v' (S.length + L.length) (rowC lxc S ++ rowC lxc L) → w7.grownBy w8 (Value.slice sa S.length sc).ownBlock → (v'.ownBlock = (Value.slice sa S.length sc).ownBlock ∨ v'.ownBlock = some w7.heap.size) → Ro5 w sb bl (i + 1) n1 lp1 ll1 { X1 with out := [] } v' (S ++ L) w8) := fun v' w8 g1 g2 g3 => ⟨((h7.app g1 g2 g3).less (Lb' := [(bl, #[uw lp1, uu ll1], 34)]) (fun p hp => by simp only [List.mem_singleton] at hp; subst hp; simp)).le (by omega), rfl, ⟨HU2.out.1, HU2.out.2⟩, HM.out.n, HM.out.cl, by rw [List.length_append]; have := R.out.sl; omega, fun x hx => by
        rcases List.mem_append.1 hx with hx | hx
        ·exact R.out.so x hx
        ·exact ⟨(hone x hx).2.2.1, (hone x hx).2.2.2.1⟩⟩
       have hI1 : (i : Int) + 1 < 9223372036854775808 := by have := HNUM.out; omega
       clear h7 hown hel hone hLl C13 hSl
       go_wp2_with (at_builtin; refine wpList_append_rw HOw.out Tryz.underlying46 hin0 hi0 hi1 hi2 hi3 (by decide) (by decide) (.tmp 131) (.tmp 133) rfl rfl rfl rfl ?_)
       intro v' w8 g1 g2 g3
       have RF : Hid _ := fin.out v' w8 g1 g2 g3
       obtain ⟨va', vc', hve', -⟩ := rw_own g1
       subst hve'
       clear g1 g2 g3 HOw fin
       go_wp2_with fail
       go_roundw
       case rel => exact ⟨i + 1, n1, lp1, ll1, _, _, by go_num, rfl, by have := HNUM.out; omega, by have := HNUM.out; omega, RF⟩
       case measure => have := HNUM.out; simp [intOf]; omega
      ·have c1 : rap ≤ lp1 := by omega
       have c2 : ((rap : Int) == (lp1 : Int)) = false := beq_eq_false_iff_ne.2 (by omega)
       go_upto_region 29 with fail
       clear k0 k6 k7 m0 m1 hk4 c1 c2 h1
       have C13 : Hid (1 = 1 → _) := fun _ => SY.out.out
       clear SY
       go_wp2_with fail
       refine (C13.out (by trivial)).mono ?_
       rintro e w7 ⟨vo, L, rfl, h7, hown, hel, hone⟩
       obtain ⟨va, vc, hve, -⟩ := rw_own hown
       subst hve
       have hLl : L.length ≤ 1000 := by
        have := congrArg List.length hel
        rw [List.length_map] at this
        rw [this]
        exact HM.out.out
       have hSl : S.length ≤ 80000 := by have := R.out.sl; have := HNUM.out; omega
       have HOw : Hid _ := (show Ow w.heap.size 55 31 (.slice sa S.length sc) S.length (rowC lxc S) w7.heap.size (.slice va L.length vc) L.length (rowC lxc L) w7 from ⟨h7.own, rw_own hown, row_one55 (fun x hx => ⟨(hone x hx).2.2.1, (hone x hx).2.2.2.1⟩), h7.below.size, by omega⟩)
       have fin : Hid (∀ v' w8, w8.ownsRow w.heap.size 55 31 v' (S.length + L.length) (rowC lxc S ++ rowC lxc L) → w7.grownBy w8 (Value.slice sa S.length sc).ownBlock → (v'.ownBlock = (Value.slice sa S.length sc).ownBlock ∨ v'.ownBlock = some w7.heap.size) → Ro5 w sb bl (i + 1) n1 lp1 ll1 { X1 with out := [] } v' (S ++ L) w8) := fun v' w8 g1 g2 g3 => ⟨((h7.app g1 g2 g3).less (Lb' := [(bl, #[uw lp1, uu ll1], 34)]) (fun p hp => by simp only [List.mem_singleton] at hp; subst hp; simp)).le (by omega), rfl, ⟨HU2.out.1, HU2.out.2⟩, HM.out.n, HM.out.cl, by rw [List.length_append]; have := R.out.sl; omega, fun x hx => by
        rcases List.mem_append.1 hx with hx | hx
        ·exact R.out.so x hx
        ·exact ⟨(hone x hx).2.2.1, (hone x hx).2.2.2.1⟩⟩
       have hI1 : (i : Int) + 1 < 9223372036854775808 := by have := HNUM.out; omega
       clear h7 hown hel hone hLl C13 hSl
       go_wp2_with (at_builtin; refine wpList_append_rw HOw.out Tryz.underlying46 hin0 hi0 hi1 hi2 hi3 (by decide) (by decide) (.tmp 131) (.tmp 133) rfl rfl rfl rfl ?_)
       intro v' w8 g1 g2 g3
       have RF : Hid _ := fin.out v' w8 g1 g2 g3
       obtain ⟨va', vc', hve', -⟩ := rw_own g1
       subst hve'
       clear g1 g2 g3 HOw fin
       go_wp2_with fail
       go_roundw
       case rel => exact ⟨i + 1, n1, lp1, ll1, _, _, by go_num, rfl, by have := HNUM.out; omega, by have := HNUM.out; omega, RF⟩
       case measure => have := HNUM.out; simp [intOf]; omega
      ·subst h1
       have c1 : ((rap : Int) == (rap : Int)) = true := by simp
       go_upto_region 29 with fail
       clear k0 k6 k7 m0 m1 hk4 c1 h2
       have C13 : Hid (1 = 1 → _) := fun _ => SY.out.out
       clear SY
       go_wp2_with fail
       refine (C13.out (by trivial)).mono ?_
       rintro e w7 ⟨vo, L, rfl, h7, hown, hel, hone⟩
       obtain ⟨va, vc, hve, -⟩ := rw_own hown
       subst hve
       have hLl : L.length ≤ 1000 := by
        have := congrArg List.length hel
        rw [List.length_map] at this
        rw [this]
        exact HM.out.out
       have hSl : S.length ≤ 80000 := by have := R.out.sl; have := HNUM.out; omega
       have HOw : Hid _ := (show Ow w.heap.size 55 31 (.slice sa S.length sc) S.length (rowC lxc S) w7.heap.size (.slice va L.length vc) L.length (rowC lxc L) w7 from ⟨h7.own, rw_own hown, row_one55 (fun x hx => ⟨(hone x hx).2.2.1, (hone x hx).2.2.2.1⟩), h7.below.size, by omega⟩)
       have fin : Hid (∀ v' w8, w8.ownsRow w.heap.size 55 31 v' (S.length + L.length) (rowC lxc S ++ rowC lxc L) → w7.grownBy w8 (Value.slice sa S.length sc).ownBlock → (v'.ownBlock = (Value.slice sa S.length sc).ownBlock ∨ v'.ownBlock = some w7.heap.size) → Ro5 w sb bl (i + 1) n1 rap ll1 { X1 with out := [] } v' (S ++ L) w8) := fun v' w8 g1 g2 g3 => ⟨((h7.app g1 g2 g3).less (Lb' := [(bl, #[uw rap, uu ll1], 34)]) (fun p hp => by simp only [List.mem_singleton] at hp; subst hp; simp)).le (by omega), rfl, ⟨HU2.out.1, HU2.out.2⟩, HM.out.n, HM.out.cl, by rw [List.length_append]; have := R.out.sl; omega, fun x hx => by
        rcases List.mem_append.1 hx with hx | hx
        ·exact R.out.so x hx
        ·exact ⟨(hone x hx).2.2.1, (hone x hx).2.2.2.1⟩⟩
       have hI1 : (i : Int) + 1 < 9223372036854775808 := by have := HNUM.out; omega
       clear h7 hown hel hone hLl C13 hSl
       go_wp2_with (at_builtin; refine wpList_append_rw HOw.out Tryz.underlying46 hin0 hi0 hi1 hi2 hi3 (by decide) (by decide) (.tmp 131) (.tmp 133) rfl rfl rfl rfl ?_)
       intro v' w8 g1 g2 g3
       have RF : Hid _ := fin.out v' w8 g1 g2 g3
       obtain ⟨va', vc', hve', -⟩ := rw_own g1
       subst hve'
       clear g1 g2 g3 HOw fin
       go_wp2_with fail
       go_roundw
       case rel => exact ⟨i + 1, n1, rap, ll1, _, _, by go_num, rfl, by have := HNUM.out; omega, by have := HNUM.out; omega, RF⟩
       case measure => have := HNUM.out; simp [intOf]; omega
  ·have hlt' : ¬ (i : Int) < (acts.length : Int) := by omega
   go_wp2_with fail
   go_ret
   exact ⟨rfl, R.out.se.below⟩
end Go.Proofs.YtkdkgdollmmcnaaGreat
