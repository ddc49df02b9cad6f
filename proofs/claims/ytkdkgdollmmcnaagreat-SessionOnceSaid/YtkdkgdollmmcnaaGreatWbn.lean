import Derived.Test.YtkdkgdollmmcnaaGreatWbm
set_option maxHeartbeats 4000000
set_option maxRecDepth 100000
set_option linter.unusedVariables false
set_option linter.unusedSimpArgs false
namespace Go.Proofs.YtkdkgdollmmcnaaGreat
open Go.RowKit Go.Sort Go.Shelf
variable {M M' G N : Nat → Prop} {W W' w : World} {f f' : Fo} {X X' : Ss}
theorem write32 (u : Un f N X 9 w) (hs : ∀ i j, i < j → j < X.ws.length → (X.ws.getD i dw).key < (X.ws.getD j dw).key) (x : Wr) : Calls Tryz.prog 32 #[pz f.sb, .agg #[sd x.key, sd x.val, .bool x.dead]] w (Got f N X w (putF bt X x).1 (putF bt X x).2) := by
 have hs0 : ∀ i j, i ≤ j → j < X.ws.length → ¬ (X.ws.getD j dw).key < (X.ws.getD i dw).key := fun i j hij hj e => by
  by_cases h : i = j
  ·subst h
   exact lt_irr _ e
  ·exact lt_irr _ (List.lt_trans e (hs i j (by omega) hj))
 obtain ⟨ao, cap, hv, -, -⟩ := WsAt.shape (rw_own (u.sc.tx u.act).2)
 have X0 : Hid (Cx (f.In X.act) N w f X [(w.heap.size, #[sd x.key, sd x.val, .bool x.dead], 70)] [(w.heap.size + 1, RZ, 41)] ((w.alloc (.cells #[sd x.key, sd x.val, .bool x.dead] 70)).alloc (.cells RZ 41))) := by
  have k := ((Cx.start (Lo := []) u.sc u.nk nb).new #[sd x.key, sd x.val, .bool x.dead] 70).newm RZ 41
  simp only [size_al] at k
  exact k
 obtain ⟨W1, hW1⟩ := xj ((w.alloc (.cells #[sd x.key, sd x.val, .bool x.dead] 70)).alloc (.cells RZ 41))
 rw [hW1] at X0
 have HU : Hid (Un f N X 9 w) := u
 have HS : Hid _ := hs
 have HS0 : Hid _ := hs0
 have HV : Hid (f.vw = .slice ao X.ws.length cap) := hv
 have x0 : W1.cell? ⟨w.heap.size, 0, none⟩ = some (sd x.key) := X0.out.bc
 have x1 : W1.cell? ⟨w.heap.size, 1, none⟩ = some (sd x.val) := X0.out.bc
 have x2 : W1.cell? ⟨w.heap.size, 2, none⟩ = some (.bool x.dead) := X0.out.bc
 obtain ⟨ok, hok⟩ := xj (wOk x)
 have HOK : Hid (wOk x = ok) := hok
 have C86 : Hid (1 = 1 → Calls Tryz.prog 86 #[.slice (some ⟨W1.heap.size, 0, none⟩) 1 1] (W1.alloc (.cells #[sd x.key, sd x.val, .bool x.dead] 70)) fun r w' => r = .returned (.bool ok) ∧ Cx (f.In X.act) N w f X [(w.heap.size, #[sd x.key, sd x.val, .bool x.dead], 70)] [(w.heap.size + 1, RZ, 41)] w') := fun _ => by
  have hn := heap_alloc_new W1 (.cells #[sd x.key, sd x.val, .bool x.dead] 70)
  have hr : WsAt (W1.alloc (.cells #[sd x.key, sd x.val, .bool x.dead] 70)).heap.size (.slice (some ⟨W1.heap.size, 0, none⟩) 1 1) [x] (W1.alloc (.cells #[sd x.key, sd x.val, .bool x.dead] 70)) := ⟨_, 1, rfl, rfl, Nat.le_refl _, by omega, fun _ => ⟨_, 0, rfl, fun _ => lt_blk hn, fun j u hj => by rw [Nat.zero_add]; rw [rowC_one] at hj; exact block_cell hn (by simpa [wrc] using hj)⟩⟩
  have k := right24 _ [x] _ _ hr (Nat.le_refl _)
  rw [rightW_one, hok] at k
  exact k.mono fun e w' ⟨h1, h2⟩ => ⟨h1, (X0.out.on (al _)).on h2⟩
 clear u hs hs0 hv X0 hok
 go_enter Tryz.func32, Tryz.ntmps32
 go_wp2_with fail
 refine (C86.out (by trivial)).mono ?_
 rintro r w2 ⟨rfl, h2⟩
 have X2 : Hid _ := h2
 clear h2 C86 hW1 x0 x1 x2
 cases ok
 ·have HP : Hid (putF bt X x = (X, badF X 1)) := by
   show _ = _
   unfold putF
   rw [show bt.right x = false from HOK.out]
   rfl
  have C28 : Hid (1 = 1 → Calls Tryz.prog 28 #[pz f.sb, iw 1] w2 fun r w' => r = .returned (rsV (badF X 1)) ∧ Cx (f.In X.act) N w f X [(w.heap.size, #[sd x.key, sd x.val, .bool x.dead], 70)] [(w.heap.size + 1, RZ, 41)] w') := fun _ => (refuse28 1 X2.out.sc).mono fun e w' ⟨h1, h2⟩ => ⟨h1, X2.out.on h2⟩
  clear X2
  unfold rsV at C28
  go_wp2_with fail
  refine (C28.out (by trivial)).mono ?_
  rintro r w9 ⟨rfl, h9⟩
  have X9 : Hid _ := h9
  clear h9 C28
  go_wp2_with (refine sr X9.out ?_)
  refine bj X9.out ?_
  rw [HP.out]
  exact ⟨rfl, _, (X9.out.poke (setRow_kept _ _ _) (setRow_at (X9.out.bm mc)) (fun pp hp => by cases hp)).to, rfl, HU.out.bd⟩
 ·have p6 : w2.cell? ⟨f.sb, 6, none⟩ = some (pz f.tb) := block_cell X2.out.sc.blk (by simp [sbA, vtV, HU.out.act])
  have x0 : w2.cell? ⟨w.heap.size, 0, none⟩ = some (sd x.key) := X2.out.bc
  have C77 : Hid (1 = 1 → Calls Tryz.prog 77 #[pz f.tb, sd x.key] w2 fun e w' => ∃ (i : Nat) (fd : Bool), e = .returned (.tuple #[iw (i : Int), .bool fd]) ∧ FindAt x.key X.ws i fd ∧ Cx (f.In X.act) N w f X [(w.heap.size, #[sd x.key, sd x.val, .bool x.dead], 70)] [(w.heap.size + 1, RZ, 41)] w') := fun _ => (find77 X2.out.sc HU.out.act x.key HS0.out HU.out.ws).mono fun e w' ⟨i, fd, h1, h2, h3⟩ => ⟨i, fd, h1, h2, X2.out.on h3⟩
  clear X2
  go_wp2_with fail
  refine (C77.out (by trivial)).mono ?_
  rintro r w3 ⟨i, fd, rfl, hfi, h3⟩
  have X3 : Hid _ := h3
  have HFI : Hid _ := hfi
  have HLK : Hid (lookF x.key X.ws = if fd then some (X.ws.getD i dw) else none) := hfi.look HS0.out
  clear h3 C77 p6 x0 hfi
  have t4 : w3.cell? ⟨f.tb, 4, none⟩ = some (.slice ao X.ws.length cap) := by rw [← HV.out]; exact block_cell (X3.out.sc.tx HU.out.act).1 rfl
  cases fd
  ·by_cases h16 : 16 ≤ X.ws.length
   ·have h16i : (16 : Int) ≤ (X.ws.length : Int) := by omega
    have HP : Hid (putF bt X x = (X, badF X 3)) := by
     show _ = _
     unfold putF
     rw [show bt.right x = true from HOK.out, HLK.out]
     simp [h16]
    have C28 : Hid (1 = 1 → Calls Tryz.prog 28 #[pz f.sb, iw 3] w3 fun r w' => r = .returned (rsV (badF X 3)) ∧ Cx (f.In X.act) N w f X [(w.heap.size, #[sd x.key, sd x.val, .bool x.dead], 70)] [(w.heap.size + 1, RZ, 41)] w') := fun _ => (refuse28 3 X3.out.sc).mono fun e w' ⟨h1, h2⟩ => ⟨h1, X3.out.on h2⟩
    clear X3
    unfold rsV at C28
    go_wp2_with fail
    refine (C28.out (by trivial)).mono ?_
    rintro r w9 ⟨rfl, h9⟩
    have X9 : Hid _ := h9
    clear h9 C28
    go_wp2_with (refine sr X9.out ?_)
    refine bj X9.out ?_
    rw [HP.out]
    exact ⟨rfl, _, (X9.out.poke (setRow_kept _ _ _) (setRow_at (X9.out.bm mc)) (fun pp hp => by cases hp)).to, rfl, HU.out.bd⟩
   ·have h16i : ¬ (16 : Int) ≤ (X.ws.length : Int) := by omega
    have HP : Hid (putF bt X x = ({ X with ws := insAt X.ws i x }, resF X 1)) := by
     show _ = _
     unfold putF
     rw [show bt.right x = true from HOK.out, HLK.out]
     simp [h16]
     exact ins_at x X.ws i HFI.out.le HFI.out.lo (fun h => HFI.out.hi i (Nat.le_refl _) h)
    have ha := HU.out.act
    have HX : Hid (Cx (f.In X.act) N w f X [(w.heap.size, #[sd x.key, sd x.val, .bool x.dead], 70)] [(w.heap.size + 1, RZ, 41)] w3.drew) := X3.out.drew
    have SN : Hid (∀ (f' : Fo) X' W, Cx (f.In X.act) N w f' X' [(w.heap.size, #[sd x.key, sd x.val, .bool x.dead], 70)] [(w.heap.size + 1, RZ, 41)] W → W.cell? ⟨w.heap.size, 0, none⟩ = some (sd x.key) ∧ W.cell? ⟨w.heap.size, 1, none⟩ = some (sd x.val) ∧ W.cell? ⟨w.heap.size, 2, none⟩ = some (.bool x.dead)) := fun f' X' W c => ⟨c.bc, c.bc, c.bc⟩
    clear X3
    go_upto_region 9 with fail
    clear t4
    refine wp_region_held_drew (S := (fun W => W.cell? ⟨w.heap.size, 0, none⟩ = some (sd x.key) ∧ W.cell? ⟨w.heap.size, 1, none⟩ = some (sd x.val) ∧ W.cell? ⟨w.heap.size, 2, none⟩ = some (.bool x.dead))) (by kernel_rfl) (SN.out _ _ _ HX.out) (fun hHeld => ?_)
    refine tq 0 ?_
    refine tq 1 ?_
    refine tq 2 ?_
    refine tq 3 ?_
    refine tq 5 ?_
    refine tw 6 ?_
    obtain ⟨w4, hw4⟩ := xj w3.drew
    rw [hw4] at HX ⊢
    clear hw4
    have t4 : w4.cell? ⟨f.tb, 4, none⟩ = some (.slice ao X.ws.length cap) := by rw [← HV.out]; exact block_cell (HX.out.sc.tx ha).1 rfl
    have hnew := heap_alloc_new w4 (.cells #[sd x.key, sd x.val, .bool x.dead] 70)
    have HY : Hid (Cx (f.In X.act) N w f X [(w.heap.size, #[sd x.key, sd x.val, .bool x.dead], 70)] [(w.heap.size + 1, RZ, 41)] (w4.alloc (.cells #[sd x.key, sd x.val, .bool x.dead] 70))) := HX.out.on (al _)
    have hvn : f.vw.ownBlock ≠ some w4.heap.size := fun e => by
     have := (World.ownsRow.lt (HX.out.sc.tx ha).2 _ e).2
     omega
    obtain ⟨w5, hw5⟩ := xj (w4.alloc (.cells #[sd x.key, sd x.val, .bool x.dead] 70))
    obtain ⟨bN, hbN⟩ := xj w4.heap.size
    rw [hw5, hbN] at hnew
    rw [hw5] at HY
    rw [hbN] at hvn
    have t5 : w5.cell? ⟨f.tb, 4, none⟩ = some (.slice ao X.ws.length cap) := by rw [← HV.out]; exact block_cell (HY.out.sc.tx ha).1 rfl
    have C87 : Hid (1 = 1 → Calls Tryz.prog 87 #[.slice ao X.ws.length cap, iw (i : Int), .slice (some ⟨bN, 0, none⟩) 1 1] w5 fun e w' => ∃ (a6 : Option Addr) (n6 c6 : Nat), e = .returned (.slice a6 n6 c6) ∧ Cx (f.In X.act) N w { f with vw := .slice a6 n6 c6 } { X with ws := insAt X.ws i x } [(w.heap.size, #[sd x.key, sd x.val, .bool x.dead], 70)] [(w.heap.size + 1, RZ, 41)] (w'.setCell ⟨f.tb, 4, none⟩ (.slice a6 n6 c6)) ∧ (w'.cell? ⟨w.heap.size, 0, none⟩ = some (sd x.key) ∧ w'.cell? ⟨w.heap.size, 1, none⟩ = some (sd x.val) ∧ w'.cell? ⟨w.heap.size, 2, none⟩ = some (.bool x.dead)) ∧ w'.cell? ⟨f.tb, 4, none⟩ = some (.slice ao X.ws.length cap) ∧ w'.frozen? ⟨f.tb, 4, none⟩ = false) := fun _ => by
     have k := insert87 0 X.ws f.vw w5 (HY.out.sc.tx ha).2 (Nat.zero_le _) HU.out.ws i HFI.out.le x bN hnew hvn
     rw [HV.out] at k
     refine Calls.mono k ?_
     rintro e w' ⟨v', rfl, hr6, hat, hk6⟩
     obtain ⟨a6, c6, rfl, -⟩ := rw_own hr6
     rw [← HV.out] at hk6 hat
     have htb6 : w'.heap[f.tb]? = some (.cells (txA f X) 79 (0, 0)) := by
      rw [hk6.block _ (lt_blk (HY.out.sc.tx ha).1) (fun e => own_ne (HY.out.sc.tx ha).2 (HY.out.sc.tx ha).1 (by decide) e)]
      exact (HY.out.sc.tx ha).1
     have hbx6 : w'.heap[w.heap.size]? = some (.cells #[sd x.key, sd x.val, .bool x.dead] 70 (0, 0)) := by
      have hb := HY.out.has (w.heap.size, #[sd x.key, sd x.val, .bool x.dead], 70) (by simp)
      rw [hk6.block _ (lt_blk hb.1) (fun e => hb.2.1 (.inr (.inr (.inr (.inl ⟨ha, .inr e⟩)))))]
      exact hb.1
     have ks := set_kept' w' f.tb 4 (.slice a6 (X.ws.length + 1) c6)
     have hlen : (insAt X.ws i x).length = X.ws.length + 1 := insAt_len HFI.out.le x
     have ht : To f (Nm N [(w.heap.size + 1, RZ, 41)]) X.act w5 { f with vw := .slice a6 (X.ws.length + 1) c6 } { X with ws := insAt X.ws i x } (w'.setCell ⟨f.tb, 4, none⟩ (.slice a6 (X.ws.length + 1) c6)) := by
      refine HY.out.sc.written ha ((hk6.mono (fun k e => .inr e)).trans ks (fun k e => .inl (.inl e))) ?_ ?_ (fun k e => ?_)
      ·have k := block_set (j := 4) (.slice a6 (X.ws.length + 1) c6) htb6
       exact k
      ·rw [hlen]
       exact own_kept hr6 ks (fun k hv e => by subst e; exact own_ne hr6 htb6 (by decide) hv)
      ·rcases hat with e2 | e2
       ·exact .inl (by rw [← e2]; exact e)
       ·rw [e2] at e
        injection e with e
        exact .inr (by omega)
     refine ⟨a6, X.ws.length + 1, c6, rfl, HY.out.next ht, ⟨block_cell hbx6 rfl, block_cell hbx6 rfl, block_cell hbx6 rfl⟩, ?_, block_frozen htb6 4⟩
     rw [← HV.out]
     exact block_cell htb6 rfl
    refine wpAnyH_ready (rs := [4, 7]) (by kernel_rfl) (by simp) ?_
    refine AllReadyH.cons rfl (fun K hK => ?_) (AllReadyH.cons rfl (fun K hK => ?_) AllReadyH.nil)
    go_simp
    refine kj hK (SN.out _ _ _ HX.out) (fun hHeld => ?_)
    clear hK K
    refine rd 7 (fun K hK => ?_)
    go_simp
    refine kj hK (SN.out _ _ _ HY.out) (fun hHeld => ?_)
    clear hK K
    rotate_left 1
    go_simp
    refine kj hK (SN.out _ _ _ HY.out) (fun hHeld => ?_)
    clear hK K
    refine rd 4 (fun K hK => ?_)
    go_simp
    refine kj hK (SN.out _ _ _ HY.out) (fun hHeld => ?_)
    clear hK K
    all_goals
     refine rd 8 (fun K hK => ?_)
     go_simp
     refine (C87.out (by trivial)).mono ?_
     rintro e w6 ⟨a6, n6, c6, rfl, x6, s6, t6, z6⟩
     have X6 : Hid _ := x6
     have S6 : Hid _ := s6
     clear x6 s6
     go_wp2_with fail
     refine kj hK S6.out (fun hHeld => ?_)
     clear hK K
     refine tq 9 ?_
     refine tq 10 ?_
     refine rd 11 (fun K hK => ?_)
     go_simp
     obtain ⟨w7, hw7⟩ := xj (w6.setCell ⟨f.tb, 4, none⟩ (.slice a6 n6 c6))
     rw [hw7] at X6 ⊢
     refine kj hK (SN.out _ _ _ X6.out) (fun hHeld => ?_)
     clear hK K
     refine wpAnyH_done (by kernel_rfl) ?_ _
     clear hHeld SN HX HY C87 t4 t5 t6 z6 hw5 hbN hw7 hnew S6
     have C74 : Hid (1 = 1 → Calls Tryz.prog 74 #[pz f.sb, iw 1, iw 0] w7 fun r w' => r = .returned (.agg (rsc (resF X 1) sy).toArray) ∧ Cx (f.In X.act) N w { f with vw := .slice a6 n6 c6 } { X with ws := insAt X.ws i x } [(w.heap.size, #[sd x.key, sd x.val, .bool x.dead], 70)] [(w.heap.size + 1, RZ, 41)] w') := fun _ => by
      have k := told74 1 0 X6.out.sc
      refine Calls.mono k fun e w' h => ⟨?_, X6.out.on h.2⟩
      rw [h.1]
      have hz : (resF X 1).er = 0 := by unfold resF; split <;> rfl
      show Ending.returned (rsV { resF X 1 with er := 0 }) = _
      rw [← hz]
      rfl
     go_wp2_with fail
     refine (C74.out (by trivial)).mono ?_
     rintro r w9 ⟨rfl, h9⟩
     have X9 : Hid _ := h9
     clear h9 C74 X6
     go_wp2_with (refine sr X9.out ?_)
     refine bj X9.out ?_
     rw [HP.out]
     exact ⟨rfl, _, (X9.out.poke (setRow_kept _ _ _) (setRow_at (X9.out.bm mc)) (fun pp hp => by cases hp)).to, rfl, ⟨HU.out.bd.sc, HU.out.bd.co, HU.out.bd.gs⟩⟩
  ·obtain ⟨hil, hik⟩ := HFI.out.fd.1 rfl
   have HP : Hid (putF bt X x = ({ X with ws := X.ws.set i x }, resF X 1)) := by
    show _ = _
    unfold putF
    rw [show bt.right x = true from HOK.out, HLK.out]
    simp only [Bool.true_eq_false, if_false, if_true, Option.isSome_some]
    rw [set_at x X.ws i hil (fun t ht => ?_)]
    constructor
    ·intro e
     rcases Nat.lt_trichotomy t i with h | h | h
     ·exact absurd (HFI.out.lo t h) (by rw [e]; exact lt_irr _)
     ·exact h
     ·exact absurd (HS.out i t h ht) (by rw [hik, e]; exact lt_irr _)
    ·intro e
     rw [e]
     exact hik
   have hi0 : ¬ (i : Int) < 0 := by omega
   have hii : (i : Int) < X.ws.length := by omega
   obtain ⟨g, rfl⟩ : ∃ g, ao = some ⟨g, 0, none⟩ := by
    have k := (X3.out.sc.tx HU.out.act).2
    rw [HV.out] at k
    rcases k.2 with ⟨e, h0⟩ | ⟨g, cap', cur, e, -⟩
    ·omega
    ·injection e with e1
     exact ⟨g, e1⟩
   have HX : Hid (Cx (f.In X.act) N w f X [(w.heap.size, #[sd x.key, sd x.val, .bool x.dead], 70)] [(w.heap.size + 1, RZ, 41)] w3.drew) := X3.out.drew
   have SN : Hid (∀ X' W, Cx (f.In X.act) N w f X' [(w.heap.size, #[sd x.key, sd x.val, .bool x.dead], 70)] [(w.heap.size + 1, RZ, 41)] W → X'.act = true → W.cell? ⟨f.tb, 4, none⟩ = some (.slice (some ⟨g, 0, none⟩) X.ws.length cap) ∧ W.cell? ⟨w.heap.size, 0, none⟩ = some (sd x.key) ∧ W.cell? ⟨w.heap.size, 1, none⟩ = some (sd x.val) ∧ W.cell? ⟨w.heap.size, 2, none⟩ = some (.bool x.dead)) := fun X' W c ha => ⟨by rw [← HV.out]; exact block_cell (c.sc.tx ha).1 rfl, c.bc, c.bc, c.bc⟩
   have ha := HU.out.act
   clear X3 t4
   go_upto_region 8 with fail
   refine wp_region_held_drew (S := (fun W => W.cell? ⟨f.tb, 4, none⟩ = some (.slice (some ⟨g, 0, none⟩) X.ws.length cap) ∧ W.cell? ⟨w.heap.size, 0, none⟩ = some (sd x.key) ∧ W.cell? ⟨w.heap.size, 1, none⟩ = some (sd x.val) ∧ W.cell? ⟨w.heap.size, 2, none⟩ = some (.bool x.dead))) (by kernel_rfl) (SN.out _ _ HX.out ha) (fun hHeld => ?_)
   refine tq 0 ?_
   refine tq 1 ?_
   refine tq 2 ?_
   refine tw 3 ?_
   refine tq 4 ?_
   refine tw 5 ?_
   refine tq 6 ?_
   obtain ⟨w4, hw4⟩ := xj w3.drew
   rw [hw4] at HX ⊢
   clear hw4
   have hrow := (HX.out.sc.tx ha).2
   rw [HV.out] at hrow
   obtain ⟨cur, hc1, hc2, hc3, hc4, hc5, hc6⟩ := own_there hrow
   have HTH : Hid (w4.there g (i * 3) 3) := there_box hc1 (by omega)
   have HY : Hid (Cx (f.In X.act) N w f { X with ws := X.ws.set i x } [(w.heap.size, #[sd x.key, sd x.val, .bool x.dead], 70)] [(w.heap.size + 1, RZ, 41)] (w4.setCells g (i * 3) (wrc x))) := by
    have ks := setCells_kept g (wrc x) (i * 3) w4
    have hgb : f.vw.ownBlock = some g := by rw [HV.out]; rfl
    have ht : To f (Nm N [(w.heap.size + 1, RZ, 41)]) X.act w4 { f with vw := f.vw } { X with ws := X.ws.set i x } (w4.setCells g (i * 3) (wrc x)) := by
     refine HX.out.sc.written ha (ks.mono (fun k e => .inr (by subst e; exact hgb))) ?_ ?_ (fun k e => .inl e)
     ·rw [ks.block _ (lt_blk (HX.out.sc.tx ha).1) (fun e => ne_tag (HX.out.sc.tx ha).1 hc1 (by decide) e)]
      exact (HX.out.sc.tx ha).1
     ·have k := own_put wrc_len hrow hil x
      rw [HV.out, List.length_set] at *
      exact k
    exact HX.out.next ht
   clear hrow hc1 hc2 hc3 hc4 hc5 hc6
   refine rd 7 (fun K hK => ?_)
   rw [if_pos (by rfl)]
   refine wp_store_mid 70 _ _ rfl g (i * 3) #[sd x.key, sd x.val, .bool x.dead] (by simp [Act.eval, Act.put]) (by simp [Act.eval, Act.put]) HTH.out rfl (by simp [Value.oneCell']) ?_
   obtain ⟨w5, hw5⟩ := xj (w4.setCells g (i * 3) (wrc x))
   rw [show w4.setCells g (i * 3) (#[sd x.key, sd x.val, .bool x.dead] : Array Value).toList = w5 from hw5]
   rw [hw5] at HY
   refine kj hK (SN.out _ _ HY.out ha) (fun hHeld => ?_)
   clear hK K
   refine wpAnyH_done (by kernel_rfl) ?_ _
   clear hHeld SN HX HTH hw5
   have C74 : Hid (1 = 1 → Calls Tryz.prog 74 #[pz f.sb, iw 1, iw 0] w5 fun r w' => r = .returned (.agg (rsc (resF X 1) sy).toArray) ∧ Cx (f.In X.act) N w f { X with ws := X.ws.set i x } [(w.heap.size, #[sd x.key, sd x.val, .bool x.dead], 70)] [(w.heap.size + 1, RZ, 41)] w') := fun _ => by
    have k := told74 1 0 HY.out.sc
    refine Calls.mono k fun e w' h => ⟨?_, HY.out.on h.2⟩
    rw [h.1]
    have hz : (resF X 1).er = 0 := by unfold resF; split <;> rfl
    show Ending.returned (rsV { resF X 1 with er := 0 }) = _
    rw [← hz]
    rfl
   go_wp2_with fail
   refine (C74.out (by trivial)).mono ?_
   rintro r w9 ⟨rfl, h9⟩
   have X9 : Hid _ := h9
   clear h9 C74 HY
   go_wp2_with (refine sr X9.out ?_)
   refine bj X9.out ?_
   rw [HP.out]
   exact ⟨rfl, _, (X9.out.poke (setRow_kept _ _ _) (setRow_at (X9.out.bm mc)) (fun pp hp => by cases hp)).to, rfl, ⟨HU.out.bd.sc, HU.out.bd.co, HU.out.bd.gs⟩⟩
end Go.Proofs.YtkdkgdollmmcnaaGreat
namespace Go.Proofs.YtkdkgdollmmcnaaGreat
open Go.RowKit Go.Sort Go.Shelf
def wz : Wr := { key := [], val := [], dead := false }
structure Sz (base g cap n : Nat) (w : World) (S : List Wr) (W : World) : Prop where
 len : S.length = n
 own : W.ownsRow base 70 3 (.slice (some ⟨g, 0, none⟩) S.length cap) S.length (rowC wrc S)
 kp : Kept (fun k => k = g) w W
variable {base g cap n : Nat} {w W W' : World} {S : List Wr}
theorem Sz.on (h : Sz base g cap n w S W) (hb : Below W.heap.size W W') : Sz base g cap n w S W' := ⟨h.len, own_on h.own hb, h.kp.trans (Kept.of_below (F := fun _ => False) hb) (fun _ e => e.elim)⟩
theorem Sz.rng (h : Sz base g cap n w S W) {i : Nat} (hi : i < n) : W.rangeAt g (i * 3) (wrc (S.getD i wz)) := own_range wrc_len wz h.own (by rw [h.len]; exact hi)
theorem Sz.put (h : Sz base g cap n w S W) {i : Nat} (hi : i < n) (x : Wr) : Sz base g cap n w (S.set i x) (W.setCells g (i * 3) (wrc x)) :=
 ⟨by rw [List.length_set]; exact h.len, own_put wrc_len h.own (by rw [h.len]; exact hi) x, h.kp.trans (setCells_kept g _ _ W) (fun _ e => .inl e)⟩
theorem Sz.drew (h : Sz base g cap n w S W) : Sz base g cap n w S W.drew := h.on (Below.refl _ _).drew
theorem Sz.there (h : Sz base g cap n w S W) {i : Nat} (hi : i < n) : W.there g (i * 3) 3 := by
 obtain ⟨cur, h1, h2, h3, h4, h5, h6⟩ := own_there h.own
 have := h.len
 exact there_box h1 (by omega)
def swpL (S : List Wr) (i j : Nat) : List Wr := (S.set i (S.getD j wz)).set j (S.getD i wz)
theorem swpL_len (S : List Wr) (i j : Nat) : (swpL S i j).length = S.length := by simp [swpL]
theorem Sz.swp (h : Sz base g cap n w S W) {i j : Nat} (hi : i < n) (hj : j < n) : Sz base g cap n w (swpL S i j) ((W.setCells g (i * 3) (wrc (S.getD j wz))).setCells g (j * 3) (wrc (S.getD i wz))) := (h.put hi _).put hj _
theorem swpL_get (S : List Wr) {i j : Nat} (hi : i < S.length) (hj : j < S.length) (k : Nat) : (swpL S i j)[k]? = if k = j then S[i]? else if k = i then S[j]? else S[k]? := by
 unfold swpL
 rw [List.getElem?_set, List.getElem?_set]
 simp only [List.length_set]
 have e1 : some (S.getD i wz) = S[i]? := by simp [List.getD, hi]
 have e2 : some (S.getD j wz) = S[j]? := by simp [List.getD, hj]
 by_cases c1 : j = k
 ·subst c1
  rw [if_pos rfl, if_pos rfl, if_pos hj, e1]
 ·rw [if_neg c1]
  by_cases c2 : i = k
  ·subst c2
   rw [if_pos rfl, if_pos hi, e2, if_neg (fun e => c1 e.symm), if_pos rfl]
  ·rw [if_neg c2, if_neg (c := k = j) (fun e => c1 e.symm), if_neg (c := k = i) (fun e => c2 e.symm)]
def swapR (S : List Wr) (a b : Nat) : Nat → List Wr
 | 0 => S
 | k + 1 => swpL (swapR S a b k) (a + k) (b + k)
theorem swapR_len (S : List Wr) (a b : Nat) : ∀ k, (swapR S a b k).length = S.length
 | 0 => rfl
 | k + 1 => by rw [swapR, swpL_len, swapR_len S a b k]
theorem swapR_get (S : List Wr) {a b : Nat} : ∀ k, a + k ≤ b → b + k ≤ S.length → ∀ i, (swapR S a b k)[i]? = if a ≤ i ∧ i < a + k then S[b + (i - a)]? else if b ≤ i ∧ i < b + k then S[a + (i - b)]? else S[i]?
 | 0, _, _, i => by
  rw [if_neg (by omega), if_neg (by omega)]
  rfl
 | k + 1, h1, h2, i => by
  rw [swapR, swpL_get _ (by rw [swapR_len]; omega) (by rw [swapR_len]; omega)]
  have G := swapR_get S (a := a) (b := b) k (by omega) (by omega)
  simp only [G]
  by_cases c1 : i = b + k
  ·subst c1
   rw [if_pos rfl, if_neg (by omega), if_neg (by omega), if_neg (by omega), if_pos (by omega)]
   congr 1
   omega
  ·rw [if_neg c1]
   by_cases c2 : i = a + k
   ·subst c2
    rw [if_pos rfl, if_neg (by omega), if_neg (by omega), if_pos (by omega)]
    congr 1
    omega
   ·rw [if_neg c2]
    by_cases c3 : a ≤ i ∧ i < a + k
    ·rw [if_pos c3, if_pos (by omega)]
    ·rw [if_neg c3, if_neg (c := a ≤ i ∧ i < a + (k + 1)) (by omega)]
     by_cases c4 : b ≤ i ∧ i < b + k
     ·rw [if_pos c4, if_pos (by omega)]
     ·rw [if_neg c4, if_neg (by omega)]
theorem swapR_parts (P U M V Q : List Wr) (h : U.length = V.length) : swapR (P ++ U ++ M ++ V ++ Q) P.length (P.length + U.length + M.length) U.length = P ++ V ++ M ++ U ++ Q := by
 refine List.ext_getElem? fun i => ?_
 rw [swapR_get _ _ (by omega) (by simp; omega)]
 simp only [List.getElem?_append, List.length_append]
 by_cases c1 : i < P.length
 ·simp (disch := omega) only [if_pos, if_neg]
 ·by_cases c2 : i < P.length + U.length
  ·simp (disch := omega) only [if_pos, if_neg]
   congr 1
   omega
  ·by_cases c3 : i < P.length + U.length + M.length
   ·simp (disch := omega) only [if_pos, if_neg]
    congr 1
    omega
   ·by_cases c4 : i < P.length + U.length + M.length + V.length
    ·simp (disch := omega) only [if_pos, if_neg]
     congr 1
     omega
    ·simp (disch := omega) only [if_pos, if_neg]
     congr 1
     omega
theorem swap172 (a b k : Nat) (hab : a + k ≤ b) (hb : b + k ≤ n) (hn : n ≤ 1000000) (fv : Value) (h : Sz base g cap n w S W) :
  Calls Tryz.prog 172 #[.slice (some ⟨g, 0, none⟩) n cap, iw (a : Int), iw (b : Int), iw (k : Int), fv] W fun e w' => e = .returned (.tuple #[]) ∧ Sz base g cap n w (swapR S a b k) w' := by
 have H : Hid (Sz base g cap n w S W) := h
 clear h
 go_enter Tryz.func172, Tryz.ntmps172
 go_wp2_with fail
 go_loopw [10] (fun s wr => ∃ i : Nat, i ≤ k ∧ s = iw (i : Int) ∧ Hid (Sz base g cap n w (swapR S a b i) wr)) (fun s _ => k - (intOf s).toNat)
 case atStart => exact ⟨0, Nat.zero_le _, rfl, H.out⟩
 case round =>
  obtain ⟨i, hik, rfl, HS⟩ := hrel
  by_cases hlt : i < k
  ·have hlt' : (i : Int) < (k : Int) := by omega
   obtain ⟨x, hx⟩ := xj ((swapR S a b i).getD (a + i) wz)
   obtain ⟨y, hy⟩ := xj ((swapR S a b i).getD (b + i) wz)
   have hd := HS.out.drew
   have S2 : Hid (Sz base g cap n w (swapR S a b (i + 1)) ((wr.drew.setCells g ((a + i) * 3) (wrc y)).setCells g ((b + i) * 3) (wrc x))) := by
    rw [← hx, ← hy]
    exact hd.swp (by omega) (by omega)
   have RX : Hid (wr.drew.rangeAt g ((a + i) * 3) (wrc x)) := by rw [← hx]; exact hd.rng (by omega)
   have RY : Hid (wr.drew.rangeAt g ((b + i) * 3) (wrc y)) := by rw [← hy]; exact hd.rng (by omega)
   have TA : Hid (wr.drew.there g ((a + i) * 3) 3) := hd.there (by omega)
   have TB : Hid ((wr.drew.setCells g ((a + i) * 3) (wrc y)).there g ((b + i) * 3) 3) := (hd.put (by omega) y).there (by omega)
   have ra : IntKind.i64.wrap ((a : Int) + (i : Int)) = ((a + i : Nat) : Int) := by rw [IntKind.wrap_i64]; omega
   have rb : IntKind.i64.wrap ((b : Int) + (i : Int)) = ((b + i : Nat) : Int) := by rw [IntKind.wrap_i64]; omega
   have ba : a + i < n := by omega
   have bb : b + i < n := by omega
   have hi9 : i < 1000000 := by omega
   clear hd HS hx hy H hn
   generalize a + i = p at *
   generalize b + i = q at *
   go_wp2_with fail
   refine wp_region_held_drew (S := (fun _ => True)) (by kernel_rfl) trivial (fun hHeld => ?_)
   refine tq 0 ?_
   refine tq 1 ?_
   refine tq 2 ?_
   refine tq 3 ?_
   refine tq 4 ?_
   refine tq 5 ?_
   refine tq 6 ?_
   refine tq 7 ?_
   refine tq 8 ?_
   refine tq 9 ?_
   refine tq 10 ?_
   refine tq 11 ?_
   refine tq 12 ?_
   refine tq 14 ?_
   refine tq 15 ?_
   refine tq 16 ?_
   refine tq 17 ?_
   refine tq 18 ?_
   refine wpAnyH_ready (rs := [13, 19]) (by kernel_rfl) (by simp) ?_
   refine AllReadyH.cons rfl (fun K hK => ?_) (AllReadyH.cons rfl (fun K hK => ?_) AllReadyH.nil)
   ·rw [if_pos (by rfl)]
    refine wp_load_mid 70 _ rfl g (q * 3) (by simp [Act.eval, Act.put]) (wrc y) _ RY.out Tryz.underlying70 rfl rfl ?_
    refine kj hK trivial (fun hHeld => ?_)
    clear hK K
    refine rd 19 (fun K hK => ?_)
    rw [if_pos (by rfl)]
    refine wp_load_mid 70 _ rfl g (p * 3) (by simp [Act.eval, Act.put]) (wrc x) _ RX.out Tryz.underlying70 rfl rfl ?_
    refine kj hK trivial (fun hHeld => ?_)
    clear hK K
    refine tq 20 ?_
    refine rd 21 (fun K hK => ?_)
    rw [if_pos (by rfl)]
    refine wp_store_mid 70 _ _ rfl g (p * 3) (wrc y).toArray (by simp [Act.eval, Act.put]) (by simp [Act.eval, Act.put]) TA.out rfl (all_oneCell_toArray (wrc_one y)) ?_
    refine kj hK trivial (fun hHeld => ?_)
    clear hK K
    refine tq 22 ?_
    refine rd 23 (fun K hK => ?_)
    rw [if_pos (by rfl)]
    refine wp_store_mid 70 _ _ rfl g (q * 3) (wrc x).toArray (by simp [Act.eval, Act.put]) (by simp [Act.eval, Act.put]) TB.out rfl (all_oneCell_toArray (wrc_one x)) ?_
    refine kj hK trivial (fun hHeld => ?_)
    clear hK K
    refine wpAnyH_done (by kernel_rfl) ?_ _
    clear hHeld TA TB RX RY
    generalize (wr.drew.setCells g (p * 3) (wrc y)).setCells g (q * 3) (wrc x) = w2 at S2 ⊢
    go_wp2_with fail
    go_roundw
    case rel => exact ⟨i + 1, hlt, by go_num, S2.out⟩
    case measure => simp [intOf]; omega
   ·rw [if_pos (by rfl)]
    refine wp_load_mid 70 _ rfl g (p * 3) (by simp [Act.eval, Act.put]) (wrc x) _ RX.out Tryz.underlying70 rfl rfl ?_
    refine kj hK trivial (fun hHeld => ?_)
    clear hK K
    refine rd 13 (fun K hK => ?_)
    rw [if_pos (by rfl)]
    refine wp_load_mid 70 _ rfl g (q * 3) (by simp [Act.eval, Act.put]) (wrc y) _ RY.out Tryz.underlying70 rfl rfl ?_
    refine kj hK trivial (fun hHeld => ?_)
    clear hK K
    refine tq 20 ?_
    refine rd 21 (fun K hK => ?_)
    rw [if_pos (by rfl)]
    refine wp_store_mid 70 _ _ rfl g (p * 3) (wrc y).toArray (by simp [Act.eval, Act.put]) (by simp [Act.eval, Act.put]) TA.out rfl (all_oneCell_toArray (wrc_one y)) ?_
    refine kj hK trivial (fun hHeld => ?_)
    clear hK K
    refine tq 22 ?_
    refine rd 23 (fun K hK => ?_)
    rw [if_pos (by rfl)]
    refine wp_store_mid 70 _ _ rfl g (q * 3) (wrc x).toArray (by simp [Act.eval, Act.put]) (by simp [Act.eval, Act.put]) TB.out rfl (all_oneCell_toArray (wrc_one x)) ?_
    refine kj hK trivial (fun hHeld => ?_)
    clear hK K
    refine wpAnyH_done (by kernel_rfl) ?_ _
    clear hHeld TA TB RX RY
    generalize (wr.drew.setCells g (p * 3) (wrc y)).setCells g (q * 3) (wrc x) = w2 at S2 ⊢
    go_wp2_with fail
    go_roundw
    case rel => exact ⟨i + 1, hlt, by go_num, S2.out⟩
    case measure => simp [intOf]; omega
  ·have hlt' : ¬ (i : Int) < (k : Int) := by omega
   have hk : i = k := by omega
   subst hk
   go_wp2_with fail
   go_end0
   exact ⟨rfl, HS.out⟩
theorem cmp122 (x y : Wr) (W : World) : Calls Tryz.prog 122 #[.agg (wrc x).toArray, .agg (wrc y).toArray] W fun e w' => e = .returned (iw (cmpF x.key y.key)) ∧ Below W.heap.size W w' := by
 have C1 : Hid (∀ W, 1 = 1 → Calls Tryz.prog 115 #[sd x.key, sd y.key] W fun e w' => e = .returned (iw (cmpF x.key y.key)) ∧ w' = W) := fun W _ => cmp115 _ _ W
 show Calls Tryz.prog 122 #[.agg #[sd x.key, sd x.val, .bool x.dead], .agg #[sd y.key, sd y.val, .bool y.dead]] W _
 go_enter Tryz.func122, Tryz.ntmps122
 go_wp2_with (go_at_call 115; refine (C1.out _ (by trivial)).mono ?_; rintro e w2 ⟨rfl, rfl⟩)
 go_ret
 exact ⟨rfl, (al _).trans ((al _).mono (al _).size)⟩
theorem rot171 (P U V Q : List Wr) (hU : 1 ≤ U.length) (hV : 1 ≤ V.length) (fv : Value) (hn : n ≤ 1000000) (h : Sz base g cap n w (P ++ U ++ V ++ Q) W) (m b : Nat) (hm : P.length + U.length = m) (hb : m + V.length = b) :
  Calls Tryz.prog 171 #[.slice (some ⟨g, 0, none⟩) n cap, iw (P.length : Int), iw (m : Int), iw (b : Int), fv] W fun e w' => e = .returned (.tuple #[]) ∧ Sz base g cap n w (P ++ V ++ U ++ Q) w' := by
 have hl := h.len
 simp only [List.length_append] at hl
 have H : Hid (Sz base g cap n w (P ++ U ++ V ++ Q) W) := h
 obtain ⟨T, hT⟩ := xj (P ++ V ++ U ++ Q)
 have HT : Hid (P ++ V ++ U ++ Q = T) := hT
 rw [hT]
 have hm9 : m ≤ 1000000 := by omega
 have hb9 : b ≤ 1000000 := by omega
 have r1 : IntKind.i64.wrap ((m : Int) - (P.length : Int)) = (U.length : Int) := by rw [IntKind.wrap_i64]; omega
 have r2 : IntKind.i64.wrap ((b : Int) - (m : Int)) = (V.length : Int) := by rw [IntKind.wrap_i64]; omega
 have HB : Hid (b ≤ n) := by show b ≤ n; omega
 clear h hT hl hb
 go_enter Tryz.func171, Tryz.ntmps171
 go_wp2_with fail
 go_loopw [10, 11] (fun s t wr => ∃ P1 U1 V1 Q1 : List Wr, s = iw (U1.length : Int) ∧ t = iw (V1.length : Int) ∧ P1.length + U1.length = m ∧ 1 ≤ U1.length ∧ 1 ≤ V1.length ∧ Hid (P1 ++ V1 ++ U1 ++ Q1 = T) ∧ Hid (Sz base g cap n w (P1 ++ U1 ++ V1 ++ Q1) wr)) (fun s t _ => (intOf s).toNat + (intOf t).toNat)
 case atStart => exact ⟨P, U, V, Q, rfl, rfl, hm, hU, hV, HT.out, H.out⟩
 case round =>
  obtain ⟨P1, U1, V1, Q1, rfl, rfl, hm1, hu1, hv1, HT1, HS⟩ := hrel
  have hl := HS.out.len
  simp only [List.length_append] at hl
  clear H HT r1 r2 hU hV HB
  obtain ⟨i, hi⟩ := xj U1.length
  obtain ⟨j, hj⟩ := xj V1.length
  obtain ⟨p, hp⟩ := xj P1.length
  have c1 : IntKind.i64.wrap ((m : Int) - (i : Int)) = (p : Int) := by rw [IntKind.wrap_i64]; omega
  rw [hi, hj]
  by_cases hne : i = j
  ·have C1 : Hid (1 = 1 → Calls Tryz.prog 172 #[.slice (some ⟨g, 0, none⟩) n cap, iw (p : Int), iw (m : Int), iw (j : Int), fv] wr fun e w' => e = .returned (.tuple #[]) ∧ Sz base g cap n w T w') := fun _ => by
    have k := swap172 p m j (by omega) (by omega) hn fv HS.out
    have e := swapR_parts P1 U1 [] V1 Q1 (by omega)
    simp only [List.append_nil, List.length_nil, Nat.add_zero, hp, hi] at e
    rw [show p + i = m by omega, hne, HT1.out] at e
    rw [e] at k
    exact k
   subst hne
   clear HT1 HS hl hi hj hp hm1 hu1 hv1
   go_wp2_with (go_at_call 172; refine (C1.out (by trivial)).mono ?_; rintro e w2 ⟨rfl, h2⟩; have X2 : Hid _ := h2; clear h2)
   go_end0
   exact ⟨rfl, X2.out⟩
  ·have hne' : ¬ (i : Int) = (j : Int) := by omega
   by_cases hgt : j < i
   ·have hgt' : (j : Int) < (i : Int) := by omega
    have C1 : Hid (1 = 1 → Calls Tryz.prog 172 #[.slice (some ⟨g, 0, none⟩) n cap, iw (p : Int), iw (m : Int), iw (j : Int), fv] wr fun e w' => e = .returned (.tuple #[]) ∧ Sz base g cap n w ((P1 ++ V1) ++ U1.drop j ++ U1.take j ++ Q1) w') := fun _ => by
     have k := swap172 p m j (by omega) (by omega) hn fv HS.out
     have hA : (U1.take j).length = j := by rw [List.length_take]; omega
     have hB : (U1.drop j).length = i - j := by rw [List.length_drop]; omega
     have e := swapR_parts P1 (U1.take j) (U1.drop j) V1 Q1 (by omega)
     rw [hp, hA, hB, show p + j + (i - j) = m by omega, List.append_assoc P1, List.take_append_drop] at e
     rw [e] at k
     exact k
    have c2 : IntKind.i64.wrap ((i : Int) - (j : Int)) = ((i - j : Nat) : Int) := by rw [IntKind.wrap_i64]; omega
    have hd : (U1.drop j).length = i - j := by rw [List.length_drop]; omega
    have ht : (U1.take j).length = j := by rw [List.length_take]; omega
    have hpv : (P1 ++ V1).length = p + j := by rw [List.length_append]; omega
    have HT2 : Hid ((P1 ++ V1) ++ U1.take j ++ U1.drop j ++ Q1 = T) := by
     show _ = _
     rw [← HT1.out, List.append_assoc (P1 ++ V1), List.take_append_drop]
    clear HT1 HS hl
    generalize U1.drop j = Ud at *
    generalize U1.take j = Ut at *
    generalize P1 ++ V1 = PV at *
    go_wp2_with (go_at_call 172; refine (C1.out (by trivial)).mono ?_; rintro e w2 ⟨rfl, h2⟩; have X2 : Hid _ := h2; clear h2)
    go_roundw
    case rel => exact ⟨PV, Ud, Ut, Q1, by rw [hd], by rw [ht], by omega, by omega, by omega, HT2.out, X2.out⟩
    case measure => simp [intOf]; omega
   ·have hgt' : ¬ (j : Int) < (i : Int) := by omega
    have hv : (V1.take (j - i)).length = j - i := by rw [List.length_take]; omega
    have hv2 : (V1.drop (j - i)).length = i := by rw [List.length_drop]; omega
    have C1 : Hid (1 = 1 → Calls Tryz.prog 172 #[.slice (some ⟨g, 0, none⟩) n cap, iw (p : Int), iw ((m + j - i : Nat) : Int), iw (i : Int), fv] wr fun e w' => e = .returned (.tuple #[]) ∧ Sz base g cap n w (P1 ++ V1.drop (j - i) ++ V1.take (j - i) ++ (U1 ++ Q1)) w') := fun _ => by
     have k := swap172 p (m + j - i) i (by omega) (by omega) hn fv HS.out
     have e := swapR_parts P1 U1 (V1.take (j - i)) (V1.drop (j - i)) Q1 (by omega)
     rw [hp, hi, hv, show p + i + (j - i) = m + j - i by omega, List.append_assoc (P1 ++ U1), List.take_append_drop] at e
     rw [e, List.append_assoc _ U1 Q1] at k
     exact k
    have c2 : IntKind.i64.wrap ((j : Int) - (i : Int)) = ((j - i : Nat) : Int) := by rw [IntKind.wrap_i64]; omega
    have c3 : IntKind.i64.wrap ((m : Int) + (j : Int)) = ((m + j : Nat) : Int) := by rw [IntKind.wrap_i64]; omega
    have c4 : IntKind.i64.wrap (((m + j : Nat) : Int) - (i : Int)) = ((m + j - i : Nat) : Int) := by rw [IntKind.wrap_i64]; omega
    have HT2 : Hid (P1 ++ V1.take (j - i) ++ V1.drop (j - i) ++ (U1 ++ Q1) = T) := by
     show _ = _
     rw [← HT1.out, List.append_assoc P1 (V1.take _), List.take_append_drop, List.append_assoc _ U1 Q1]
    have hj9 : j ≤ 1000000 := by omega
    clear HT1 HS hl
    generalize V1.drop (j - i) = Vd at *
    generalize V1.take (j - i) = Vt at *
    generalize U1 ++ Q1 = UQ at *
    generalize hmj : m + j = mj at *
    generalize hmi : mj - i = mi at *
    generalize hji : j - i = ji at *
    go_wp2_with (go_at_call 172; refine (C1.out (by trivial)).mono ?_; rintro e w2 ⟨rfl, h2⟩; have X2 : Hid _ := h2; clear h2)
    go_roundw
    case rel => exact ⟨P1, Vd, Vt, UQ, by rw [hv2], by rw [hv], by omega, by omega, by omega, HT2.out, X2.out⟩
    case measure => simp [intOf]; omega
def Srt (L : List Wr) : Prop := L.Pairwise fun x y => ¬ y.key < x.key
def Eqk (A B : List Wr) : Prop := ∀ k : List UInt8, B.filter (fun x => decide (x.key = k)) = A.filter (fun x => decide (x.key = k))
theorem Eqk.refl (A : List Wr) : Eqk A A := fun _ => rfl
theorem Eqk.trans {A B C : List Wr} (h : Eqk A B) (h' : Eqk B C) : Eqk A C := fun k => by rw [h' k, h k]
theorem Eqk.app {A A' B B' : List Wr} (h : Eqk A A') (h' : Eqk B B') : Eqk (A ++ B) (A' ++ B') := fun k => by rw [List.filter_append, List.filter_append, h k, h' k]
theorem Eqk.blocks {U V : List Wr} (h : ∀ x ∈ U, ∀ y ∈ V, y.key < x.key) : Eqk (U ++ V) (V ++ U) := fun k => by
 rw [List.filter_append, List.filter_append]
 by_cases c : ∃ x ∈ U, x.key = k
 ·obtain ⟨x, hx, rfl⟩ := c
  have e : V.filter (fun z => decide (z.key = x.key)) = [] := by
   rw [List.filter_eq_nil_iff]
   intro y hy e
   have := h x hx y hy
   rw [of_decide_eq_true e] at this
   exact List.lt_irrefl _ this
  rw [e, List.nil_append, List.append_nil]
 ·have e : U.filter (fun z => decide (z.key = k)) = [] := by
   rw [List.filter_eq_nil_iff]
   intro y hy e
   exact c ⟨y, hy, of_decide_eq_true e⟩
  rw [e, List.nil_append, List.append_nil]
theorem Eqk.mem {A B : List Wr} (h : Eqk A B) {x : Wr} : x ∈ B ↔ x ∈ A := by
 have e : ∀ L : List Wr, x ∈ L ↔ x ∈ L.filter (fun z => decide (z.key = x.key)) := fun L => by simp [List.mem_filter]
 rw [e B, e A, h]
theorem nlt_trans {a b c : List UInt8} (h1 : ¬ b < a) (h2 : ¬ c < b) : ¬ c < a := fun h => h1 (List.lt_of_le_of_lt (show b ≤ c from h2) h)
theorem lt_nlt {a b : List UInt8} (h : a < b) : ¬ b < a := fun h' => List.lt_irrefl _ (List.lt_trans h h')
theorem Srt.app {A B : List Wr} : Srt (A ++ B) ↔ Srt A ∧ Srt B ∧ ∀ x ∈ A, ∀ y ∈ B, ¬ y.key < x.key := List.pairwise_append
theorem Srt.place {C1 C2 : List Wr} {x : Wr} (h : Srt (C1 ++ C2)) (h1 : ∀ y ∈ C1, ¬ x.key < y.key) (h2 : ∀ y ∈ C2, x.key < y.key) : Srt (C1 ++ x :: C2) := by
 obtain ⟨ha, hb, hc⟩ := Srt.app.1 h
 refine Srt.app.2 ⟨ha, List.pairwise_cons.2 ⟨fun y hy => lt_nlt (h2 y hy), hb⟩, fun y hy z hz => ?_⟩
 rcases List.mem_cons.1 hz with rfl | hz
 ·exact h1 y hy
 ·exact hc y hy z hz
theorem Srt.last {C : List Wr} {y : Wr} (h : Srt (C ++ [y])) {x : Wr} (hx : ¬ x.key < y.key) : ∀ z ∈ C ++ [y], ¬ x.key < z.key := fun z hz => by
 obtain ⟨ha, hb, hc⟩ := Srt.app.1 h
 rcases List.mem_append.1 hz with hz | hz
 ·exact nlt_trans (hc z hz y (List.mem_singleton.2 rfl)) hx
 ·rw [List.mem_singleton.1 hz]
  exact hx
theorem Eqk.place {C1 C2 : List Wr} {x : Wr} (h2 : ∀ y ∈ C2, x.key < y.key) : Eqk (C1 ++ C2 ++ [x]) (C1 ++ x :: C2) := by
 have e := (Eqk.refl C1).app (Eqk.blocks (U := C2) (V := [x]) (fun a ha b hb => by rw [List.mem_singleton.1 hb]; exact h2 a ha))
 rw [← List.append_assoc] at e
 exact e
theorem swp_adj (F B : List Wr) (x y : Wr) : swpL (F ++ y :: x :: B) (F.length + 1) F.length = F ++ x :: y :: B := by
 unfold swpL
 simp [List.getD, List.getElem?_append]
theorem swp_adj' (F B : List Wr) (x y : Wr) : swpL (F ++ x :: y :: B) F.length (F.length + 1) = F ++ y :: x :: B := by
 unfold swpL
 simp [List.getD, List.getElem?_append]
theorem get_adj (F B : List Wr) (x y : Wr) : (F ++ y :: x :: B).getD (F.length + 1) wz = x ∧ (F ++ y :: x :: B).getD F.length wz = y := by
 simp [List.getD, List.getElem?_append]
end Go.Proofs.YtkdkgdollmmcnaaGreat
