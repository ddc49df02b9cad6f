import Derived.Test.YtkdkgdollmmcnaaGreatWbi
set_option maxHeartbeats 4000000
set_option maxRecDepth 100000
set_option linter.unusedVariables false
set_option linter.unusedSimpArgs false
namespace Go.Proofs.YtkdkgdollmmcnaaGreat
open Go.RowKit Go.Sort Go.Shelf
variable {M M' G N : Nat → Prop} {W W' w : World} {f f' : Fo} {X X' : Ss}
variable {W0 : World} {o6 o7 o8 : Option Nat} {b6 b7 b8 : Nat} {c0 c1 c2 c3 : Value}
theorem R5.cells (h : R5 W0 b6 b7 b8 c0 c1 c2 c3 W) : W.cell? ⟨b6, 0, none⟩ = some c0 ∧ W.cell? ⟨b6, 1, none⟩ = some c1 ∧ W.cell? ⟨b7, 0, none⟩ = some c2 ∧ W.cell? ⟨b8, 0, none⟩ = some c3 ∧ W.frozen? ⟨b6, 0, none⟩ = false ∧ W.frozen? ⟨b6, 1, none⟩ = false ∧ W.frozen? ⟨b7, 0, none⟩ = false ∧ W.frozen? ⟨b8, 0, none⟩ = false := ⟨block_cell h.p6.1 rfl, block_cell h.p6.1 rfl, block_cell h.p7.1 rfl, block_cell h.p8.1 rfl, block_frozen h.p6.1 0, block_frozen h.p6.1 1, block_frozen h.p7.1 0, block_frozen h.p8.1 0⟩
theorem R5.f6 (h : R5 W0 b6 b7 b8 c0 c1 c2 c3 W) (u v : Value) : ∃ W', (W.setCell ⟨b6, 0, none⟩ u).setCell ⟨b6, 1, none⟩ v = W' ∧ R5 W0 b6 b7 b8 u v c2 c3 W' := ⟨_, rfl, (h.s0 u).s1 v⟩
theorem R5.f7 (h : R5 W0 b6 b7 b8 c0 c1 c2 c3 W) (u : Value) : ∃ W', W.setCell ⟨b7, 0, none⟩ u = W' ∧ R5 W0 b6 b7 b8 c0 c1 u c3 W' := ⟨_, rfl, h.s2 u⟩
theorem R5.f8 (h : R5 W0 b6 b7 b8 c0 c1 c2 c3 W) (u : Value) : ∃ W', W.setCell ⟨b8, 0, none⟩ u = W' ∧ R5 W0 b6 b7 b8 c0 c1 c2 u W' := ⟨_, rfl, h.s3 u⟩
theorem leftAt_in {n b : Nat} {v : Int} {act : Bool} {i : Nat} (e : (f.leftAt n b v).In act i) : f.In act i ∨ i = b := by
 rcases e with e | e | e | e | e | ⟨m, hm, e⟩
 ·exact .inl (.inl e)
 ·exact .inl (.inr (.inl e))
 ·exact .inl (.inr (.inr (.inl e)))
 ·exact .inl (.inr (.inr (.inr (.inl e))))
 ·exact .inl (.inr (.inr (.inr (.inr (.inl e)))))
 ·by_cases e2 : m = n
  ·right
   rw [e, e2]
   simp [Fo.leftAt]
  ·left
   refine .inr (.inr (.inr (.inr (.inr ⟨m, ?_, ?_⟩))))
   ·rcases List.mem_cons.1 hm with e3 | e3
    ·exact absurd e3 e2
    ·exact e3
   ·rw [e]
    simp [Fo.leftAt, e2]
theorem Cx.three {Lo Lm : List Bo} {v : Int} {n : Nat} (c : Cx M N w f X Lo Lm W0) (hc : ∀ a ∈ X.asks, a.ch = true) (hf : ∀ a ∈ X.asks, a.q.k = 5 → a.on ≠ n) (h : R5 W0 b6 b7 b8 c0 c1 c2 (iw v) W) : Cx M N w (f.leftAt n b8 v) X ((b6, #[c0, c1], 38) :: (b7, #[c2], 3) :: Lo) Lm W := by
 have k := c.left0 hc hf b8 v h.bel h.p8.1 h.p8.2
 have hni : ∀ j, W0.heap.size ≤ j → j ≠ b8 → ¬ (f.leftAt n b8 v).In X.act j := fun j h1 h2 e => by
  rcases leftAt_in e with e | e
  ·exact absurd (c.sc.lt e) (by omega)
  ·exact h2 e
 have hnm : ∀ j, W0.heap.size ≤ j → ¬ Nm N Lm j := fun j h1 e => absurd (c.lt e) (by omega)
 exact (k.add h.p7.1 (hni _ h.p7.2 h.ne) (hnm _ h.p7.2)).add h.p6.1 (hni _ h.p6.2 (ne_tag h.p6.1 h.p8.1 (by decide))) (hnm _ h.p6.2)
theorem succeed139 (u : Un f N X 9 w) (hne : X.ws ≠ []) (hfr : ∀ a ∈ X.asks, a.ch = true → a.q.k = 5 → a.on ≠ X.n) (hin : homeF bt X (priF X) ∈ partsN (bt.parts X.ws X.nsh) (bt.parts X.ws X.nsh).length) (p l : Nat) : Calls Tryz.prog 139 #[pz f.sb, .agg #[uw p, uu l]] w (Got f N X w (commF bt X p l).1 (commF bt X p l).2) := by
 have X0 := (Cx.start (Lo := []) u.sc u.nk nb).box21 #[pz f.sb] 24 #[uw p, uu l] 34 RZ 41
 obtain ⟨W1, hW1⟩ := xj (((w.alloc (.cells #[pz f.sb] 24)).alloc (.cells #[uw p, uu l] 34)).alloc (.cells RZ 41))
 rw [hW1] at X0
 have c1 : W1.cell? ⟨w.heap.size, 0, none⟩ = some (pz f.sb) := block_cell (X0.bx (cs := #[pz f.sb]) (ty := 24) (by simp)) rfl
 have C83 : Hid (1 = 1 → Calls Tryz.prog 83 #[pz f.sb] W1 fun e w' => e = .returned (.tuple #[]) ∧ ∃ va, Cx (f.In X.act) N w (f.drop va) (dropF X) [(w.heap.size + 1, #[uw p, uu l], 34), (w.heap.size, #[pz f.sb], 24)] [(w.heap.size + 2, RZ, 41)] w') := fun _ => (settle83 X0.sc).mono fun e w' ⟨h1, va, h2⟩ => ⟨h1, va, X0.next h2⟩
 obtain ⟨mp, hmp⟩ := xj (maxT (X.np, X.nl) (p, l)).1
 obtain ⟨ml, hml⟩ := xj (maxT (X.np, X.nl) (p, l)).2
 obtain ⟨hm, hhm⟩ := xj (homeF bt X (priF X))
 rw [hhm] at hin
 have HHM : Hid (homeF bt X (priF X) = hm) := hhm
 have HCM : Hid ((commF bt X p l).1 = { (if ((partsN (bt.parts X.ws X.nsh) (bt.parts X.ws X.nsh).length).filter (· != hm)).length = 0 then doneF (choreN { zQ with k := 5, c := X.cl, n := X.n, ap := p, al := l } hm ((partsN (bt.parts X.ws X.nsh) (bt.parts X.ws X.nsh).length).filter (· != hm)) { dropF X with np := mp, nl := ml }) X.cl X.n hm else choreN { zQ with k := 5, c := X.cl, n := X.n, ap := p, al := l } hm ((partsN (bt.parts X.ws X.nsh) (bt.parts X.ws X.nsh).length).filter (· != hm)) { dropF X with np := mp, nl := ml }) with act := false } ∧ (commF bt X p l).2 = { resF X 4 with ap := p, al := l }) := by
  refine ⟨?_, rfl⟩
  unfold commF
  simp only [hhm, hmp, hml]
  rw [chores_but, parts_all]
 have HMX : Hid ((maxT (X.np, X.nl) (p, l)).1 = mp ∧ (maxT (X.np, X.nl) (p, l)).2 = ml) := ⟨hmp, hml⟩
 have HU : Hid (Un f N X 9 w) := u
 have HNE : Hid (X.ws ≠ []) := hne
 have HFR : Hid (∀ a ∈ X.asks, a.ch = true → a.q.k = 5 → a.on ≠ X.n) := hfr
 have HN8 : Hid (∀ n ∈ partsN (bt.parts X.ws X.nsh) (bt.parts X.ws X.nsh).length, n < 4294967296) := fun n hn => Nat.lt_of_lt_of_le (parts_lt n hn) (Nat.le_trans (Pla.split_len X.ws (X.nsh : Int)) (by decide))
 have HL8 : Hid ((partsN (bt.parts X.ws X.nsh) (bt.parts X.ws X.nsh).length).length ≤ 8) := Nat.le_trans (parts_len _ _) (Pla.split_len X.ws (X.nsh : Int))
 have HND : Hid (((partsN (bt.parts X.ws X.nsh) (bt.parts X.ws X.nsh).length).filter (· != hm)).length = (partsN (bt.parts X.ws X.nsh) (bt.parts X.ws X.nsh).length).length - 1 ∧ 1 ≤ (partsN (bt.parts X.ws X.nsh) (bt.parts X.ws X.nsh).length).length) := ⟨but_len (parts_nodup _ _) hin, List.length_pos_iff.2 (List.ne_nil_of_mem hin)⟩
 have C89a : Hid (∀ (f' : Fo) (N' : Nat → Prop) (X' : Ss) W, SC f' N' X' W → X'.act = true → X'.ws = X.ws → X'.nsh = X.nsh → f'.sb = f.sb → Calls Tryz.prog 89 #[pz f.sb] W fun r w' => (∃ v, r = .returned v ∧ w'.ownsRow W.heap.size 3 1 v (partsN (bt.parts X.ws X.nsh) (bt.parts X.ws X.nsh).length).length (rowC inc (partsN (bt.parts X.ws X.nsh) (bt.parts X.ws X.nsh).length))) ∧ Below W.heap.size W w') := fun f' N' X' W h ha e1 e2 e3 => by
  have k := parts89 h ha (by rw [e2]; exact HU.out.ns) (by rw [e1]; exact HU.out.ws)
  rw [e1, e2, e3] at k
  exact k
 generalize hns : partsN (bt.parts X.ws X.nsh) (bt.parts X.ws X.nsh).length = ns at *
 clear u X0 hhm hmp hml hne hfr hin hns
 go_enter Tryz.func139, Tryz.ntmps139
 go_wp2_with fail
 refine (C83.out (by trivial)).mono ?_
 rintro e w2 ⟨rfl, va, h2⟩
 have XA : Hid _ := h2
 clear h2 C83 c1 hW1
 have SN : Hid (∀ X' Lm W, Cx (f.In X.act) N w (f.drop va) X' [(w.heap.size + 1, #[uw p, uu l], 34), (w.heap.size, #[pz f.sb], 24)] Lm W → W.cell? ⟨w.heap.size, 0, none⟩ = some (pz f.sb) ∧ W.cell? ⟨w.heap.size + 1, 0, none⟩ = some (uw p) ∧ W.cell? ⟨w.heap.size + 1, 1, none⟩ = some (uu l)) := fun X' Lm W c => ⟨block_cell (c.bx (cs := #[pz f.sb]) (ty := 24) (by simp)) rfl, block_cell (c.bx (b := w.heap.size + 1) (cs := #[uw p, uu l]) (ty := 34) (by simp)) rfl, block_cell (c.bx (b := w.heap.size + 1) (cs := #[uw p, uu l]) (ty := 34) (by simp)) rfl⟩
 have C49 : Hid (∀ bk W, Cx (f.In X.act) N w (f.drop va) (dropF X) [(w.heap.size + 1, #[uw p, uu l], 34), (w.heap.size, #[pz f.sb], 24)] [(w.heap.size + 2, RZ, 41)] W → W.heap[bk]? = some (.cells #[uw X.np, uu X.nl, uw p, uu l] 34 (0, 0)) → Calls Tryz.prog 49 #[.slice (some ⟨bk, 0, none⟩) 2 2] W fun e w' => e = .returned (.agg #[uw mp, uu ml]) ∧ Cx (f.In X.act) N w (f.drop va) (dropF X) [(w.heap.size + 1, #[uw p, uu l], 34), (w.heap.size, #[pz f.sb], 24)] [(w.heap.size + 2, RZ, 41)] w') := fun bk W c hk => by
  have k := max49 X.np X.nl p l bk 34 W hk
  rw [HMX.out.1, HMX.out.2] at k
  exact k.mono fun e w' ⟨h1, h2⟩ => ⟨h1, c.on h2⟩
 have HX : Hid (Cx (f.In X.act) N w (f.drop va) (dropF X) [(w.heap.size + 1, #[uw p, uu l], 34), (w.heap.size, #[pz f.sb], 24)] [(w.heap.size + 2, RZ, 41)] w2.drew) := XA.out.drew
 clear XA
 go_upto_region 2 with fail
 refine wp_region_held_drew (S := (fun W => W.cell? ⟨w.heap.size, 0, none⟩ = some (pz f.sb) ∧ W.cell? ⟨w.heap.size + 1, 0, none⟩ = some (uw p) ∧ W.cell? ⟨w.heap.size + 1, 1, none⟩ = some (uu l))) (by kernel_rfl) (SN.out _ _ _ HX.out) (fun hHeld => ?_)
 refine tw 0 ?_
 refine tw 1 ?_
 refine tq 2 ?_
 refine tq 3 ?_
 refine tw 5 ?_
 obtain ⟨w3, hw3⟩ := xj w2.drew
 rw [hw3] at HX ⊢
 clear hw3
 refine rd 4 (fun K hK => ?_)
 have a2 : w3.cell? ⟨f.sb, 2, none⟩ = some (uw X.np) := block_cell HX.out.sc.blk rfl
 have a3 : w3.cell? ⟨f.sb, 3, none⟩ = some (uu X.nl) := block_cell HX.out.sc.blk rfl
 go_simp
 clear a2 a3
 refine kj hK (SN.out _ _ _ HX.out) (fun hHeld => ?_)
 clear hK K
 refine rd 6 (fun K hK => ?_)
 go_simp
 have HY : Hid _ := HX.out.on (al (.cells #[uw X.np, uu X.nl, uw p, uu l] 34))
 have HK : Hid _ := heap_alloc_new w3 (.cells #[uw X.np, uu X.nl, uw p, uu l] 34)
 refine kj hK (SN.out _ _ _ HY.out) (fun hHeld => ?_)
 clear hK K
 refine rd 7 (fun K hK => ?_)
 go_simp
 refine (C49.out _ _ HY.out HK.out).mono ?_
 rintro e w4 ⟨rfl, h4⟩
 clear HX HY HK
 have HX : Hid _ := h4
 clear h4
 go_wp2_with fail
 refine kj hK (SN.out _ _ _ HX.out) (fun hHeld => ?_)
 clear hK K
 refine tq 8 ?_
 refine tq 9 ?_
 refine rd 10 (fun K hK => ?_)
 have a2 : w4.cell? ⟨f.sb, 2, none⟩ = some (uw X.np) := block_cell HX.out.sc.blk rfl
 have a3 : w4.cell? ⟨f.sb, 3, none⟩ = some (uu X.nl) := block_cell HX.out.sc.blk rfl
 have z2 : w4.frozen? ⟨f.sb, 2, none⟩ = false := block_frozen HX.out.sc.blk 2
 have z3 : w4.frozen? ⟨f.sb, 3, none⟩ = false := block_frozen HX.out.sc.blk 3
 have HY : Hid (Cx (f.In X.act) N w (f.drop va) { dropF X with np := mp, nl := ml } [(w.heap.size + 1, #[uw p, uu l], 34), (w.heap.size, #[pz f.sb], 24)] [(w.heap.size + 2, RZ, 41)] ((w4.setCell ⟨f.sb, 2, none⟩ (uw mp)).setCell ⟨f.sb, 3, none⟩ (uu ml))) := HX.out.next (HX.out.sc.now mp ml ((set_kept' w4 f.sb 2 (uw mp)).trans (set_kept' _ f.sb 3 (uu ml)) (fun _ e => .inl e)) (by
  have := block_set (j := 3) (uu ml) (block_set (j := 2) (uw mp) HX.out.sc.blk)
  exact this))
 go_simp
 obtain ⟨w5, hw5⟩ := xj ((w4.setCell ⟨f.sb, 2, none⟩ (uw mp)).setCell ⟨f.sb, 3, none⟩ (uu ml))
 rw [hw5] at HY
 rw [hw5]
 refine kj hK (SN.out _ _ _ HY.out) (fun hHeld => ?_)
 clear hK K
 refine wpAnyH_done (by kernel_rfl) ?_ _
 clear hHeld SN C49 HX a2 a3 z2 z3 hw5
 have c5 : w5.cell? ⟨w.heap.size, 0, none⟩ = some (pz f.sb) := block_cell (HY.out.bx (cs := #[pz f.sb]) (ty := 24) (by simp)) rfl
 have c6 : w5.cell? ⟨w.heap.size + 1, 0, none⟩ = some (uw p) := block_cell (HY.out.bx (b := w.heap.size + 1) (cs := #[uw p, uu l]) (ty := 34) (by simp)) rfl
 have c7 : w5.cell? ⟨w.heap.size + 1, 1, none⟩ = some (uu l) := block_cell (HY.out.bx (b := w.heap.size + 1) (cs := #[uw p, uu l]) (ty := 34) (by simp)) rfl
 have C76 : Hid (1 = 1 → Calls Tryz.prog 76 #[pz f.sb, iw 4, .agg #[uw p, uu l]] w5 fun r w' => r = .returned (rsV { resF X 4 with ap := p, al := l }) ∧ Cx (f.In X.act) N w (f.drop va) { dropF X with np := mp, nl := ml } [(w.heap.size + 1, #[uw p, uu l], 34), (w.heap.size, #[pz f.sb], 24)] [(w.heap.size + 2, RZ, 41)] w') := fun _ => (toldAt76 4 p l HY.out.sc).mono fun e w' ⟨h1, h2⟩ => ⟨h1, HY.out.on h2⟩
 clear HY
 go_wp2_with fail
 refine (C76.out (by trivial)).mono ?_
 rintro r w6 ⟨rfl, h6⟩
 have XT := h6.new (rsc { resF X 4 with ap := p, al := l } sy).toArray 41
 obtain ⟨W4, hW4⟩ := xj (w6.alloc (.cells (rsc { resF X 4 with ap := p, al := l } sy).toArray 41))
 rw [hW4] at XT
 have HX : Hid (Cx (f.In X.act) N w (f.drop va) { dropF X with np := mp, nl := ml } ((w6.heap.size, (rsc { resF X 4 with ap := p, al := l } sy).toArray, 41) :: [(w.heap.size + 1, #[uw p, uu l], 34), (w.heap.size, #[pz f.sb], 24)]) [(w.heap.size + 2, RZ, 41)] W4) := XT
 clear h6 XT C76 c5 c6 c7
 have HD : Hid (Cx (f.In X.act) N w (f.drop va) { dropF X with np := mp, nl := ml } ((w6.heap.size, (rsc { resF X 4 with ap := p, al := l } sy).toArray, 41) :: [(w.heap.size + 1, #[uw p, uu l], 34), (w.heap.size, #[pz f.sb], 24)]) [(w.heap.size + 2, RZ, 41)] W4.drew) := HX.out.drew
 clear HX
 have SN : Hid (∀ W, Below W4.drew.heap.size W4.drew W → W.cell? ⟨w.heap.size, 0, none⟩ = some (pz f.sb) ∧ W.cell? ⟨f.sb, 6, none⟩ = some (pz f.tb) ∧ W.cell? ⟨f.tb, 0, none⟩ = some (uu X.cl) ∧ W.cell? ⟨f.tb, 1, none⟩ = some (uu X.n)) := fun W hb => by
  have c := HD.out.on hb
  exact ⟨block_cell (c.bx (cs := #[pz f.sb]) (ty := 24) (by simp)) rfl, block_cell c.sc.blk (by simp [sbA, vtV, dropF, HU.out.act, Fo.drop]), block_cell (c.sc.tx HU.out.act).1 rfl, block_cell (c.sc.tx HU.out.act).1 rfl⟩
 have C137 : Hid (∀ W, Below W4.drew.heap.size W4.drew W → Calls Tryz.prog 137 #[pz f.sb] W fun e w' => e = .returned (iw (hm : Int)) ∧ Below W.heap.size W w') := fun W hb => by
  have k := home137 (HD.out.on hb).sc HU.out.act HNE.out
  rw [show homeF bt { dropF X with np := mp, nl := ml } (priF { dropF X with np := mp, nl := ml }) = hm from HHM.out] at k
  exact k
 have C89 : Hid (∀ W, Below W4.drew.heap.size W4.drew W → Calls Tryz.prog 89 #[pz f.sb] W fun e w' => ∃ ao cap, e = .returned (.slice ao ns.length cap) ∧ Below W.heap.size W w') := fun W hb => (C89a.out _ _ _ W (HD.out.on hb).sc HU.out.act rfl rfl rfl).mono fun e w' ⟨⟨v, h1, h2⟩, h3⟩ => by
  obtain ⟨ao, cap, rfl, -⟩ := rw_own h2
  exact ⟨ao, cap, h1, h3⟩
 obtain ⟨L1, hL1⟩ := xj ((ns.length : Int) - 1)
 have HL1 : Hid ((ns.length : Int) - 1 = L1) := hL1
 have hb1 : -9223372036854775808 ≤ L1 := by have := HL8.out; omega
 have hb2 : L1 < 9223372036854775808 := by have := HL8.out; omega
 have HW : Hid (IntKind.i64.wrap L1 = L1) := by
  show _ = _
  simp only [IntKind.wrap, IntKind.bits, IntKind.signed]
  simp
  omega
 unfold rsV
 go_upto_region 4 with (refine wpList_store_row rfl 41 _ _ rfl w6.heap.size (rsc { resF X 4 with ap := p, al := l } sy).toArray rfl rfl 41 _ (heap_alloc_new w6 _) (by kernel_rfl) rfl (rsc_all _ _ rfl) ?_; rewrite [World.setRow_alloc_new, hW4])
 clear hW4
 simp only [Act.put]
 go_cut [6, 7, 8] (fun s6 s7 s8 wc => ∃ b6 b7 b8, s6 = .pointer (some ⟨b6, 0, none⟩) ∧ s7 = .pointer (some ⟨b7, 0, none⟩) ∧ s8 = .pointer (some ⟨b8, 0, none⟩) ∧ Hid (R5 W4.drew b6 b7 b8 (uu X.cl) (uu X.n) (iw (hm : Int)) (iw L1) wc))
 case first =>
  have HR : Hid _ := R4.new W4.drew
  clear HCM HHM HMX HNE HFR C89a HN8 HL8 HND HL1 HU HD
  refine wp_region_held_drew (S := (fun W => W.cell? ⟨w.heap.size, 0, none⟩ = some (pz f.sb) ∧ W.cell? ⟨f.sb, 6, none⟩ = some (pz f.tb) ∧ W.cell? ⟨f.tb, 0, none⟩ = some (uu X.cl) ∧ W.cell? ⟨f.tb, 1, none⟩ = some (uu X.n))) (by kernel_rfl) (SN.out _ HR.out.bel) (fun hHeld => ?_)
  refine tw 0 ?_
  refine tq 1 ?_
  refine tq 2 ?_
  refine tw 3 ?_
  refine tq 4 ?_
  refine tq 5 ?_
  refine tw 6 ?_
  refine tw 7 ?_
  refine tw 9 ?_
  clear HR
  generalize W4.drew = W0 at *
  refine wpAnyH_at (n' := 7 + 3) (ℓ' := L4 false false false 0) rfl (by kernel_rfl) ?_
  refine five4 (V := fun v => ∃ ao cap, v = .slice ao ns.length cap) (hm := iw (hm : Int)) (ln := iw (ns.length : Int)) (l1 := iw L1) (by simp) rfl rfl ?_ SN.out ?_ ?_ ?_ ?_ ?_ ?_ ?_
  ·intro d6 d7 d8 c hc hn
   rcases hc with rfl | rfl | rfl <;> cases d6 <;> cases d7 <;> cases d8 <;> first | exact absurd rfl hn | decide +kernel
  ·intro K a w' hb e34 hK
   have HB : Hid (Below W0.heap.size W0 w') := hb
   have HK : Hid (∀ w2, Below w'.heap.size w' w2 → K (a.put (some 35) (iw (hm : Int))) w2) := hK
   clear hb hK
   refine wpOp_step rfl (fun K' hK' => ?_)
   have HK' : Hid (∀ a w, K a w → K' a w) := hK'
   clear hK'
   go_simp
   refine (C137.out _ HB.out).mono ?_
   rintro e w3 ⟨rfl, h3⟩
   exact HK'.out _ _ (HK.out _ h3)
  ·intro K a w' hb e36 hK
   have HB : Hid (Below W0.heap.size W0 w') := hb
   have HK : Hid (∀ v2 w2, (∃ ao cap, v2 = .slice ao ns.length cap) → Below w'.heap.size w' w2 → K (a.put (some 37) v2) w2) := hK
   clear hb hK
   refine wpOp_step rfl (fun K' hK' => ?_)
   have HK' : Hid (∀ a w, K a w → K' a w) := hK'
   clear hK'
   go_simp
   refine (C89.out _ HB.out).mono ?_
   rintro e w3 ⟨ao5, cap5, rfl, h3⟩
   exact HK'.out _ _ (HK.out _ _ ⟨ao5, cap5, rfl⟩ h3)
  ·rintro d6 d7 d8 a w' v n hz e37 ⟨ao5, cap5, rfl⟩ hSw h
   refine wpAnyH_take (i := 11) (v := iw (ns.length : Int)) rfl (by kernel_rfl) ?_ ?_ (fun _ _ _ h => h) (Or.inl ⟨by rfl, ?_⟩) hSw ?_
   ·cases d6 <;> cases d7 <;> cases d8 <;> decide +kernel
   ·cases d6 <;> cases d7 <;> cases d8 <;> decide +kernel
   ·intro w2 hS'
    clear h SN C137 C89
    go_simp
   have e38 : (a.put (some 38) (iw (ns.length : Int))).tmps.getD 38 undef = iw (ns.length : Int) := put_at _ (by omega)
   refine wpAnyH_take (i := 12) (v := iw L1) rfl (by kernel_rfl) ?_ ?_ (fun _ _ _ h => h) (Or.inl ⟨by rfl, ?_⟩) hSw ?_
   ·cases d6 <;> cases d7 <;> cases d8 <;> decide +kernel
   ·cases d6 <;> cases d7 <;> cases d8 <;> decide +kernel
   ·intro w2 hS'
    clear h SN C137 C89
    have h38 : 38 < a.tmps.size := by omega
    go_simp
    rw [HW.out]
   exact h
  ·intro K a w' hK
   have HK : Hid (K (a.put (some 6) (pz w'.heap.size)) (w'.alloc (.cells #[.int .u32 0, .int .u32 0] 38))) := hK
   clear hK
   refine wpOp_step rfl (fun K' hK' => ?_)
   have HK' : Hid (∀ a w, K a w → K' a w) := hK'
   clear hK'
   go_simp
   exact HK'.out _ _ HK.out
  ·intro K a w' hK
   have HK : Hid (K (a.put (some 7) (pz w'.heap.size)) (w'.alloc (.cells #[iw 0] 3))) := hK
   clear hK
   refine wpOp_step rfl (fun K' hK' => ?_)
   have HK' : Hid (∀ a w, K a w → K' a w) := hK'
   clear hK'
   go_simp
   exact HK'.out _ _ HK.out
  ·intro K a w' hK
   have HK : Hid (K (a.put (some 8) (pz w'.heap.size)) (w'.alloc (.cells #[iw 0] 3))) := hK
   clear hK
   refine wpOp_step rfl (fun K' hK' => ?_)
   have HK' : Hid (∀ a w, K a w → K' a w) := hK'
   clear hK'
   go_simp
   exact HK'.out _ _ HK.out
  ·intro b6 b7 b8 v w' hR
   have H5 : Hid _ := hR.r5
   clear hR
   unfold A4 pc pv
   simp only [Act.put, sx]
   refine wpAnyH_at (n' := 3) (ℓ' := L4 true true true 4) rfl rfl ?_
   refine rd 16 (fun K hK => ?_)
   obtain ⟨c60, c61, c7, c8, z60, z61, z7, z8⟩ := H5.out.cells
   go_simp
   obtain ⟨V6, hV6, h6⟩ := H5.out.f6 (uu X.cl) (uu X.n)
   rw [hV6]
   clear hV6 c60 c61 c7 c8 z60 z61 z7 z8 H5
   have H5 : Hid _ := h6
   clear h6
   refine kj hK (SN.out _ H5.out.bel) (fun hHeld => ?_)
   clear hK K
   refine rd 17 (fun K hK => ?_)
   obtain ⟨c60, c61, c7, c8, z60, z61, z7, z8⟩ := H5.out.cells
   go_simp
   obtain ⟨V7, hV7, h7⟩ := H5.out.f7 (iw (hm : Int))
   rw [hV7]
   clear hV7 c60 c61 c7 c8 z60 z61 z7 z8 H5
   have H5 : Hid _ := h7
   clear h7
   refine kj hK (SN.out _ H5.out.bel) (fun hHeld => ?_)
   clear hK K
   refine rd 18 (fun K hK => ?_)
   obtain ⟨c60, c61, c7, c8, z60, z61, z7, z8⟩ := H5.out.cells
   go_simp
   obtain ⟨V8, hV8, h8⟩ := H5.out.f8 (iw L1)
   rw [hV8]
   clear hV8 c60 c61 c7 c8 z60 z61 z7 z8 H5
   have H5 : Hid _ := h8
   clear h8
   refine kj hK (SN.out _ H5.out.bel) (fun hHeld => ?_)
   clear hK K
   refine wpAnyH_done (by kernel_rfl) ?_ _
   clear hHeld SN C137 C89
   go_wp2_with fail
   go_meet
   case rel => exact ⟨_, _, _, rfl, rfl, rfl, H5⟩
 case rest =>
  obtain ⟨b6, b7, b8, rfl, rfl, rfl, H5⟩ := hcut
  have hch : ∀ a ∈ ({ dropF X with np := mp, nl := ml } : Ss).asks, a.ch = true := fun a ha => (List.mem_filter.1 ha).2
  have hf5 : ∀ a ∈ ({ dropF X with np := mp, nl := ml } : Ss).asks, a.q.k = 5 → a.on ≠ X.n := fun a ha => HFR.out a (List.mem_filter.1 ha).1 (List.mem_filter.1 ha).2
  have X5 : Hid (Cx (f.In X.act) N w ((f.drop va).leftAt X.n b8 L1) { dropF X with np := mp, nl := ml } ((b6, #[uu X.cl, uu X.n], 38) :: (b7, #[iw (hm : Int)], 3) :: ((w6.heap.size, (rsc { resF X 4 with ap := p, al := l } sy).toArray, 41) :: [(w.heap.size + 1, #[uw p, uu l], 34), (w.heap.size, #[pz f.sb], 24)])) [(w.heap.size + 2, RZ, 41)] wc) := HD.out.three hch hf5 H5.out
  clear HD H5 SN C137 C89 hch hf5
  have X6 : Hid (Cx (f.In X.act) N w ((f.drop va).leftAt X.n b8 L1) { dropF X with np := mp, nl := ml } ((wc.heap.size, #[(.func (.func 155) #[] #[pz w.heap.size, pz b7, pz b6])], 1) :: ((b6, #[uu X.cl, uu X.n], 38) :: (b7, #[iw (hm : Int)], 3) :: ((w6.heap.size, (rsc { resF X 4 with ap := p, al := l } sy).toArray, 41) :: [(w.heap.size + 1, #[uw p, uu l], 34), (w.heap.size, #[pz f.sb], 24)]))) [(w.heap.size + 2, RZ, 41)] (wc.alloc (.cells #[(.func (.func 155) #[] #[pz w.heap.size, pz b7, pz b6])] 1))) := X5.out.new _ _
  clear X5
  obtain ⟨W6, hW6⟩ := xj (wc.alloc (.cells #[(.func (.func 155) #[] #[pz w.heap.size, pz b7, pz b6])] 1))
  rw [hW6] at X6
  obtain ⟨X1, hX1⟩ : ∃ X1 : Ss, { dropF X with np := mp, nl := ml } = X1 := ⟨_, rfl⟩
  have HX1 : Hid ({ dropF X with np := mp, nl := ml } = X1) := hX1
  rw [hX1] at X6 HCM
  clear hX1
  have HY1 : Hid (X1.act = X.act ∧ X1.sq = X.sq ∧ X1.op = zO ∧ X1.asks = (dropF X).asks ∧ X1.ws = X.ws ∧ X1.cl = X.cl ∧ X1.n = X.n ∧ X1.nsh = X.nsh) := by show _ ∧ _; rw [← HX1.out]; exact ⟨rfl, rfl, rfl, rfl, rfl, rfl, rfl, rfl⟩
  obtain ⟨F2, hF2⟩ : ∃ F2 : Fo, (f.drop va).leftAt X.n b8 L1 = F2 := ⟨_, rfl⟩
  have HF2 : Hid ((f.drop va).leftAt X.n b8 L1 = F2) := hF2
  rw [hF2] at X6
  clear hF2
  have HK2 : Hid (F2.sb = f.sb ∧ F2.gs = X.n :: f.gs ∧ F2.gl X.n = b8 ∧ F2.gv = (fun m => if m = X.n then L1 else f.gv m) ∧ Rm F2 X1 9) := by
   show _ ∧ _
   rw [← HF2.out]
   refine ⟨rfl, rfl, by simp [Fo.leftAt], rfl, ?_⟩
   have k := HU.out.rm.drop (va := va)
   exact ⟨by rw [HY1.out.2.1]; exact k.sq, k.la, k.lo⟩
  have d0 : W6.cell? ⟨w.heap.size, 0, none⟩ = some (pz f.sb) := block_cell (X6.out.bx (cs := #[pz f.sb]) (ty := 24) (by simp)) rfl
  have C89 : Hid (1 = 1 → Calls Tryz.prog 89 #[pz f.sb] W6 fun r w' => ∃ ao cap Lp, r = .returned (.slice ao ns.length cap) ∧ ns.length ≤ cap ∧ cap ≤ 9223372036854775807 ∧ Cx (f.In X.act) N w F2 X1 (Lp ++ ((wc.heap.size, #[(.func (.func 155) #[] #[pz w.heap.size, pz b7, pz b6])], 1) :: ((b6, #[uu X.cl, uu X.n], 38) :: (b7, #[iw (hm : Int)], 3) :: ((w6.heap.size, (rsc { resF X 4 with ap := p, al := l } sy).toArray, 41) :: [(w.heap.size + 1, #[uw p, uu l], 34), (w.heap.size, #[pz f.sb], 24)])))) [(w.heap.size + 2, RZ, 41)] w' ∧ ∀ (M : Nat → Prop) (W' : World), Fxs M W' Lp → ∀ m, m < ns.length → ∃ g, ao = some ⟨g, 0, none⟩ ∧ W'.cell? ⟨g, m, none⟩ = some (iw ((ns.getD m 0 : Nat) : Int))) := fun _ => (C89a.out _ _ _ W6 X6.out.sc (by rw [HY1.out.1]; exact HU.out.act) HY1.out.2.2.2.2.1 HY1.out.2.2.2.2.2.2.2 HK2.out.1).mono fun e w' ⟨⟨v, h1, h2⟩, h3⟩ => by
   obtain ⟨ao, cap, rfl, -, hlc, hcm, -⟩ := rw_own h2
   obtain ⟨Lp, hp1, hp2⟩ := own_boxesN (n := 0) h2
   exact ⟨ao, cap, Lp, h1, hlc, hcm, X6.out.adds h3 hp1, hp2⟩
  clear X6 C89a
  go_wp2_with fail
  refine (C89.out (by trivial)).mono ?_
  rintro r w7 ⟨a5, cap5, Lp, rfl, hlc, hcm, x7, hp⟩
  have XB : Hid _ := x7
  have HP : Hid _ := hp
  clear x7 hp C89 d0 hW6
  obtain ⟨bF, hbF⟩ := xj wc.heap.size
  rw [hbF] at XB ⊢
  clear hbF
  go_wp2_with fail
  have hlen : ns.length < 9223372036854775808 := by omega
  go_loopw [44] (fun i wr => ∃ (m : Nat) (f' : Fo), m ≤ ns.length ∧ i = iw (m : Int) ∧ Hid (Cx (f.In X.act) N w f' (choreN { zQ with k := 5, c := X.cl, n := X.n, ap := p, al := l } hm ((ns.take m).filter (· != hm)) X1) (Lp ++ ((bF, #[(.func (.func 155) #[] #[pz w.heap.size, pz b7, pz b6])], 1) :: ((b6, #[uu X.cl, uu X.n], 38) :: (b7, #[iw (hm : Int)], 3) :: ((w6.heap.size, (rsc { resF X 4 with ap := p, al := l } sy).toArray, 41) :: [(w.heap.size + 1, #[uw p, uu l], 34), (w.heap.size, #[pz f.sb], 24)])))) [(w.heap.size + 2, RZ, 41)] wr) ∧ Hid (Lf F2 f' ∧ Rm f' (choreN { zQ with k := 5, c := X.cl, n := X.n, ap := p, al := l } hm ((ns.take m).filter (· != hm)) X1) (9 - m))) (fun i _ => ns.length - (intOf i).toNat)
  case atStart => exact ⟨0, F2, Nat.zero_le _, rfl, XB, ⟨Lf.refl _, HK2.out.2.2.2.2⟩⟩
  case round =>
   obtain ⟨m, f', hmm, rfl, XM, GM⟩ := hrel
   clear XB
   obtain ⟨Xm, hXm⟩ := xj (choreN { zQ with k := 5, c := X.cl, n := X.n, ap := p, al := l } hm ((ns.take m).filter (· != hm)) X1)
   have HXm : Hid (choreN { zQ with k := 5, c := X.cl, n := X.n, ap := p, al := l } hm ((ns.take m).filter (· != hm)) X1 = Xm) := hXm
   rw [hXm] at XM GM
   have HKp : Hid (Xm.cl = X.cl ∧ Xm.n = X.n ∧ Xm.act = X.act ∧ Xm.op = zO) := by
    obtain ⟨k1, k2, k3, k4, k5, k6, k7, k8, k9⟩ := choreN_keep { zQ with k := 5, c := X.cl, n := X.n, ap := p, al := l } hm ((ns.take m).filter (· != hm)) X1
    rw [hXm] at k1 k2 k3 k4 k5 k6 k7 k8 k9
    obtain ⟨y1, y2, y3, y4, y5, y6, y7, y8⟩ := HY1.out
    exact ⟨k1.trans y6, k2.trans y7, k5.trans y1, k8.trans y3⟩
   clear hXm
   have HSB : Hid (f'.sb = f.sb) := GM.out.1.sb.trans HK2.out.1
   have HGL : Hid (X.n ∈ f'.gs ∧ f'.gl X.n = b8 ∧ f'.gv X.n = L1) := by
    obtain ⟨k1, k2, k3, k4, -⟩ := HK2.out
    refine ⟨?_, ?_, ?_⟩
    ·rw [GM.out.1.gs, k2]; exact List.mem_cons_self ..
    ·rw [GM.out.1.gl]; exact k3
    ·rw [GM.out.1.gv, k4]; simp
   by_cases hml : m < ns.length
   ·have hmi : (m : Int) < ns.length := by omega
    obtain ⟨g5, rfl, hcg⟩ := HP.out _ wr (XM.out.fxs (fun p hp => by simp [hp])) m hml
    have HM : Hid (m + 1 ≤ ns.length) := hml
    have HTS : Hid (ns.take (m + 1) = ns.take m ++ [ns.getD m 0]) := take_snoc hml
    have HNm : Hid (ns.getD m 0 < 4294967296) := HN8.out _ (getD_memN hml)
    obtain ⟨nm, hnm⟩ := xj (ns.getD m 0)
    rw [hnm] at hcg HTS HNm
    clear hnm
    have e7 : wr.cell? ⟨b7, 0, none⟩ = some (iw (hm : Int)) := block_cell (XM.out.bx (b := b7) (cs := #[iw (hm : Int)]) (ty := 3) (by simp)) rfl
    by_cases hq : nm = hm
    ·subst hq
     have HX2 : Hid (choreN { zQ with k := 5, c := X.cl, n := X.n, ap := p, al := l } nm ((ns.take (m + 1)).filter (· != nm)) X1 = Xm) := by
      show _ = _
      rw [HTS.out, List.filter_append, show List.filter (fun x => x != nm) [nm] = [] from by simp, List.append_nil]
      exact HXm.out
     have GM2 : Hid (Lf F2 f' ∧ Rm f' Xm (9 - (m + 1))) := ⟨GM.out.1, GM.out.2.le (by omega)⟩
     clear GM HXm
     go_wp2_with fail
     go_roundw
     case measure =>
      show ns.length - ((m : Int) + 1).toNat < ns.length - ((m : Int)).toNat
      omega
     case rel => exact ⟨m + 1, f', HM.out, by simp, by rw [HX2.out]; exact XM, by rw [HX2.out]; exact GM2⟩
    ·have hqb : ((nm : Int) == (hm : Int)) = false := by simp; omega
     have e0 : wr.cell? ⟨w.heap.size, 0, none⟩ = some (pz f.sb) := block_cell (XM.out.bx (cs := #[pz f.sb]) (ty := 24) (by simp)) rfl
     have e1 : wr.cell? ⟨w.heap.size + 1, 0, none⟩ = some (uw p) := block_cell (XM.out.bx (b := w.heap.size + 1) (cs := #[uw p, uu l]) (ty := 34) (by simp)) rfl
     have e2 : wr.cell? ⟨w.heap.size + 1, 1, none⟩ = some (uu l) := block_cell (XM.out.bx (b := w.heap.size + 1) (cs := #[uw p, uu l]) (ty := 34) (by simp)) rfl
     have e3 : wr.cell? ⟨b6, 0, none⟩ = some (uu X.cl) := block_cell (XM.out.bx (b := b6) (cs := #[uu X.cl, uu X.n]) (ty := 38) (by simp)) rfl
     have e4 : wr.cell? ⟨b6, 1, none⟩ = some (uu X.n) := block_cell (XM.out.bx (b := b6) (cs := #[uu X.cl, uu X.n]) (ty := 38) (by simp)) rfl
     have CC : Hid (1 = 1 → Calls Tryz.prog 132 #[pz f.sb, iw (nm : Int), .agg #[iw 5, uu X.cl, uu X.n, .int .u64 0, .int .u32 0, uw p, uu l, su, su, iw 0, .int .u8 0, sy, sy], (.func (.func 156) #[] #[pz b8, pz bF])] wr fun e w' => e = .returned (.tuple #[]) ∧ ∃ f2, Cx (f.In X.act) N w f2 (choreN { zQ with k := 5, c := X.cl, n := X.n, ap := p, al := l } hm ((ns.take (m + 1)).filter (· != hm)) X1) (Lp ++ ((bF, #[(.func (.func 155) #[] #[pz w.heap.size, pz b7, pz b6])], 1) :: ((b6, #[uu X.cl, uu X.n], 38) :: (b7, #[iw (hm : Int)], 3) :: ((w6.heap.size, (rsc { resF X 4 with ap := p, al := l } sy).toArray, 41) :: [(w.heap.size + 1, #[uw p, uu l], 34), (w.heap.size, #[pz f.sb], 24)])))) [(w.heap.size + 2, RZ, 41)] w' ∧ (Lf F2 f2 ∧ Rm f2 (choreN { zQ with k := 5, c := X.cl, n := X.n, ap := p, al := l } hm ((ns.take (m + 1)).filter (· != hm)) X1) (9 - (m + 1)))) := fun _ => by
      have hk9 : 9 - m = (9 - (m + 1)) + 1 := by have := HL8.out; have := HM.out; omega
      have gm := GM.out
      rw [hk9] at gm
      have s1 : Fx (f'.Ex (Nm N [(w.heap.size + 2, RZ, 41)]) Xm.act) wr w.heap.size #[pz f'.sb] 24 := by rw [HSB.out]; exact XM.out.fx (by simp)
      have hk : AkIs (f'.Ex (Nm N [(w.heap.size + 2, RZ, 41)]) Xm.act) f' Xm wr ⟨{ { akF nm { zQ with k := 5, c := X.cl, n := X.n, ap := p, al := l } with ch := true, oc := Xm.cl, on := Xm.n, fi := hm } with sq := Xm.sq + 1 }, sy, sy, (.func (.func 156) #[] #[pz b8, pz bF])⟩ := ⟨qf_nil _ _ _ rfl rfl, ⟨rfl, rfl, rfl⟩, (fun e => by cases e), (fun e => by cases e), (fun e => by cases e), (fun e => by cases e), (fun e => by cases e), (fun _ _ => ⟨bF, w.heap.size, b7, b6, (by show Xm.n ∈ _; rw [HKp.out.2.1]; exact HGL.out.1), (by show _ = Value.func _ _ #[.pointer (some ⟨f'.gl Xm.n, 0, none⟩), _]; rw [HKp.out.2.1, HGL.out.2.1]), XM.out.fx (by simp), s1, XM.out.fx (by simp), (by show Fx _ _ _ #[uu Xm.cl, uu Xm.n] _; rw [HKp.out.1, HKp.out.2.1]; exact XM.out.fx (by simp))⟩), (fun _ e => absurd rfl e)⟩
      have c := chore132 XM.out.sc gm.2.room nm { akF nm { zQ with k := 5, c := X.cl, n := X.n, ap := p, al := l } with ch := true, oc := Xm.cl, on := Xm.n, fi := hm } sy sy (.func 156) #[] _ #[iw 5, uu X.cl, uu X.n, .int .u64 0, .int .u32 0, uw p, uu l, su, su, iw 0, .int .u8 0, sy, sy] rfl rfl rfl HNm.out hk
      rw [HSB.out] at c
      have hsn : choreN { zQ with k := 5, c := X.cl, n := X.n, ap := p, al := l } hm ((ns.take (m + 1)).filter (· != hm)) X1 = askF Xm { akF nm { zQ with k := 5, c := X.cl, n := X.n, ap := p, al := l } with ch := true, oc := Xm.cl, on := Xm.n, fi := hm } := by
       rw [HTS.out, List.filter_append, show List.filter (fun x => x != hm) [nm] = [nm] from by simp [hq], choreN_snoc, HXm.out]
      rw [hsn]
      exact c.mono fun e w' ⟨h1, va', vo', h2⟩ => ⟨h1, _, XM.out.next h2, gm.1.trans (Lf.ask ..), gm.2.ask⟩
     clear XM GM HXm HSB HGL HKp HTS
     go_wp2_with fail
     refine (CC.out (by trivial)).mono ?_
     rintro e w8 ⟨rfl, f2, x8, g8⟩
     have X8 : Hid _ := x8
     have G8 : Hid _ := g8
     clear x8 g8 CC e0 e1 e2 e3 e4 e7 hcg
     go_wp2_with fail
     go_roundw
     case measure =>
      show ns.length - ((m : Int) + 1).toNat < ns.length - ((m : Int)).toNat
      omega
     case rel => exact ⟨m + 1, f2, HM.out, by simp, X8, G8⟩
   ·have hmi : ¬ (m : Int) < ns.length := by omega
    have hme : ns.take m = ns := List.take_of_length_le (by omega)
    rw [hme] at HXm
    have e8 : wr.cell? ⟨b8, 0, none⟩ = some (iw L1) := by
     have k := XM.out.sc.gb X.n HGL.out.1
     rw [HGL.out.2.1, HGL.out.2.2] at k
     exact block_cell k rfl
    have HCN : Hid (∀ n ∈ f'.gs, f'.gv n = (cntA Xm.asks n : Int)) := by
     intro n hn
     obtain ⟨k1, k2, k3, k4, -⟩ := HK2.out
     rw [GM.out.1.gs, k2] at hn
     rw [GM.out.1.gv, k4, ← HXm.out, cnt_chores rfl hm _ X1 n, HY1.out.2.2.2.1, show (dropF X).asks = X.asks.filter Ak.ch from rfl, cnt_drop, HY1.out.2.2.2.2.2.2.1]
     by_cases e : n = X.n
     ·subst e
      have h0 : cntA X.asks X.n = 0 := by
       unfold cntA
       rw [List.length_eq_zero_iff, List.filter_eq_nil_iff]
       intro a ha hh
       simp only [Bool.and_eq_true, beq_iff_eq] at hh
       exact HFR.out a ha hh.1.1 hh.1.2 hh.2
      have h1 := HND.out
      have h2 := HL1.out
      simp only [if_true]
      rw [h0, h1.1]
      omega
     ·rcases List.mem_cons.1 hn with e2 | e2
      ·exact absurd e2 e
      ·have h1 := HU.out.bd.gs n e2
       simp only [e, if_false, show ¬ X.n = n from fun x => e x.symm]
       rw [h1]
       simp
    by_cases hz : L1 = 0
    ·have hzb : (L1 == 0) = true := by rw [hz]; rfl
     have hf0 : (ns.filter (· != hm)).length = 0 := by have := HND.out; have := HL1.out; omega
     rw [if_pos hf0] at HCM
     have e9 : wr.cell? ⟨bF, 0, none⟩ = some (.func (.func 155) #[] #[pz w.heap.size, pz b7, pz b6]) := block_cell (XM.out.bx (b := bF) (cs := #[(.func (.func 155) #[] #[pz w.heap.size, pz b7, pz b6])]) (ty := 1) (by simp)) rfl
     have C155 : Hid (1 = 1 → Calls Tryz.prog 155 #[pz w.heap.size, pz b7, pz b6] wr fun e w' => e = .returned (.tuple #[]) ∧ ∃ f2, Cx (f.In X.act) N w f2 (doneF Xm X.cl X.n hm) (Lp ++ ((bF, #[(.func (.func 155) #[] #[pz w.heap.size, pz b7, pz b6])], 1) :: ((b6, #[uu X.cl, uu X.n], 38) :: (b7, #[iw (hm : Int)], 3) :: ((w6.heap.size, (rsc { resF X 4 with ap := p, al := l } sy).toArray, 41) :: [(w.heap.size + 1, #[uw p, uu l], 34), (w.heap.size, #[pz f.sb], 24)])))) [(w.heap.size + 2, RZ, 41)] w' ∧ f2.sb = f.sb ∧ f2.gs = f'.gs ∧ f2.gv = f'.gv) := fun _ => by
      have hrm : Room f' Xm := (GM.out.2.le (m := 0 + 1) (by have := HL8.out; omega)).room
      have hhm : hm < 4294967296 := by rw [← HHM.out]; exact homeF_lt _ HU.out.ns.2
      have k := fin155 (W := wr) XM.out.sc hrm X.n X.cl hm hhm w.heap.size b7 b6 rfl (by rw [HSB.out]; exact XM.out.bx (by simp)) (XM.out.bx (by simp)) (XM.out.bx (by simp))
      exact k.mono fun e w' ⟨h1, va', vo', h2⟩ => ⟨h1, _, XM.out.next h2, HSB.out, rfl, rfl⟩
     clear XM GM HSB HGL
     go_wp2_with fail
     refine (C155.out (by trivial)).mono ?_
     rintro e wz ⟨rfl, f2, x9, h1, h2, h3⟩
     have XZ : Hid _ := x9
     have HSB : Hid (f2.sb = f.sb) := h1
     have HGS : Hid (f2.gs = f'.gs ∧ f2.gv = f'.gv) := ⟨h2, h3⟩
     clear x9 h1 h2 h3 C155 e8 e9
     have p6 : wz.cell? ⟨f.sb, 6, none⟩ = some (vtV f2.tb (doneF Xm X.cl X.n hm).act) := by rw [← HSB.out]; exact block_cell XZ.out.sc.blk rfl
     have g6 : wz.frozen? ⟨f.sb, 6, none⟩ = false := by rw [← HSB.out]; exact block_frozen XZ.out.sc.blk 6
     have c0 : wz.cell? ⟨w.heap.size, 0, none⟩ = some (pz f.sb) := block_cell (XZ.out.bx (cs := #[pz f.sb]) (ty := 24) (by simp)) rfl
     have X7 : Hid (Cx (f.In X.act) N w f2 { (doneF Xm X.cl X.n hm) with act := false } (Lp ++ ((bF, #[(.func (.func 155) #[] #[pz w.heap.size, pz b7, pz b6])], 1) :: ((b6, #[uu X.cl, uu X.n], 38) :: (b7, #[iw (hm : Int)], 3) :: ((w6.heap.size, (rsc { resF X 4 with ap := p, al := l } sy).toArray, 41) :: [(w.heap.size + 1, #[uw p, uu l], 34), (w.heap.size, #[pz f.sb], 24)])))) [(w.heap.size + 2, RZ, 41)] (wz.setCell ⟨f.sb, 6, none⟩ (.pointer none))) := by
      have k := XZ.out.next (XZ.out.sc.end (set_kept' wz f2.sb 6 (.pointer none)) (block_set (j := 6) (.pointer none) XZ.out.sc.blk))
      rw [HSB.out] at k
      exact k
     have HBD : Hid (Bd f2 { (doneF Xm X.cl X.n hm) with act := false }) := by
      refine ⟨fun e => ?_, fun e => ?_, fun n hn => ?_⟩
      ·rw [show ({ doneF Xm X.cl X.n hm with act := false } : Ss).op = Xm.op from rfl, HKp.out.2.2.2] at e
       cases e
      ·rw [show ({ doneF Xm X.cl X.n hm with act := false } : Ss).op = Xm.op from rfl, HKp.out.2.2.2] at e
       cases e
      ·rw [HGS.out.1] at hn
       rw [HGS.out.2, HCN.out n hn, show ({ doneF Xm X.cl X.n hm with act := false } : Ss).asks = (doneF Xm X.cl X.n hm).asks from rfl]
       unfold doneF
       rw [cnt_ask rfl]
     generalize vtV f2.tb (doneF Xm X.cl X.n hm).act = v6 at *
     obtain ⟨W7, hW7⟩ := xj (wz.setCell ⟨f.sb, 6, none⟩ (.pointer none))
     rw [hW7] at X7
     clear XZ
     go_wp2_with (first
      | (refine wpList_load_row rfl 41 _ rfl w6.heap.size rfl 41 _ (0, 0) _ (X7.out.bx (cs := (rsc { resF X 4 with ap := p, al := l } sy).toArray) (ty := 41) (by simp)) Tryz.underlying41 rfl (by kernel_rfl) ?_)
      | (refine sr X7.out ?_))
     refine bj X7.out ?_
     rw [HCM.out.1, HCM.out.2, HXm.out]
     exact ⟨rfl, _, (X7.out.poke (setRow_kept _ _ _) (setRow_at (X7.out.bm mc)) nb).to, HSB.out, HBD.out⟩
    ·have hzb : (L1 == 0) = false := by simpa using hz
     have hf0 : ¬ (ns.filter (· != hm)).length = 0 := by have := HND.out; have := HL1.out; omega
     rw [if_neg hf0] at HCM
     have XZ := XM
     clear XM GM HGL
     have p6 : wr.cell? ⟨f.sb, 6, none⟩ = some (vtV f'.tb Xm.act) := by rw [← HSB.out]; exact block_cell XZ.out.sc.blk rfl
     have g6 : wr.frozen? ⟨f.sb, 6, none⟩ = false := by rw [← HSB.out]; exact block_frozen XZ.out.sc.blk 6
     have c0 : wr.cell? ⟨w.heap.size, 0, none⟩ = some (pz f.sb) := block_cell (XZ.out.bx (cs := #[pz f.sb]) (ty := 24) (by simp)) rfl
     have X7 : Hid (Cx (f.In X.act) N w f' { Xm with act := false } (Lp ++ ((bF, #[(.func (.func 155) #[] #[pz w.heap.size, pz b7, pz b6])], 1) :: ((b6, #[uu X.cl, uu X.n], 38) :: (b7, #[iw (hm : Int)], 3) :: ((w6.heap.size, (rsc { resF X 4 with ap := p, al := l } sy).toArray, 41) :: [(w.heap.size + 1, #[uw p, uu l], 34), (w.heap.size, #[pz f.sb], 24)])))) [(w.heap.size + 2, RZ, 41)] (wr.setCell ⟨f.sb, 6, none⟩ (.pointer none))) := by
      have k := XZ.out.next (XZ.out.sc.end (set_kept' wr f'.sb 6 (.pointer none)) (block_set (j := 6) (.pointer none) XZ.out.sc.blk))
      rw [HSB.out] at k
      exact k
     have HBD : Hid (Bd f' { Xm with act := false }) := by
      refine ⟨fun e => ?_, fun e => ?_, fun n hn => ?_⟩
      ·rw [show ({ Xm with act := false } : Ss).op = Xm.op from rfl, HKp.out.2.2.2] at e
       cases e
      ·rw [show ({ Xm with act := false } : Ss).op = Xm.op from rfl, HKp.out.2.2.2] at e
       cases e
      ·exact HCN.out n hn
     generalize vtV f'.tb Xm.act = v6 at *
     obtain ⟨W7, hW7⟩ := xj (wr.setCell ⟨f.sb, 6, none⟩ (.pointer none))
     rw [hW7] at X7
     clear XZ
     go_wp2_with (first
      | (refine wpList_load_row rfl 41 _ rfl w6.heap.size rfl 41 _ (0, 0) _ (X7.out.bx (cs := (rsc { resF X 4 with ap := p, al := l } sy).toArray) (ty := 41) (by simp)) Tryz.underlying41 rfl (by kernel_rfl) ?_)
      | (refine sr X7.out ?_))
     refine bj X7.out ?_
     rw [HCM.out.1, HCM.out.2, HXm.out]
     exact ⟨rfl, _, (X7.out.poke (setRow_kept _ _ _) (setRow_at (X7.out.bm mc)) nb).to, HSB.out, HBD.out⟩
end Go.Proofs.YtkdkgdollmmcnaaGreat
