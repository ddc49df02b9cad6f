import Derived.Test.YtajjnmdomabmkaaGreatWbc
set_option maxHeartbeats 4000000
set_option maxRecDepth 100000
set_option linter.unusedVariables false
namespace Go.Proofs.YtajjnmdomabmkaaGreat.Lat
open Go.RowKit
theorem fb_put {bx : Nat} {ap aq : Int} {w W : World} (x : List UInt8 × Ii) (h : Fb bx ap aq w W) (e : w.heap.size = bx) : Below w.heap.size w ((((((((((W.setCell ⟨bx + 1, 0, none⟩ (.int .u32 x.2.c)).setCell ⟨bx + 1, 1, none⟩ (.int .u32 x.2.n)).setCell ⟨bx + 1, 2, none⟩ (.int .u64 x.2.sp)).setCell ⟨bx + 1, 3, none⟩ (.int .u32 x.2.sl)).setCell ⟨bx + 1, 4, none⟩ (.int .u64 x.2.mp)).setCell ⟨bx + 1, 5, none⟩ (.int .u32 x.2.ml)).setCell ⟨bx + 1, 6, none⟩ (.string (bs x.2.prim))).setCell ⟨bx + 1, 7, none⟩ (.string (bs x.1))).setCell ⟨bx + 1, 8, none⟩ (.string (bs x.2.val))).setCell ⟨bx + 1, 9, none⟩ (.bool x.2.dead)) := by
 have hb : Below w.heap.size w W := by rw [e]; exact h.bel
 exact ten_below x hb (by omega)
theorem first17 {B p pm hb : Nat} {t : Tr} {m0 : Mm} {T : Tb} {w : World} (lo hi : List UInt8) (ap aq : Int) (but : List (Int × Int)) (v : Value) (h : Tx B p pm hb t m0 w) (hr : Rel t.toL m0 T) (hl : T.length < 10000) (hv : TsAt w.heap.size v but w) : Calls Tryz.prog 262 #[.pointer (some ⟨p, 0, none⟩), .string (bs lo), .string (bs hi), .agg #[.int .u64 ap, .int .u32 aq], v] w fun e w' => e = .returned (fsV (firstF lo hi ap aq but T)) ∧ Below w.heap.size w w' := by
 obtain ⟨va, vc, rfl, -, -⟩ := hv.shape
 rw [first_rng]
 obtain ⟨q, hq⟩ : ∃ q, stQ ap aq but = q := ⟨_, rfl⟩
 have HQ : Hid (∀ x : List UInt8 × Ii, q x = (!lessB ap aq x.2.mp x.2.ml && !but.contains (x.2.c, x.2.n))) := fun x => by rw [← hq]; rfl
 rw [hq]
 clear hq
 obtain ⟨R, hR⟩ : ∃ R, rngT lo hi T = R := ⟨_, rfl⟩
 rw [hR]
 have HR0 : Hid (rngT lo hi T = R.drop 0) := by show _ = _; rw [List.drop_zero]; exact hR
 have HMem : Hid (∀ y ∈ R, y ∈ T) := fun y hy => by rw [← hR] at hy; exact (List.mem_filter.1 hy).1
 clear hR
 obtain ⟨Y, hY⟩ : ∃ Y, R.find? q = Y := ⟨_, rfl⟩
 have HY : Hid (R.find? q = Y) := hY
 rw [hY]
 clear hY
 have HX : Hid (Fb w.heap.size ap aq w ((w.alloc (.cells #[.int .u64 ap, .int .u32 aq] 32)).alloc (.cells #[.int .u32 0, .int .u32 0, .int .u64 0, .int .u32 0, .int .u64 0, .int .u32 0, .string ⟨#[]⟩, .string ⟨#[]⟩, .string ⟨#[]⟩, .bool false] 146))) := by
  obtain ⟨h1, h2, h3⟩ := two_boxes w (.cells #[.int .u64 ap, .int .u32 aq] 32) (.cells #[.int .u32 0, .int .u32 0, .int .u64 0, .int .u32 0, .int .u64 0, .int .u32 0, .string ⟨#[]⟩, .string ⟨#[]⟩, .string ⟨#[]⟩, .bool false] 146)
  exact ⟨h1, h2, h3⟩
 obtain ⟨bx, hbx⟩ : ∃ bx, w.heap.size = bx := ⟨_, rfl⟩
 rw [hbx] at HX
 have HBX : Hid (w.heap.size = bx) := hbx
 have HT : Hid (∀ W, Fb bx ap aq w W → Tx B p pm hb t m0 W) := fun W hW => h.on (by rw [hbx]; exact hW.bel)
 have HNx : Hid (∀ (lw : List UInt8) (m : Nat), rngT lw hi T = R.drop m → ¬ ((R.drop m).take 32).length < 32 → rngT ((((R.drop m).take 32).getD 31 di).1 ++ [0]) hi T = R.drop (m + 32)) := fun lw m he hn => by
  have hlen : 31 < (rngT lw hi T).length := by rw [he]; rw [List.length_take] at hn; omega
  have e1 : ((R.drop m).take 32).getD 31 di = (rngT lw hi T).getD 31 di := by
   rw [he, List.getD, List.getD, List.getElem?_take_of_lt (by omega)]
  rw [e1, rngT_next hr.ok.srt hlen, he, List.drop_drop]
 have HLen : Hid (∀ y ∈ T, y.1.length ≤ 32) := fun y hy => by
  have := hr.ok.keys y hy
  simp only [kOk, Bool.and_eq_true, decide_eq_true_eq] at this
  exact this.2
 have CK : Hid (∀ (lw : List UInt8) (m : Nat) W, Hid (Fb bx ap aq w W) → rngT lw hi T = R.drop m → Calls Tryz.prog 115 #[.pointer (some ⟨pm, 0, none⟩), .string (bs lw), .string (bs hi), .int .i64 32] W fun e w' => ∃ ao cap, e = .returned (.slice ao ((R.drop m).take 32).length cap) ∧ Hid (RwAt w'.heap.size 1 (.slice ao ((R.drop m).take 32).length cap) ((R.drop m).take 32).length (kc (((R.drop m).take 32).map (·.1))) w' ∧ Fb bx ap aq w w')) := fun lw m W hW he => by
  have htx := HT.out W hW.out
  refine (keys17 lw hi 32 htx.map (by rw [hr.len]; omega)).mono ?_
  rintro e w' ⟨v', rfl, ho, hb'⟩
  rw [keys_part hr.keys, he] at ho
  have ho' := rw_own ho
  rw [List.length_map] at ho'
  obtain ⟨sa, sc, rfl, -, -, -, -⟩ := ho'
  exact ⟨sa, sc, rfl, by have := rw_own ho; rw [List.length_map] at this; exact this, hW.out.on hbx hb'⟩
 have CO : Hid (∀ (y : List UInt8 × Ii) W, y ∈ T → Hid (Fb bx ap aq w W) → Calls Tryz.prog 212 #[.pointer (some ⟨p, 0, none⟩), .string (bs y.1)] W fun e w' => e = .returned (.tuple #[.agg #[.int .u32 y.2.c, .int .u32 y.2.n, .int .u64 y.2.sp, .int .u32 y.2.sl, .int .u64 y.2.mp, .int .u32 y.2.ml, .string (bs y.2.prim), .string (bs y.1), .string (bs y.2.val), .bool y.2.dead], .bool true]) ∧ Hid (Below W.heap.size W w')) := fun y W hy hW => by
  refine (of19 y.1 (HT.out W hW.out) hr).mono ?_
  rintro e w' ⟨rfl, hb'⟩
  rw [(getF_mem hr.ok.srt).2 hy]
  exact ⟨rfl, hb'⟩
 have CL : Hid (∀ mp ml W, Calls Tryz.prog 113 #[.agg #[.int .u64 ap, .int .u32 aq], .agg #[.int .u64 mp, .int .u32 ml]] W fun e w' => e = .returned (.bool (lessB ap aq mp ml)) ∧ Below W.heap.size W w') := fun mp ml W => lessP ap aq mp ml W
 have CA : Hid (∀ c n W, Hid (Fb bx ap aq w W) → Calls Tryz.prog 311 #[.slice va but.length vc, .agg #[.int .u32 c, .int .u32 n]] W fun e w' => e = .returned (.bool (but.contains (c, n))) ∧ Below W.heap.size W w') := fun c n W hW => contains43 w.heap.size but _ c n W (RwAt.on hv (by rw [hbx]; exact hW.out.bel)) (by rw [hbx]; exact Nat.le_trans (Nat.le_of_eq hbx.symm) hW.out.bel.size)
 clear h hr hv hl
 go_enter Tryz.func262, Tryz.ntmps262
 go_wp2_with fail
 obtain ⟨W0, hW0⟩ : ∃ W0, ((w.alloc (.cells #[.int .u64 ap, .int .u32 aq] 32)).alloc (.cells #[.int .u32 0, .int .u32 0, .int .u64 0, .int .u32 0, .int .u64 0, .int .u32 0, .string ⟨#[]⟩, .string ⟨#[]⟩, .string ⟨#[]⟩, .bool false] 146)) = W0 := ⟨_, rfl⟩
 rw [hW0] at HX ⊢
 clear hW0 hbx
 go_loopw [1] (fun f wr => ∃ (m : Nat) (lw : List UInt8), f = .string (bs lw) ∧ rngT lw hi T = R.drop m ∧ (R.take m).find? q = none ∧ Fb bx ap aq w wr) (fun f _ => leftT hi T f)
 case atStart => exact ⟨0, lo, rfl, HR0.out, rfl, HX.out⟩
 case round =>
  obtain ⟨m, lw, rfl, hrng, hno, hfb⟩ := hrel
  have HF : Hid (Fb bx ap aq w wr) := hfb
  have HRng : Hid (rngT lw hi T = R.drop m) := hrng
  have HNo : Hid ((R.take m).find? q = none) := hno
  have HNext : Hid (¬ ((R.drop m).take 32).length < 32 → rngT ((((R.drop m).take 32).getD 31 di).1 ++ [0]) hi T = R.drop (m + 32)) := HNx.out lw m hrng
  have HLf : Hid (leftT hi T (.string (bs lw)) = (R.drop m).length) := by show _ = _; rw [leftT_bs, hrng]
  have d0 := (HT.out wr hfb).cells.1
  have CKK : Hid (1 = 1 → _) := fun _ => CK.out lw m wr HF hrng
  clear hrng hno hfb HX HR0 CK HNx
  go_wp2_with fail
  refine (CKK.out (by trivial)).mono ?_
  rintro e w2 ⟨ao, cap, rfl, HK⟩
  have HQm : Hid (∀ y ∈ (R.drop m).take 32, y ∈ T) := fun y hy => HMem.out y (List.mem_of_mem_drop (List.mem_of_mem_take hy))
  have HFound : Hid (∀ j, j < ((R.drop m).take 32).length → (((R.drop m).take 32).take j).find? q = none → q (((R.drop m).take 32).getD j di) = true → R.find? q = some (((R.drop m).take 32).getD j di)) := fun j hj h1 h2 => part_found HNo.out hj h1 h2
  have HAll : Hid ((((R.drop m).take 32).take ((R.drop m).take 32).length).find? q = none → (((R.drop m).take 32).length < 32 → R.find? q = none) ∧ (R.take (m + 32)).find? q = none) := fun h1 => part_none HNo.out (by rw [List.take_length] at h1; exact h1)
  have HSz : Hid (((R.drop m).take 32).length ≤ 32 ∧ (¬ ((R.drop m).take 32).length < 32 → (R.drop (m + 32)).length < (R.drop m).length)) := by
   rw [List.length_take]
   refine ⟨by omega, fun h1 => ?_⟩
   rw [List.length_drop, List.length_drop] at *
   omega
  clear CKK d0 HF
  generalize hQ : (R.drop m).take 32 = Q at *
  clear hQ
  rw [HY.out] at HFound HAll
  go_wp2_with fail
  go_loopw [29] (fun i wq => ∃ j : Nat, j ≤ Q.length ∧ i = .int .i64 j ∧ (Q.take j).find? q = none ∧ Fb bx ap aq w wq ∧ Below w2.heap.size w2 wq) (fun i _ => Q.length - (intOf i).toNat)
  case atStart => exact ⟨0, Nat.zero_le _, rfl, rfl, HK.out.2, Below.refl _ _⟩
  case round =>
   obtain ⟨j, hj, rfl, hnj, hfj, hbj⟩ := hrel
   have HFj : Hid _ := hfj
   have HBj : Hid _ := hbj
   have HNj : Hid _ := hnj
   have hq32 : Q.length ≤ 32 := HSz.out.1
   by_cases hjl : j < Q.length
   ·obtain ⟨b, off, rfl, e0⟩ := ks_el (RwAt.on HK.out.1 hbj) (i := j) (by rw [List.length_map]; exact hjl)
    rw [show (Q.map (·.1)).getD j [] = (Q.getD j di).1 from by simp [List.getD, hjl]] at e0
    have hjl' : (j : Int) < Q.length := by omega
    have HJ : Hid (j + 1 ≤ Q.length) := hjl
    have hQj := HQ.out (Q.getD j di)
    have HFd : Hid (q (Q.getD j di) = true → Y = some (Q.getD j di)) := HFound.out j hjl hnj
    have HGo : Hid (q (Q.getD j di) = false → (Q.take (j + 1)).find? q = none) := fun h1 => find_snoc hjl hnj h1
    have CX : Hid (1 = 1 → _) := fun _ => CO.out (Q.getD j di) wr (HQm.out _ (getD_memT hjl)) HFj
    clear hnj hfj hbj HFound HAll HSz HNext HNo HLf HRng
    generalize Q.getD j di = x at *
    obtain ⟨k, s⟩ := x
    dsimp only at e0 hQj CX
    go_wp2_with fail
    refine (CX.out (by trivial)).mono ?_
    rintro e w3 ⟨rfl, hb3⟩
    obtain ⟨Wa, hWa⟩ : ∃ Wa, w3.alloc (.cells #[.int .u32 s.c, .int .u32 s.n, .int .u64 s.sp, .int .u32 s.sl, .int .u64 s.mp, .int .u32 s.ml, .string (bs s.prim), .string (bs k), .string (bs s.val), .bool s.dead] 146) = Wa := ⟨_, rfl⟩
    have hia : InAt Wa w3.heap.size 0 (k, s) := by rw [← hWa]; exact in_new w3 k s
    have hba : Below wr.heap.size wr Wa := by rw [← hWa]; exact hb3.out.alloc hb3.out.size _
    have HFa : Hid (Fb bx ap aq w Wa) := HFj.out.on HBX.out hba
    have HBa : Hid (Below w2.heap.size w2 Wa) := HBj.out.trans (hba.mono HBj.out.size)
    obtain ⟨ba, hbaq⟩ : ∃ ba, w3.heap.size = ba := ⟨_, rfl⟩
    rw [hbaq] at hia
    have HIa : Hid (InAt Wa ba 0 (k, s)) := hia
    obtain ⟨i0, i1, i2, i3, i4, i5, i6, i7, i8, i9⟩ := hia
    simp only [Nat.zero_add] at i0 i1 i2 i3 i4 i5 i6 i7 i8 i9
    obtain ⟨f0, f1⟩ := HFa.out.two
    have CLL : Hid (1 = 1 → _) := fun _ => CL.out s.mp s.ml Wa
    obtain ⟨z, hz⟩ : ∃ z, lessB ap aq s.mp s.ml = z := ⟨_, rfl⟩
    rw [hz] at CLL hQj
    clear hz hb3 hba CX HFj HBj e0
    cases z with
    | true =>
     have HG : Hid ((Q.take (j + 1)).find? q = none) := HGo.out (by rw [hQj]; rfl)
     clear hQj HFd HGo
     go_wp2_with fail
     refine (CLL.out (by trivial)).mono ?_
     rintro e w4 ⟨rfl, hb4⟩
     have HF4 : Hid (Fb bx ap aq w w4) := HFa.out.on HBX.out hb4
     have HB4 : Hid (Below w2.heap.size w2 w4) := HBa.out.trans (hb4.mono HBa.out.size)
     clear hb4 CLL i0 i1 i2 i3 i4 i5 i6 i7 i8 i9 f0 f1 hWa hbaq HIa HFa HBa
     go_wp2_with fail
     go_roundw
     case rel => exact ⟨j + 1, HJ.out, by go_num, HG.out, HF4.out, HB4.out⟩
     case measure => simp [intOf]; omega
    | false =>
     go_wp2_with fail
     refine (CLL.out (by trivial)).mono ?_
     rintro e w4 ⟨rfl, hb4⟩
     have HF4 : Hid (Fb bx ap aq w w4) := HFa.out.on HBX.out hb4
     have HB4 : Hid (Below w2.heap.size w2 w4) := HBa.out.trans (hb4.mono HBa.out.size)
     have HI4 : Hid (InAt w4 ba 0 (k, s)) := HIa.out.on hb4
     obtain ⟨g0, g1, -, -, -, -, -, -, -, -⟩ := HI4.out
     simp only [Nat.zero_add] at g0 g1
     have CAA : Hid (1 = 1 → _) := fun _ => CA.out s.c s.n w4 HF4
     obtain ⟨z, hz⟩ : ∃ z, but.contains (s.c, s.n) = z := ⟨_, rfl⟩
     rw [hz] at CAA hQj
     clear hz hb4 CLL i0 i1 i2 i3 i4 i5 i6 i7 i8 i9 f0 f1 hWa hbaq HIa HFa HBa
     cases z with
     | true =>
      have HG : Hid ((Q.take (j + 1)).find? q = none) := HGo.out (by rw [hQj]; rfl)
      clear hQj HFd HGo
      go_wp2_with fail
      refine (CAA.out (by trivial)).mono ?_
      rintro e w5 ⟨rfl, hb5⟩
      have HF5 : Hid (Fb bx ap aq w w5) := HF4.out.on HBX.out hb5
      have HB5 : Hid (Below w2.heap.size w2 w5) := HB4.out.trans (hb5.mono HB4.out.size)
      clear hb5 CAA g0 g1 HF4 HB4 HI4
      go_wp2_with fail
      go_roundw
      case rel => exact ⟨j + 1, HJ.out, by go_num, HG.out, HF5.out, HB5.out⟩
      case measure => simp [intOf]; omega
     | false =>
      have hY : Y = some (k, s) := HFd.out (by rw [hQj]; rfl)
      subst hY
      clear hQj HFd HGo
      go_wp2_with fail
      refine (CAA.out (by trivial)).mono ?_
      rintro e w5 ⟨rfl, hb5⟩
      have HF5 : Hid (Fb bx ap aq w w5) := HF4.out.on HBX.out hb5
      have HI5 : Hid (InAt w5 ba 0 (k, s)) := HI4.out.on hb5
      obtain ⟨i0, i1, i2, i3, i4, i5, i6, i7, i8, i9⟩ := HI5.out
      simp only [Nat.zero_add] at i0 i1 i2 i3 i4 i5 i6 i7 i8 i9
      have HB1 := HF5.out.b1
      have z0 : w5.cell? ⟨bx + 1, 0, none⟩ = some (.int .u32 0) := block_cell HB1 rfl
      have z1 : w5.cell? ⟨bx + 1, 1, none⟩ = some (.int .u32 0) := block_cell HB1 rfl
      have z2 : w5.cell? ⟨bx + 1, 2, none⟩ = some (.int .u64 0) := block_cell HB1 rfl
      have z3 : w5.cell? ⟨bx + 1, 3, none⟩ = some (.int .u32 0) := block_cell HB1 rfl
      have z4 : w5.cell? ⟨bx + 1, 4, none⟩ = some (.int .u64 0) := block_cell HB1 rfl
      have z5 : w5.cell? ⟨bx + 1, 5, none⟩ = some (.int .u32 0) := block_cell HB1 rfl
      have z6 : w5.cell? ⟨bx + 1, 6, none⟩ = some (.string ⟨#[]⟩) := block_cell HB1 rfl
      have z7 : w5.cell? ⟨bx + 1, 7, none⟩ = some (.string ⟨#[]⟩) := block_cell HB1 rfl
      have z8 : w5.cell? ⟨bx + 1, 8, none⟩ = some (.string ⟨#[]⟩) := block_cell HB1 rfl
      have z9 : w5.cell? ⟨bx + 1, 9, none⟩ = some (.bool false) := block_cell HB1 rfl
      have f0 : w5.frozen? ⟨bx + 1, 0, none⟩ = false := block_frozen HB1 0
      have f1 : w5.frozen? ⟨bx + 1, 1, none⟩ = false := block_frozen HB1 1
      have f2 : w5.frozen? ⟨bx + 1, 2, none⟩ = false := block_frozen HB1 2
      have f3 : w5.frozen? ⟨bx + 1, 3, none⟩ = false := block_frozen HB1 3
      have f4 : w5.frozen? ⟨bx + 1, 4, none⟩ = false := block_frozen HB1 4
      have f5 : w5.frozen? ⟨bx + 1, 5, none⟩ = false := block_frozen HB1 5
      have f6 : w5.frozen? ⟨bx + 1, 6, none⟩ = false := block_frozen HB1 6
      have f7 : w5.frozen? ⟨bx + 1, 7, none⟩ = false := block_frozen HB1 7
      have f8 : w5.frozen? ⟨bx + 1, 8, none⟩ = false := block_frozen HB1 8
      have f9 : w5.frozen? ⟨bx + 1, 9, none⟩ = false := block_frozen HB1 9
      have HP : Hid _ := ten_set (k, s) HB1
      have HBw : Hid _ := fb_put (k, s) HF5.out HBX.out
      clear hb5 CAA g0 g1 HF4 HB4 HI4 HB1 HF5 HI5
      go_wp2_with fail
      obtain ⟨g0, g1, g2, g3, g4, g5, g6, g7, g8, g9⟩ := HP.out
      simp only [Nat.zero_add] at g0 g1 g2 g3 g4 g5 g6 g7 g8 g9
      refine bodyPost_ret (v := fsV (some (k, s))) (by simp [results, Tryz.results262, go_sem, g0, g1, g2, g3, g4, g5, g6, g7, g8, g9, fsV, inV]) rfl ?_
      exact ⟨rfl, HBw.out⟩
   ·have hjl' : ¬ (j : Int) < Q.length := by omega
    have hjq : j = Q.length := by omega
    obtain ⟨k1, k2⟩ := HAll.out (hjq ▸ hnj)
    clear hnj hfj hbj hj HFound
    by_cases hfull : Q.length < 32
    ·have hfull' : (Q.length : Int) < 32 := by omega
     have hY : Y = none := k1 hfull
     subst hY
     have HB1 := HFj.out.b1
     have z0 : wr.cell? ⟨bx + 1, 0, none⟩ = some (.int .u32 0) := block_cell HB1 rfl
     have z1 : wr.cell? ⟨bx + 1, 1, none⟩ = some (.int .u32 0) := block_cell HB1 rfl
     have z2 : wr.cell? ⟨bx + 1, 2, none⟩ = some (.int .u64 0) := block_cell HB1 rfl
     have z3 : wr.cell? ⟨bx + 1, 3, none⟩ = some (.int .u32 0) := block_cell HB1 rfl
     have z4 : wr.cell? ⟨bx + 1, 4, none⟩ = some (.int .u64 0) := block_cell HB1 rfl
     have z5 : wr.cell? ⟨bx + 1, 5, none⟩ = some (.int .u32 0) := block_cell HB1 rfl
     have z6 : wr.cell? ⟨bx + 1, 6, none⟩ = some (.string ⟨#[]⟩) := block_cell HB1 rfl
     have z7 : wr.cell? ⟨bx + 1, 7, none⟩ = some (.string ⟨#[]⟩) := block_cell HB1 rfl
     have z8 : wr.cell? ⟨bx + 1, 8, none⟩ = some (.string ⟨#[]⟩) := block_cell HB1 rfl
     have z9 : wr.cell? ⟨bx + 1, 9, none⟩ = some (.bool false) := block_cell HB1 rfl
     have f0 : wr.frozen? ⟨bx + 1, 0, none⟩ = false := block_frozen HB1 0
     have f1 : wr.frozen? ⟨bx + 1, 1, none⟩ = false := block_frozen HB1 1
     have f2 : wr.frozen? ⟨bx + 1, 2, none⟩ = false := block_frozen HB1 2
     have f3 : wr.frozen? ⟨bx + 1, 3, none⟩ = false := block_frozen HB1 3
     have f4 : wr.frozen? ⟨bx + 1, 4, none⟩ = false := block_frozen HB1 4
     have f5 : wr.frozen? ⟨bx + 1, 5, none⟩ = false := block_frozen HB1 5
     have f6 : wr.frozen? ⟨bx + 1, 6, none⟩ = false := block_frozen HB1 6
     have f7 : wr.frozen? ⟨bx + 1, 7, none⟩ = false := block_frozen HB1 7
     have f8 : wr.frozen? ⟨bx + 1, 8, none⟩ = false := block_frozen HB1 8
     have f9 : wr.frozen? ⟨bx + 1, 9, none⟩ = false := block_frozen HB1 9
     have HP : Hid _ := ten_set ([], zi) HB1
     have HBw : Hid _ := fb_put ([], zi) HFj.out HBX.out
     clear HB1 k1 k2 HNj
     go_wp2_with fail
     obtain ⟨g0, g1, g2, g3, g4, g5, g6, g7, g8, g9⟩ := HP.out
     simp only [Nat.zero_add, zi, show bs [] = ⟨#[]⟩ from rfl] at g0 g1 g2 g3 g4 g5 g6 g7 g8 g9
     refine bodyPost_ret (v := fsV none) (by simp [results, Tryz.results262, go_sem, g0, g1, g2, g3, g4, g5, g6, g7, g8, g9, fsV, inV, zi, show bs [] = ⟨#[]⟩ from rfl]) rfl ?_
     exact ⟨rfl, HBw.out⟩
    ·have h32 : Q.length = 32 := by have := HSz.out.1; omega
     obtain ⟨b, off, rfl, e0⟩ := ks_el (RwAt.on HK.out.1 HBj.out) (i := 31) (by rw [List.length_map]; omega)
     rw [show (Q.map (·.1)).getD 31 [] = (Q.getD 31 di).1 from by simp [List.getD, show 31 < Q.length by omega]] at e0
     have HN2 : Hid (rngT ((Q.getD 31 di).1 ++ [0]) hi T = R.drop (m + 32)) := HNext.out hfull
     have hkl : (Q.getD 31 di).1.length < 1000 := by
      have := HLen.out (Q.getD 31 di) (HQm.out _ (getD_memT (by omega)))
      omega
     have HK2 : Hid _ := k2
     have HMs : Hid ((R.drop (m + 32)).length < (R.drop m).length) := HSz.out.2 hfull
     have CU : Hid (1 = 1 → _) := fun _ => above44 (Q.getD 31 di).1 wr hkl
     clear k1 k2 HNj hkl hfull HNext HSz HAll HQm
     generalize (Q.getD 31 di).1 = k at *
     have HRl : Hid (∃ m' lw', Value.string (bs (k ++ [0])) = .string (bs lw') ∧ rngT lw' hi T = R.drop m' ∧ (R.take m').find? q = none ∧ Fb bx ap aq w wr) := ⟨m + 32, k ++ [0], rfl, HN2.out, HK2.out, HFj.out⟩
     have HMe : Hid (leftT hi T (.string (bs (k ++ [0]))) < leftT hi T (.string (bs lw))) := by show _ < _; rw [leftT_bs, HN2.out, HLf.out]; exact HMs.out
     obtain rfl : j = 32 := by omega
     rw [h32]
     clear hjq hjl hjl' HN2 HK2 HMs HLf hq32
     go_wp2_with fail
     refine (CU.out (by trivial)).mono ?_
     rintro e w5 ⟨rfl, rfl⟩
     clear CU e0 h32
     go_wp2_with fail
     go_roundw
     case rel => exact HRl.out
     case measure => exact HMe.out
end Go.Proofs.YtajjnmdomabmkaaGreat.Lat
namespace Go.Proofs.YtajjnmdomabmkaaGreat.Lat
open Go.RowKit
theorem any_keys {L : List Wr} {k : List UInt8} {m : Nat} (hm : m ≤ L.length) : ((L.take m).any fun a => a.key == k) = true ↔ ∃ i, i < m ∧ (L.getD i dw).key = k := by
 rw [List.any_eq_true]
 constructor
 ·rintro ⟨a, ha, he⟩
  obtain ⟨i, hi, rfl⟩ := List.mem_take_iff_getElem.1 ha
  exact ⟨i, by omega, by rw [List.getD, List.getElem?_eq_getElem (by omega)]; simpa using he⟩
 ·rintro ⟨i, hi, he⟩
  refine ⟨L.getD i dw, ?_, by simpa using he⟩
  rw [List.getD, List.getElem?_eq_getElem (by omega)]
  exact List.mem_take_iff_getElem.2 ⟨i, by omega, rfl⟩
theorem WsAt.tk {B : Nat} {ao : Option Addr} {cap : Nat} {L : List Wr} {w : World} (h : WsAt B (.slice ao L.length cap) L w) {m : Nat} (hm : m ≤ L.length) : WsAt B (.slice ao m cap) (L.take m) w := by
 have := RwAt.take h hm
 rw [rowC_take wrc_len] at this
 unfold WsAt
 rw [List.length_take, Nat.min_eq_left hm]
 exact this
theorem ent51 : ∀ args w, (callFunc 248 args).run Tryz.prog w = .ok (.enter 248 args) w := enters_of Tryz.func248 (by kernel_rfl) rfl
theorem ent31 : ∀ args w, (callFunc 170 args).run Tryz.prog w = .ok (.enter 170 args) w := enters_of Tryz.func170 (by kernel_rfl) rfl
theorem right24 (B : Nat) (L : List Wr) (v : Value) (w : World) (h : WsAt B v L w) (hB : B ≤ w.heap.size) :
  Calls Tryz.prog 165 #[v] w fun e w' => e = .returned (.bool (rightW L)) ∧ Below w.heap.size w w' := by
 obtain ⟨ao, cap, rfl, hlc, hcm⟩ := h.shape
 have HW : Hid (∀ W, Below w.heap.size w W → WsAt w.heap.size (.slice ao L.length cap) L W) := fun W hW => RwAt.le (h.on (hW.mono hB)) hB
 have HE : Hid (∀ W, Below w.heap.size w W → ∀ i, i < L.length → ∃ b off, ao = some ⟨b, off, none⟩ ∧ WrAt W b (off + i * 3) (L.getD i dw)) := fun W hW i hi => (HW.out W hW).el hi
 have HBad : Hid (∀ m, m < L.length → wOk (L.getD m dw) = false → rightW L = false) := fun m hm hw => right_bad hm hw
 have HTw : Hid (∀ k m, k < m → m < L.length → (L.getD k dw).key = (L.getD m dw).key → rightW L = false) := fun k m hk hm he => right_twice hk hm he
 have HEnd : Hid (RtN L L.length → rightW L = (decide (1 ≤ L.length) && decide (L.length ≤ 16))) := right_end
 have HSz : Hid (¬ (1 ≤ L.length ∧ L.length ≤ 16) → rightW L = false) := fun hn => by
  unfold rightW
  by_cases h1 : 1 ≤ L.length
  ·have h2 : ¬ L.length ≤ 16 := fun e => hn ⟨h1, e⟩
   simp [h2]
  ·simp [h1]
 have hL9 : L.length < 9223372036854775808 := by omega
 have HCap : Hid (L.length ≤ cap) := hlc
 generalize rightW L = y at *
 clear h hB hcm hlc
 by_cases h1 : (L.length : Int) < 1
 ·have hy : y = false := HSz.out (by omega)
  subst hy
  go_enter Tryz.func165, Tryz.ntmps165
  go_wp2_with fail
  go_ret
  exact ⟨rfl, Below.refl _ _⟩
 by_cases h2 : (16 : Int) < L.length
 ·have hy : y = false := HSz.out (by omega)
  subst hy
  go_enter Tryz.func165, Tryz.ntmps165
  go_wp2_with fail
  go_ret
  exact ⟨rfl, Below.refl _ _⟩
 go_enter Tryz.func165, Tryz.ntmps165
 go_wp2_with fail
 go_loopw [15] (fun i wr => Below w.heap.size w wr ∧ ∃ m : Nat, m ≤ L.length ∧ i = .int .i64 m ∧ RtN L m) (fun i _ => L.length - (intOf i).toNat)
 case atStart => exact ⟨Below.refl _ _, 0, Nat.zero_le _, rfl, fun _ h => by omega, fun _ _ _ h => by omega⟩
 case round =>
  obtain ⟨hbr, m, hm, rfl, hrt⟩ := hrel
  have HBr : Hid (Below w.heap.size w wr) := hbr
  have HRt : Hid (RtN L m) := hrt
  by_cases hml : m < L.length
  ·obtain ⟨b, off, rfl, e0, e1, e2⟩ := HE.out wr hbr m hml
   have hml' : (m : Int) < L.length := by omega
   have hm0 : ¬ (m : Int) < 0 := by omega
   have hmc : (m : Int) ≤ cap := by have := HCap.out; omega
   have HQ : Hid (m + 1 ≤ L.length) := hml
   have hAny := any_keys (k := (L.getD m dw).key) (Nat.le_of_lt hml)
   have HNo : Hid (wOk (L.getD m dw) = false → y = false) := HBad.out m hml
   have HTt : Hid (((L.take m).any fun a => a.key == (L.getD m dw).key) = true → y = false) := fun ht => by
    obtain ⟨i, hi, he⟩ := hAny.1 ht
    exact HTw.out i m hi hml he
   have HNx : Hid (wOk (L.getD m dw) = true → ((L.take m).any fun a => a.key == (L.getD m dw).key) = false → RtN L (m + 1)) := fun h3 h4 => HRt.out.next h3 (fun i hi he => by
    rw [hAny.2 ⟨i, hi, he⟩] at h4
    cases h4)
   clear hAny hrt
   generalize L.getD m dw = x at *
   obtain ⟨Wa, hWa⟩ : ∃ Wa, wr.alloc (.cells #[.string (bs x.key), .string (bs x.val), .bool x.dead] 144) = Wa := ⟨_, rfl⟩
   have hxa : Wa.heap[wr.heap.size]? = some (.cells #[.string (bs x.key), .string (bs x.val), .bool x.dead] 144 (0, 0)) := by rw [← hWa]; exact heap_alloc_new wr _
   have hba : Below w.heap.size w Wa := by rw [← hWa]; exact hbr.alloc hbr.size _
   have a0 := block_cell (j := 0) hxa rfl
   have a1 := block_cell (j := 1) hxa rfl
   have a2 := block_cell (j := 2) hxa rfl
   obtain ⟨bp, hbp⟩ : ∃ bp, wr.heap.size = bp := ⟨_, rfl⟩
   rw [hbp] at a0 a1 a2 hxa
   have CR : Hid (1 = 1 → Calls Tryz.prog 247 #[.agg #[.string (bs x.key), .string (bs x.val), .bool x.dead]] Wa fun e w' => e = .returned (.bool (wOk x)) ∧ Hid (Below w.heap.size w w' ∧ w'.heap[bp]? = some (.cells #[.string (bs x.key), .string (bs x.val), .bool x.dead] 144 (0, 0)))) := fun _ => by
    refine (right50 x Wa).mono ?_
    rintro e w' ⟨rfl, hb'⟩
    exact ⟨rfl, hba.trans (hb'.mono hba.size), by rw [hb'.block _ (Array.getElem?_eq_some_iff.1 hxa).1]; exact hxa⟩
   have CC : Hid (∀ W, Hid (Below w.heap.size w W ∧ W.heap[bp]? = some (.cells #[.string (bs x.key), .string (bs x.val), .bool x.dead] 144 (0, 0))) → Calls Tryz.prog 169 #[.slice (some ⟨b, off, none⟩) m cap, .func (.func 248) #[] #[.pointer (some ⟨bp, 0, none⟩)]] W fun e w' => e = .returned (.bool ((L.take m).any fun a => a.key == x.key)) ∧ Hid (Below w.heap.size w w')) := fun W hW => by
    have hws := (HW.out W hW.out.1).tk hm
    refine (cont30 248 #[.pointer (some ⟨bp, 0, none⟩)] (fun a => a.key == x.key) (L.take m) _ W (RwAt.le hws hW.out.1.size) ent51 (fun a W2 hb2 => ?_)).mono ?_
    ·exact same51 a bp x.key W2 (block_cell (by rw [hb2.block _ (Array.getElem?_eq_some_iff.1 hW.out.2).1]; exact hW.out.2) rfl)
    ·rintro e w' ⟨rfl, hb'⟩
     exact ⟨rfl, hW.out.1.trans (hb'.mono hW.out.1.size)⟩
   clear hxa hba hbr HE HW HEnd HSz HBad HTw HRt
   cases hwo : wOk x with
   | false =>
    have hy : y = false := HNo.out hwo
    subst hy
    rw [hwo] at CR
    clear hwo HNo HNx HTt CC
    go_wp2_with fail
    refine (CR.out (by trivial)).mono ?_
    rintro e w1 ⟨rfl, HB1⟩
    clear CR a0 a1 a2 hWa hbp e0 e1 e2
    go_wp2_with fail
    go_ret
    exact ⟨rfl, HB1.out.1⟩
   | true =>
    rw [hwo] at CR
    cases han : (L.take m).any fun a => a.key == x.key with
    | true =>
     have hy : y = false := HTt.out han
     subst hy
     rw [han] at CC
     clear hwo han HNo HNx HTt
     go_wp2_with fail
     refine (CR.out (by trivial)).mono ?_
     rintro e w1 ⟨rfl, HB1⟩
     clear CR a0 a1 a2 hWa hbp e0 e1 e2
     go_wp2_with fail
     refine (CC.out _ HB1).mono ?_
     rintro e w2 ⟨rfl, HB2⟩
     clear CC HB1
     go_wp2_with fail
     go_ret
     exact ⟨rfl, HB2.out⟩
    | false =>
     rw [han] at CC
     have HNN : Hid (RtN L (m + 1)) := HNx.out hwo han
     clear hwo han HNo HNx HTt
     go_wp2_with fail
     refine (CR.out (by trivial)).mono ?_
     rintro e w1 ⟨rfl, HB1⟩
     clear CR a0 a1 a2 hWa hbp e0 e1 e2
     go_wp2_with fail
     refine (CC.out _ HB1).mono ?_
     rintro e w2 ⟨rfl, HB2⟩
     clear CC HB1
     go_wp2_with fail
     go_roundw
     case rel => exact ⟨HB2.out, m + 1, HQ.out, by go_num, HNN.out⟩
     case measure => simp [intOf]; omega
  ·have hml' : ¬ (m : Int) < L.length := by omega
   have hm2 : m = L.length := by omega
   have hy : y = true := by
    have := HEnd.out (hm2 ▸ hrt)
    rw [this]
    simp
    omega
   subst hy
   clear hbr hrt hm2
   go_wp2_with fail
   go_ret
   exact ⟨rfl, HBr.out⟩
theorem new9 (w : World) : Calls Tryz.prog 41 #[] w fun e w' => ∃ p M, e = .returned (.pointer (some ⟨p, 0, none⟩)) ∧ TabAt w.heap.size p M [] w' ∧ Below w.heap.size w w' := by
 have hmm := @run_makeMap Tryz.prog
 have CN : Hid (1 = 1 → Calls Tryz.prog 72 #[] w fun e w' => ∃ pm, e = .returned (.pointer (some ⟨pm, 0, none⟩)) ∧ Hid (∃ t, Mp w.heap.size pm t w' ∧ t.toL = [] ∧ Below w.heap.size w w')) := fun _ => by
  refine (new8 w).mono ?_
  rintro e w' ⟨pm, F, rfl, ⟨t, hm, hl, _⟩, hb⟩
  exact ⟨pm, rfl, t, hm, hl, hb⟩
 have HT : Hid (∀ pm w1, (∃ t, Mp w.heap.size pm t w1 ∧ t.toL = [] ∧ Below w.heap.size w w1) → TabAt w.heap.size (w1.alloc (.map #[] 0)).heap.size (footT (w1.alloc (.map #[] 0)).heap.size pm w1.heap.size .nil []) [] ((w1.alloc (.map #[] 0)).alloc (.cells #[.pointer (some ⟨pm, 0, none⟩), .map (some w1.heap.size)] 171)) ∧ Below w.heap.size w ((w1.alloc (.map #[] 0)).alloc (.cells #[.pointer (some ⟨pm, 0, none⟩), .map (some w1.heap.size)] 171))) := fun pm w1 => by
  rintro ⟨t, hm, hl, hb⟩
  have ht : t = .nil := by
   cases t using Tr.cas with
   | nil => rfl
   | node b l k v x r => simp [Tr.toL] at hl
  subst ht
  have hpl := (Array.getElem?_eq_some_iff.1 hm.box).1
  have b1 : Below w1.heap.size w1 (w1.alloc (.map #[] 0)) := al _
  have b2 : Below (w1.alloc (.map #[] 0)).heap.size (w1.alloc (.map #[] 0)) ((w1.alloc (.map #[] 0)).alloc (.cells #[.pointer (some ⟨pm, 0, none⟩), .map (some w1.heap.size)] 171)) := al _
  have s1 : (w1.alloc (.map #[] 0)).heap.size = w1.heap.size + 1 := size_al _ _
  have hbb : Below w.heap.size w ((w1.alloc (.map #[] 0)).alloc (.cells #[.pointer (some ⟨pm, 0, none⟩), .map (some w1.heap.size)] 171)) := (hb.trans (b1.mono hb.size)).trans (b2.mono (by rw [s1]; have := hb.size; omega))
  refine ⟨⟨pm, w1.heap.size, .nil, [], ⟨heap_alloc_new _ _, ?_, ?_, by simp, ?_⟩, Rel.nil, rfl⟩, hbb⟩
  ·exact (hm.kept (Kept.of_below (F := fun _ => False) b1) (fun h => h) (fun _ _ h => h)).kept (Kept.of_below (F := fun _ => False) b2) (fun h => h) (fun _ _ h => h)
  ·exact (GmAt.new w1).kept (Kept.of_below (F := fun _ => False) b2) (fun h => h)
  ·refine ⟨by omega, by omega, by omega, by simp [Tr.blocks], by simp [Tr.blocks], ?_, hb.size⟩
   rw [s1]
   have := hb.size
   omega
 go_enter Tryz.func41, Tryz.ntmps41
 go_wp2_with fail
 refine (CN.out (by trivial)).mono ?_
 rintro e w1 ⟨pm, rfl, HM⟩
 obtain ⟨h1, h2⟩ := HT.out pm w1 HM.out
 have HX : Hid _ := And.intro h1 h2
 clear CN HT HM h1 h2
 rw [size_al] at HX
 go_wp2_with fail
 go_ret
 exact ⟨_, _, rfl, HX.out⟩
theorem lay31 {B p pm hb : Nat} {t : Tr} {m : Mm} {T : Tb} {w : World} (x : Wr) (b6 : Nat) (h : Tx B p pm hb t m w) (hr : Rel t.toL m T) (h6 : w.cell? ⟨b6, 0, none⟩ = some (.pointer (some ⟨p, 0, none⟩))) : Calls Tryz.prog 170 #[.agg #[.string (bs x.key), .string (bs x.val), .bool x.dead], .pointer (some ⟨b6, 0, none⟩)] w fun e w' => e = .returned (.bool (getF x.key T).isSome) ∧ Below w.heap.size w w' := by
 obtain ⟨W0, hW0⟩ : ∃ W0, w.alloc (.cells #[.string (bs x.key), .string (bs x.val), .bool x.dead] 144) = W0 := ⟨_, rfl⟩
 have hb0 : Below w.heap.size w W0 := by rw [← hW0]; exact al _
 have hx0 : W0.heap[w.heap.size]? = some (.cells #[.string (bs x.key), .string (bs x.val), .bool x.dead] 144 (0, 0)) := by rw [← hW0]; exact heap_alloc_new w _
 have z0 := block_cell (j := 0) hx0 rfl
 have y0 : W0.cell? ⟨b6, 0, none⟩ = some (.pointer (some ⟨p, 0, none⟩)) := by rw [hb0.cell (World.block_lt_of_cell? _ _ h6)]; exact h6
 have CC : Hid (1 = 1 → Calls Tryz.prog 171 #[.pointer (some ⟨p, 0, none⟩), .string (bs x.key)] W0 fun e w' => e = .returned (.bool (getF x.key T).isSome) ∧ Hid (Below w.heap.size w w')) := fun _ => by
  refine (claimed32 x.key (h.on hb0) hr).mono ?_
  rintro e w' ⟨rfl, hb'⟩
  exact ⟨rfl, hb0.trans (hb'.mono hb0.size)⟩
 clear h hr h6 hb0 hx0
 generalize (getF x.key T).isSome = z at *
 go_enter Tryz.func170, Tryz.ntmps170
 go_wp2_with fail
 refine (CC.out (by trivial)).mono ?_
 rintro e w1 ⟨rfl, HB⟩
 clear CC z0 y0 hW0
 go_wp2_with fail
 go_ret
 exact ⟨rfl, HB.out⟩
end Go.Proofs.YtajjnmdomabmkaaGreat.Lat
