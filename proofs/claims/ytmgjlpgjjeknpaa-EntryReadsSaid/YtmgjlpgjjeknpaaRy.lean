/-
  The document's Read, kind by kind: further ones.
-/
import Derived.Test.YtmgjlpgjjeknpaaRz
namespace Go.Proofs.Ytmgjlpgjjeknpaa
open Go.RowKit Go.Sort

set_option maxHeartbeats 3200000 in
set_option maxRecDepth 100000 in
theorem rd13_6 (s : List UInt8) (w : World) (hl : s.length < 4611686018427387904) (hk : (rdNum 9 ⟨s, 0⟩).1 = 6) : Calls Try.prog 13 #[.string (bs s)] w (RdPost s w) := by
  have HW : Hid _ := @rz_new w s hl
  obtain ⟨W1, hW1⟩ : ∃ W1, w.alloc (.cells #[.int .i64 0, .int .u32 0, .int .u32 0, .int .u64 0, .int .u32 0, .int .u64 0, .int .u32 0, .int .u64 0, .int .u32 0, .string ⟨#[]⟩, .int .u8 0, .bool false, .slice none 0 0] 30) = W1 := ⟨_, rfl⟩
  obtain ⟨W2, hW2⟩ : ∃ W2, W1.alloc (.cells #[.string (bs s), .int .i64 0] 71) = W2 := ⟨_, rfl⟩
  have s1 : W1.heap.size = w.heap.size + 1 := by rw [← hW1]; simp
  obtain ⟨bx, hbx⟩ : ∃ b, w.heap.size = b := ⟨_, rfl⟩
  obtain ⟨br, hbr⟩ : ∃ b, W1.heap.size = b := ⟨_, rfl⟩
  have R2 : Hid (RdAt 71 br ⟨s, 0⟩ W2) := by
    show _ = _
    rw [← hW2, ← hbr]
    exact heap_alloc_new W1 _
  have HW2 : Hid ((w.alloc (.cells #[.int .i64 0, .int .u32 0, .int .u32 0, .int .u64 0, .int .u32 0, .int .u64 0, .int .u32 0, .int .u64 0, .int .u32 0, .string ⟨#[]⟩, .int .u8 0, .bool false, .slice none 0 0] 30)).alloc (.cells #[.string (bs s), .int .i64 0] 71) = W2) := by
    show _ = _
    rw [hW1]
    exact hW2
  have Hbx : Hid (w.heap.size = bx) := hbx
  have Hbr : Hid (w.heap.size + 1 = br) := by show _ = _; rw [← hbr, s1]
  have hle := rdNum_le 9 ⟨s, 0⟩
  obtain ⟨st1, hst1⟩ : ∃ x, (rdNum 9 ⟨s, 0⟩).2 = x := ⟨_, rfl⟩
  have H1 : Hid (rdNum 9 ⟨s, 0⟩ = (6, st1)) := Prod.ext hk hst1
  have HL : Hid (st1.l.length ≤ s.length) := by rw [← hst1]; exact hle.2.1
  have C : Hid (1 = 1 → Calls Try.prog 34 #[.pointer (some ⟨br, 0, none⟩), .int .u64 9] W2 fun r w' => r = .returned (.int .u64 6) ∧ RdAt 71 br st1 w' ∧ Sole br W2 w') := fun _ => by
    have := num26 br ⟨s, 0⟩ 9 W2 R2.out (by show s.length < _; omega)
    rw [H1.out] at this
    exact this
  clear hle hst1 hk s1 R2
  go_enter Try.func13, Try.ntmps13
  go_wp2_with fail
  refine (C.out (by simp)).mono ?_
  rintro r w1 ⟨rfl, hr, hs⟩
  have HZ : Hid _ := HW.out HW2.out (by rw [Hbr.out]; exact hr) (by rw [Hbr.out]; exact hs) HL.out #[.int .i64 6, .int .u32 0, .int .u32 0, .int .u64 0, .int .u32 0, .int .u64 0, .int .u32 0, .int .u64 0, .int .u32 0, .string ⟨#[]⟩, .int .u8 0, .bool false, .slice none 0 0]
  clear hr hs C hW1 hW2 hbr HW
  go_upto_region 3 with fail
  obtain ⟨Y0, hY0⟩ : ∃ Y0, w1.alloc (.cells #[.int .i64 6, .int .u32 0, .int .u32 0, .int .u64 0, .int .u32 0, .int .u64 0, .int .u32 0, .int .u64 0, .int .u32 0, .string ⟨#[]⟩, .int .u8 0, .bool false, .slice none 0 0] 30) = Y0 := ⟨_, rfl⟩
  obtain ⟨be, hbe⟩ : ∃ b, w1.heap.size = b := ⟨_, rfl⟩
  have HZ0 : Hid (Rz 71 (be + 1) w bx br be #[.int .i64 6, .int .u32 0, .int .u32 0, .int .u64 0, .int .u32 0, .int .u64 0, .int .u32 0, .int .u64 0, .int .u32 0, .string ⟨#[]⟩, .int .u8 0, .bool false, .slice none 0 0] (.slice none 0 0) [] st1 Y0) := by
    rw [← hY0, ← hbe, ← Hbr.out, ← Hbx.out]
    exact HZ.out
  rw [hY0, hbe]
  clear HZ HW2 hbx HL hY0 hbe
  obtain ⟨ap, aq, st2, hA⟩ : ∃ ap aq st2, rdStamp st1 = ((ap, aq), st2) := ⟨_, _, _, rfl⟩
  have H2 : Hid (rdStamp st1 = ((ap, aq), st2)) := hA
  have HL : Hid (st2.l.length ≤ st1.l.length) := by have := rdStamp_le st1; rw [hA] at this; exact this
  clear hA
  have C : Hid (1 = 1 → Calls Try.prog 35 #[.pointer (some ⟨br, 0, none⟩)] Y0 fun r w' => r = .returned (.agg #[.int .u64 (ap : Int), .int .u32 (aq : Int)]) ∧ RdAt 71 br st2 w' ∧ Sole br Y0 w') := fun _ => by
    have := stamp29 br st1 Y0 HZ0.out.r (by have := HZ0.out.len; omega)
    skip
    rw [H2.out] at this
    exact this
  have p0 : Y0.cell? ⟨be, 0, none⟩ = some (.int .i64 6) := block_cell HZ0.out.y rfl
  go_wp2_with fail
  refine (C.out (by simp)).mono ?_
  rintro r x2 ⟨rfl, hr, hs⟩
  have HX2 : Hid (Rz 71 (be + 1) w bx br be #[.int .i64 6, .int .u32 0, .int .u32 0, .int .u64 0, .int .u32 0, .int .u64 0, .int .u32 0, .int .u64 0, .int .u32 0, .string ⟨#[]⟩, .int .u8 0, .bool false, .slice none 0 0] (.slice none 0 0) [] st2 x2) := HZ0.out.rd hr hs HL.out
  clear hr hs C p0 HL HZ0 
  have q5 : x2.cell? ⟨be, 5, none⟩ = some (.int .u64 0) := block_cell HX2.out.y rfl
  have f5 : x2.frozen? ⟨be, 5, none⟩ = false := block_frozen HX2.out.y 5
  have q6 : x2.cell? ⟨be, 6, none⟩ = some (.int .u32 0) := block_cell HX2.out.y rfl
  have f6 : x2.frozen? ⟨be, 6, none⟩ = false := block_frozen HX2.out.y 6
  obtain ⟨Y2, hY2⟩ : ∃ Y2, ((x2.setCell ⟨be, 5, none⟩ (.int .u64 (ap : Int))).setCell ⟨be, 6, none⟩ (.int .u32 (aq : Int))) = Y2 := ⟨_, rfl⟩
  have HZ2 : Hid (Rz 71 (be + 1) w bx br be #[.int .i64 6, .int .u32 0, .int .u32 0, .int .u64 0, .int .u32 0, .int .u64 (ap : Int), .int .u32 (aq : Int), .int .u64 0, .int .u32 0, .string ⟨#[]⟩, .int .u8 0, .bool false, .slice none 0 0] (.slice none 0 0) [] st2 Y2) := by
    rw [← hY2]
    exact ((HX2.out.put 5 (.int .u64 (ap : Int))).put 6 (.int .u32 (aq : Int)))
  clear HX2
  have p0 : Y2.cell? ⟨be, 0, none⟩ = some (.int .i64 6) := block_cell HZ2.out.y rfl
  go_wp2_with fail
  clear p0 hY2 q5 f5 q6 f6
  go_loopw [7] (fun i wr => i = .int .i64 0 ∧ Hid (Rz 71 (be + 1) w bx br be #[.int .i64 6, .int .u32 0, .int .u32 0, .int .u64 0, .int .u32 0, .int .u64 (ap : Int), .int .u32 (aq : Int), .int .u64 0, .int .u32 0, .string ⟨#[]⟩, .int .u8 0, .bool false, .slice none 0 0] (.slice none 0 0) [] st2 wr)) (fun _ _ => 0)
  case atStart => exact ⟨rfl, HZ2.out⟩
  case round =>
    obtain ⟨rfl, HE⟩ := hrel
    clear HZ2
    have HRW : Hid (rawE s = ((En.mk 6 0 0 0 0 ap aq 0 0 [] 0 false []), st2)) := by
      show _ = _
      simp [rawE, rBy, rSt, rMin, rPrim, rCnt, rAt, rPt, rDn, hasBy, hasSt, hasAt, hasPt, H1.out, H2.out, rWs]
    have C : Hid (1 = 1 → Calls Try.prog 39 #[.pointer (some ⟨br, 0, none⟩)] wr fun r w' => r = .returned (.int .i64 (rdEnd st2)) ∧ wr = w') := fun _ => end33 br st2 wr HE.out.r
    have p0 : wr.cell? ⟨be, 0, none⟩ = some (.int .i64 6) := block_cell HE.out.y rfl
    clear H1 H2
    go_wp2_with fail
    refine (C.out (by simp)).mono ?_
    rintro r w5 ⟨rfl, rfl⟩
    clear C p0 
    by_cases hz : rdEnd st2 = 0
    · rw [hz]
      have CR : Hid (1 = 1 → Calls Try.prog 19 #[.agg #[.int .i64 6, .int .u32 0, .int .u32 0, .int .u64 0, .int .u32 0, .int .u64 (ap : Int), .int .u32 (aq : Int), .int .u64 0, .int .u32 0, .string ⟨#[]⟩, .int .u8 0, .bool false, .slice none 0 0]] wr fun r w' => r = .returned (.bool (rightE (En.mk 6 0 0 0 0 ap aq 0 0 [] 0 false []))) ∧ Below wr.heap.size wr w') := fun _ => right22 (En.mk 6 0 0 0 0 ap aq 0 0 [] 0 false []) none 0 wr (rw_own HE.out.own)
      obtain ⟨q, hq⟩ : ∃ q, rightE (En.mk 6 0 0 0 0 ap aq 0 0 [] 0 false []) = q := ⟨_, rfl⟩
      have HQQ : Hid (rightE (En.mk 6 0 0 0 0 ap aq 0 0 [] 0 false []) = q) := hq
      have HZZ : Hid (rdEnd st2 = 0) := hz
      rw [hq] at CR
      clear hq hz
      obtain ⟨p0, p1, p2, p3, p4, p5, p6, p7, p8, p9, p10, p11, p12⟩ := all13 HE.out.y
      go_wp2_with fail
      refine (CR.out (by simp)).mono ?_
      rintro r w6 ⟨rfl, hb6⟩
      have H6 : Hid (Rz 71 (be + 1) w bx br be #[.int .i64 6, .int .u32 0, .int .u32 0, .int .u64 0, .int .u32 0, .int .u64 (ap : Int), .int .u32 (aq : Int), .int .u64 0, .int .u32 0, .string ⟨#[]⟩, .int .u8 0, .bool false, .slice none 0 0] (.slice none 0 0) [] st2 w6) := HE.out.on hb6
      clear hb6 CR HE p0 p1 p2 p3 p4 p5 p6 p7 p8 p9 p10 p11 p12
      cases q
      · have HNO : Hid (readE s = none) := by show _ = _; unfold readE; rw [HRW.out]; exact if_neg (fun h => by have := h.2; rw [HQQ.out] at this; cases this)
        obtain ⟨y0, y1, y2, y3, y4, y5, y6, y7, y8, y9, y10, y11, y12⟩ := all13 H6.out.x
        obtain ⟨z0, z1, z2, z3, z4, z5, z6, z7, z8, z9, z10, z11, z12⟩ := froz13 H6.out.x
        have HI : Hid _ := bx13 (.int .i64 0) (.int .u32 0) (.int .u32 0) (.int .u64 0) (.int .u32 0) (.int .u64 0) (.int .u32 0) (.int .u64 0) (.int .u32 0) (.string ⟨#[]⟩) (.int .u8 0) (.bool false) (.slice none 0 0) H6.out.x
        have HBw : Hid _ := bx13_below (.int .i64 0) (.int .u32 0) (.int .u32 0) (.int .u64 0) (.int .u32 0) (.int .u64 0) (.int .u32 0) (.int .u64 0) (.int .u32 0) (.string ⟨#[]⟩) (.int .u8 0) (.bool false) (.slice none 0 0) H6.out.bel H6.out.lx
        go_wp2_with fail
        obtain ⟨r0, r1, r2, r3, r4, r5, r6, r7, r8, r9, r10, r11, r12⟩ := all13 HI.out
        refine bodyPost_ret (v := .tuple #[.agg #[.int .i64 0, .int .u32 0, .int .u32 0, .int .u64 0, .int .u32 0, .int .u64 0, .int .u32 0, .int .u64 0, .int .u32 0, .string ⟨#[]⟩, .int .u8 0, .bool false, .slice none 0 0], .int .i64 2]) (by simp [results, Try.results13, go_sem, r0, r1, r2, r3, r4, r5, r6, r7, r8, r9, r10, r11, r12]) rfl ?_
        exact ⟨HBw.out, fun _ => rfl, fun e he => by rw [HNO.out] at he; cases he⟩
      · have HSO : Hid (readE s = some (En.mk 6 0 0 0 0 ap aq 0 0 [] 0 false [])) := by show _ = _; unfold readE; rw [HRW.out]; exact if_pos ⟨HZZ.out, HQQ.out⟩
        obtain ⟨y0, y1, y2, y3, y4, y5, y6, y7, y8, y9, y10, y11, y12⟩ := all13 H6.out.x
        obtain ⟨z0, z1, z2, z3, z4, z5, z6, z7, z8, z9, z10, z11, z12⟩ := froz13 H6.out.x
        obtain ⟨x0, x1, x2, x3, x4, x5, x6, x7, x8, x9, x10, x11, x12⟩ := all13 H6.out.y
        have HI : Hid _ := bx13 (.int .i64 6) (.int .u32 0) (.int .u32 0) (.int .u64 0) (.int .u32 0) (.int .u64 (ap : Int)) (.int .u32 (aq : Int)) (.int .u64 0) (.int .u32 0) (.string ⟨#[]⟩) (.int .u8 0) (.bool false) (.slice none 0 0) H6.out.x
        have HBw : Hid _ := bx13_below (.int .i64 6) (.int .u32 0) (.int .u32 0) (.int .u64 0) (.int .u32 0) (.int .u64 (ap : Int)) (.int .u32 (aq : Int)) (.int .u64 0) (.int .u32 0) (.string ⟨#[]⟩) (.int .u8 0) (.bool false) (.slice none 0 0) H6.out.bel H6.out.lx
        have HKp : Hid _ := bx13_kept (b := bx) (W := w6) (.int .i64 6) (.int .u32 0) (.int .u32 0) (.int .u64 0) (.int .u32 0) (.int .u64 (ap : Int)) (.int .u32 (aq : Int)) (.int .u64 0) (.int .u32 0) (.string ⟨#[]⟩) (.int .u8 0) (.bool false) (.slice none 0 0)
        go_wp2_with fail
        obtain ⟨r0, r1, r2, r3, r4, r5, r6, r7, r8, r9, r10, r11, r12⟩ := all13 HI.out
        refine bodyPost_ret (v := .tuple #[.agg #[.int .i64 6, .int .u32 0, .int .u32 0, .int .u64 0, .int .u32 0, .int .u64 (ap : Int), .int .u32 (aq : Int), .int .u64 0, .int .u32 0, .string ⟨#[]⟩, .int .u8 0, .bool false, .slice none 0 0], .int .i64 0]) (by simp [results, Try.results13, go_sem, r0, r1, r2, r3, r4, r5, r6, r7, r8, r9, r10, r11, r12]) rfl ?_
        unfold RdPost
        refine ⟨HBw.out, fun hn => absurd (HSO.out.symm.trans hn) (by simp), fun e he => ?_⟩
        rw [HSO.out] at he
        cases he
        exact ⟨none, 0, rfl, rw_own (own_kept H6.out.own HKp.out (fun k hk hf => by have h1 := H6.out.ob k hk; have h2 := H6.out.xb; omega))⟩
    · have HNO : Hid (readE s = none) := by show _ = _; unfold readE; rw [HRW.out]; exact if_neg (fun h => hz h.1)
      have hz1 : ¬ ((rdEnd st2 : Nat) : Int) = 0 := by omega
      obtain ⟨y0, y1, y2, y3, y4, y5, y6, y7, y8, y9, y10, y11, y12⟩ := all13 HE.out.x
      obtain ⟨z0, z1, z2, z3, z4, z5, z6, z7, z8, z9, z10, z11, z12⟩ := froz13 HE.out.x
      have HI : Hid _ := bx13 (.int .i64 0) (.int .u32 0) (.int .u32 0) (.int .u64 0) (.int .u32 0) (.int .u64 0) (.int .u32 0) (.int .u64 0) (.int .u32 0) (.string ⟨#[]⟩) (.int .u8 0) (.bool false) (.slice none 0 0) HE.out.x
      have HBw : Hid _ := bx13_below (.int .i64 0) (.int .u32 0) (.int .u32 0) (.int .u64 0) (.int .u32 0) (.int .u64 0) (.int .u32 0) (.int .u64 0) (.int .u32 0) (.string ⟨#[]⟩) (.int .u8 0) (.bool false) (.slice none 0 0) HE.out.bel HE.out.lx
      go_wp2_with fail
      obtain ⟨r0, r1, r2, r3, r4, r5, r6, r7, r8, r9, r10, r11, r12⟩ := all13 HI.out
      refine bodyPost_ret (v := .tuple #[.agg #[.int .i64 0, .int .u32 0, .int .u32 0, .int .u64 0, .int .u32 0, .int .u64 0, .int .u32 0, .int .u64 0, .int .u32 0, .string ⟨#[]⟩, .int .u8 0, .bool false, .slice none 0 0], .int .i64 2]) (by simp [results, Try.results13, go_sem, r0, r1, r2, r3, r4, r5, r6, r7, r8, r9, r10, r11, r12]) rfl ?_
      exact ⟨HBw.out, fun _ => rfl, fun e he => by rw [HNO.out] at he; cases he⟩
set_option maxHeartbeats 3200000 in
set_option maxRecDepth 100000 in
theorem rd13_4 (s : List UInt8) (w : World) (hl : s.length < 4611686018427387904) (hk : (rdNum 9 ⟨s, 0⟩).1 = 4) : Calls Try.prog 13 #[.string (bs s)] w (RdPost s w) := by
  have HW : Hid _ := @rz_new w s hl
  obtain ⟨W1, hW1⟩ : ∃ W1, w.alloc (.cells #[.int .i64 0, .int .u32 0, .int .u32 0, .int .u64 0, .int .u32 0, .int .u64 0, .int .u32 0, .int .u64 0, .int .u32 0, .string ⟨#[]⟩, .int .u8 0, .bool false, .slice none 0 0] 30) = W1 := ⟨_, rfl⟩
  obtain ⟨W2, hW2⟩ : ∃ W2, W1.alloc (.cells #[.string (bs s), .int .i64 0] 71) = W2 := ⟨_, rfl⟩
  have s1 : W1.heap.size = w.heap.size + 1 := by rw [← hW1]; simp
  obtain ⟨bx, hbx⟩ : ∃ b, w.heap.size = b := ⟨_, rfl⟩
  obtain ⟨br, hbr⟩ : ∃ b, W1.heap.size = b := ⟨_, rfl⟩
  have R2 : Hid (RdAt 71 br ⟨s, 0⟩ W2) := by
    show _ = _
    rw [← hW2, ← hbr]
    exact heap_alloc_new W1 _
  have HW2 : Hid ((w.alloc (.cells #[.int .i64 0, .int .u32 0, .int .u32 0, .int .u64 0, .int .u32 0, .int .u64 0, .int .u32 0, .int .u64 0, .int .u32 0, .string ⟨#[]⟩, .int .u8 0, .bool false, .slice none 0 0] 30)).alloc (.cells #[.string (bs s), .int .i64 0] 71) = W2) := by
    show _ = _
    rw [hW1]
    exact hW2
  have Hbx : Hid (w.heap.size = bx) := hbx
  have Hbr : Hid (w.heap.size + 1 = br) := by show _ = _; rw [← hbr, s1]
  have hle := rdNum_le 9 ⟨s, 0⟩
  obtain ⟨st1, hst1⟩ : ∃ x, (rdNum 9 ⟨s, 0⟩).2 = x := ⟨_, rfl⟩
  have H1 : Hid (rdNum 9 ⟨s, 0⟩ = (4, st1)) := Prod.ext hk hst1
  have HL : Hid (st1.l.length ≤ s.length) := by rw [← hst1]; exact hle.2.1
  have C : Hid (1 = 1 → Calls Try.prog 34 #[.pointer (some ⟨br, 0, none⟩), .int .u64 9] W2 fun r w' => r = .returned (.int .u64 4) ∧ RdAt 71 br st1 w' ∧ Sole br W2 w') := fun _ => by
    have := num26 br ⟨s, 0⟩ 9 W2 R2.out (by show s.length < _; omega)
    rw [H1.out] at this
    exact this
  clear hle hst1 hk s1 R2
  go_enter Try.func13, Try.ntmps13
  go_wp2_with fail
  refine (C.out (by simp)).mono ?_
  rintro r w1 ⟨rfl, hr, hs⟩
  have HZ : Hid _ := HW.out HW2.out (by rw [Hbr.out]; exact hr) (by rw [Hbr.out]; exact hs) HL.out #[.int .i64 4, .int .u32 0, .int .u32 0, .int .u64 0, .int .u32 0, .int .u64 0, .int .u32 0, .int .u64 0, .int .u32 0, .string ⟨#[]⟩, .int .u8 0, .bool false, .slice none 0 0]
  clear hr hs C hW1 hW2 hbr HW
  go_upto_region 3 with fail
  obtain ⟨Y0, hY0⟩ : ∃ Y0, w1.alloc (.cells #[.int .i64 4, .int .u32 0, .int .u32 0, .int .u64 0, .int .u32 0, .int .u64 0, .int .u32 0, .int .u64 0, .int .u32 0, .string ⟨#[]⟩, .int .u8 0, .bool false, .slice none 0 0] 30) = Y0 := ⟨_, rfl⟩
  obtain ⟨be, hbe⟩ : ∃ b, w1.heap.size = b := ⟨_, rfl⟩
  have HZ0 : Hid (Rz 71 (be + 1) w bx br be #[.int .i64 4, .int .u32 0, .int .u32 0, .int .u64 0, .int .u32 0, .int .u64 0, .int .u32 0, .int .u64 0, .int .u32 0, .string ⟨#[]⟩, .int .u8 0, .bool false, .slice none 0 0] (.slice none 0 0) [] st1 Y0) := by
    rw [← hY0, ← hbe, ← Hbr.out, ← Hbx.out]
    exact HZ.out
  rw [hY0, hbe]
  clear HZ HW2 hbx HL hY0 hbe
  obtain ⟨c, st2, hA⟩ : ∃ c st2, rdNum 4294967295 st1 = (c, st2) := ⟨_, _, rfl⟩
  have H2 : Hid (rdNum 4294967295 st1 = (c, st2)) := hA
  have HL : Hid (st2.l.length ≤ st1.l.length) := by have := (rdNum_le 4294967295 st1).2.1; rw [hA] at this; exact this
  have bd2 : c ≤ 4294967295 := by have := (rdNum_le 4294967295 st1).1; rw [hA] at this; exact this
  clear hA
  have C : Hid (1 = 1 → Calls Try.prog 34 #[.pointer (some ⟨br, 0, none⟩), .int .u64 4294967295] Y0 fun r w' => r = .returned (.int .u64 (c : Int)) ∧ RdAt 71 br st2 w' ∧ Sole br Y0 w') := fun _ => by
    have := num26 br st1 4294967295 Y0 HZ0.out.r (by have := HZ0.out.len; omega)
    skip
    rw [H2.out] at this
    exact this
  have p0 : Y0.cell? ⟨be, 0, none⟩ = some (.int .i64 4) := block_cell HZ0.out.y rfl
  go_wp2_with fail
  refine (C.out (by simp)).mono ?_
  rintro r x2 ⟨rfl, hr, hs⟩
  have HX2 : Hid (Rz 71 (be + 1) w bx br be #[.int .i64 4, .int .u32 0, .int .u32 0, .int .u64 0, .int .u32 0, .int .u64 0, .int .u32 0, .int .u64 0, .int .u32 0, .string ⟨#[]⟩, .int .u8 0, .bool false, .slice none 0 0] (.slice none 0 0) [] st2 x2) := HZ0.out.rd hr hs HL.out
  clear hr hs C p0 HL HZ0 
  have xw := u32w bd2
  have q1 : x2.cell? ⟨be, 1, none⟩ = some (.int .u32 0) := block_cell HX2.out.y rfl
  have f1 : x2.frozen? ⟨be, 1, none⟩ = false := block_frozen HX2.out.y 1
  obtain ⟨Y2, hY2⟩ : ∃ Y2, (x2.setCell ⟨be, 1, none⟩ (.int .u32 (c : Int))) = Y2 := ⟨_, rfl⟩
  have HZ2 : Hid (Rz 71 (be + 1) w bx br be #[.int .i64 4, .int .u32 (c : Int), .int .u32 0, .int .u64 0, .int .u32 0, .int .u64 0, .int .u32 0, .int .u64 0, .int .u32 0, .string ⟨#[]⟩, .int .u8 0, .bool false, .slice none 0 0] (.slice none 0 0) [] st2 Y2) := by
    rw [← hY2]
    exact (HX2.out.put 1 (.int .u32 (c : Int)))
  clear HX2
  obtain ⟨n, st3, hA⟩ : ∃ n st3, rdNum 4294967295 st2 = (n, st3) := ⟨_, _, rfl⟩
  have H3 : Hid (rdNum 4294967295 st2 = (n, st3)) := hA
  have HL : Hid (st3.l.length ≤ st2.l.length) := by have := (rdNum_le 4294967295 st2).2.1; rw [hA] at this; exact this
  have bd3 : n ≤ 4294967295 := by have := (rdNum_le 4294967295 st2).1; rw [hA] at this; exact this
  clear hA
  have C : Hid (1 = 1 → Calls Try.prog 34 #[.pointer (some ⟨br, 0, none⟩), .int .u64 4294967295] Y2 fun r w' => r = .returned (.int .u64 (n : Int)) ∧ RdAt 71 br st3 w' ∧ Sole br Y2 w') := fun _ => by
    have := num26 br st2 4294967295 Y2 HZ2.out.r (by have := HZ2.out.len; omega)
    skip
    rw [H3.out] at this
    exact this
  have p0 : Y2.cell? ⟨be, 0, none⟩ = some (.int .i64 4) := block_cell HZ2.out.y rfl
  go_wp2_with fail
  refine (C.out (by simp)).mono ?_
  rintro r x3 ⟨rfl, hr, hs⟩
  have HX3 : Hid (Rz 71 (be + 1) w bx br be #[.int .i64 4, .int .u32 (c : Int), .int .u32 0, .int .u64 0, .int .u32 0, .int .u64 0, .int .u32 0, .int .u64 0, .int .u32 0, .string ⟨#[]⟩, .int .u8 0, .bool false, .slice none 0 0] (.slice none 0 0) [] st3 x3) := HZ2.out.rd hr hs HL.out
  clear hr hs C p0 HL HZ2 hY2 q1 f1 xw
  have xw := u32w bd3
  have q2 : x3.cell? ⟨be, 2, none⟩ = some (.int .u32 0) := block_cell HX3.out.y rfl
  have f2 : x3.frozen? ⟨be, 2, none⟩ = false := block_frozen HX3.out.y 2
  obtain ⟨Y3, hY3⟩ : ∃ Y3, (x3.setCell ⟨be, 2, none⟩ (.int .u32 (n : Int))) = Y3 := ⟨_, rfl⟩
  have HZ3 : Hid (Rz 71 (be + 1) w bx br be #[.int .i64 4, .int .u32 (c : Int), .int .u32 (n : Int), .int .u64 0, .int .u32 0, .int .u64 0, .int .u32 0, .int .u64 0, .int .u32 0, .string ⟨#[]⟩, .int .u8 0, .bool false, .slice none 0 0] (.slice none 0 0) [] st3 Y3) := by
    rw [← hY3]
    exact (HX3.out.put 2 (.int .u32 (n : Int)))
  clear HX3
  obtain ⟨ap, aq, st4, hA⟩ : ∃ ap aq st4, rdStamp st3 = ((ap, aq), st4) := ⟨_, _, _, rfl⟩
  have H4 : Hid (rdStamp st3 = ((ap, aq), st4)) := hA
  have HL : Hid (st4.l.length ≤ st3.l.length) := by have := rdStamp_le st3; rw [hA] at this; exact this
  clear hA
  have C : Hid (1 = 1 → Calls Try.prog 35 #[.pointer (some ⟨br, 0, none⟩)] Y3 fun r w' => r = .returned (.agg #[.int .u64 (ap : Int), .int .u32 (aq : Int)]) ∧ RdAt 71 br st4 w' ∧ Sole br Y3 w') := fun _ => by
    have := stamp29 br st3 Y3 HZ3.out.r (by have := HZ3.out.len; omega)
    skip
    rw [H4.out] at this
    exact this
  have p0 : Y3.cell? ⟨be, 0, none⟩ = some (.int .i64 4) := block_cell HZ3.out.y rfl
  go_wp2_with fail
  refine (C.out (by simp)).mono ?_
  rintro r x4 ⟨rfl, hr, hs⟩
  have HX4 : Hid (Rz 71 (be + 1) w bx br be #[.int .i64 4, .int .u32 (c : Int), .int .u32 (n : Int), .int .u64 0, .int .u32 0, .int .u64 0, .int .u32 0, .int .u64 0, .int .u32 0, .string ⟨#[]⟩, .int .u8 0, .bool false, .slice none 0 0] (.slice none 0 0) [] st4 x4) := HZ3.out.rd hr hs HL.out
  clear hr hs C p0 HL HZ3 hY3 q2 f2 xw
  have q5 : x4.cell? ⟨be, 5, none⟩ = some (.int .u64 0) := block_cell HX4.out.y rfl
  have f5 : x4.frozen? ⟨be, 5, none⟩ = false := block_frozen HX4.out.y 5
  have q6 : x4.cell? ⟨be, 6, none⟩ = some (.int .u32 0) := block_cell HX4.out.y rfl
  have f6 : x4.frozen? ⟨be, 6, none⟩ = false := block_frozen HX4.out.y 6
  obtain ⟨Y4, hY4⟩ : ∃ Y4, ((x4.setCell ⟨be, 5, none⟩ (.int .u64 (ap : Int))).setCell ⟨be, 6, none⟩ (.int .u32 (aq : Int))) = Y4 := ⟨_, rfl⟩
  have HZ4 : Hid (Rz 71 (be + 1) w bx br be #[.int .i64 4, .int .u32 (c : Int), .int .u32 (n : Int), .int .u64 0, .int .u32 0, .int .u64 (ap : Int), .int .u32 (aq : Int), .int .u64 0, .int .u32 0, .string ⟨#[]⟩, .int .u8 0, .bool false, .slice none 0 0] (.slice none 0 0) [] st4 Y4) := by
    rw [← hY4]
    exact ((HX4.out.put 5 (.int .u64 (ap : Int))).put 6 (.int .u32 (aq : Int)))
  clear HX4
  have p0 : Y4.cell? ⟨be, 0, none⟩ = some (.int .i64 4) := block_cell HZ4.out.y rfl
  go_wp2_with fail
  clear p0 hY4 q5 f5 q6 f6
  go_loopw [7] (fun i wr => i = .int .i64 0 ∧ Hid (Rz 71 (be + 1) w bx br be #[.int .i64 4, .int .u32 (c : Int), .int .u32 (n : Int), .int .u64 0, .int .u32 0, .int .u64 (ap : Int), .int .u32 (aq : Int), .int .u64 0, .int .u32 0, .string ⟨#[]⟩, .int .u8 0, .bool false, .slice none 0 0] (.slice none 0 0) [] st4 wr)) (fun _ _ => 0)
  case atStart => exact ⟨rfl, HZ4.out⟩
  case round =>
    obtain ⟨rfl, HE⟩ := hrel
    clear HZ4
    have HRW : Hid (rawE s = ((En.mk 4 c n 0 0 ap aq 0 0 [] 0 false []), st4)) := by
      show _ = _
      simp [rawE, rBy, rSt, rMin, rPrim, rCnt, rAt, rPt, rDn, hasBy, hasSt, hasAt, hasPt, H1.out, H2.out, H3.out, H4.out, rWs]
    have C : Hid (1 = 1 → Calls Try.prog 39 #[.pointer (some ⟨br, 0, none⟩)] wr fun r w' => r = .returned (.int .i64 (rdEnd st4)) ∧ wr = w') := fun _ => end33 br st4 wr HE.out.r
    have p0 : wr.cell? ⟨be, 0, none⟩ = some (.int .i64 4) := block_cell HE.out.y rfl
    clear H1 H2 H3 H4
    go_wp2_with fail
    refine (C.out (by simp)).mono ?_
    rintro r w5 ⟨rfl, rfl⟩
    clear C p0 
    by_cases hz : rdEnd st4 = 0
    · rw [hz]
      have CR : Hid (1 = 1 → Calls Try.prog 19 #[.agg #[.int .i64 4, .int .u32 (c : Int), .int .u32 (n : Int), .int .u64 0, .int .u32 0, .int .u64 (ap : Int), .int .u32 (aq : Int), .int .u64 0, .int .u32 0, .string ⟨#[]⟩, .int .u8 0, .bool false, .slice none 0 0]] wr fun r w' => r = .returned (.bool (rightE (En.mk 4 c n 0 0 ap aq 0 0 [] 0 false []))) ∧ Below wr.heap.size wr w') := fun _ => right22 (En.mk 4 c n 0 0 ap aq 0 0 [] 0 false []) none 0 wr (rw_own HE.out.own)
      obtain ⟨q, hq⟩ : ∃ q, rightE (En.mk 4 c n 0 0 ap aq 0 0 [] 0 false []) = q := ⟨_, rfl⟩
      have HQQ : Hid (rightE (En.mk 4 c n 0 0 ap aq 0 0 [] 0 false []) = q) := hq
      have HZZ : Hid (rdEnd st4 = 0) := hz
      rw [hq] at CR
      clear hq hz
      obtain ⟨p0, p1, p2, p3, p4, p5, p6, p7, p8, p9, p10, p11, p12⟩ := all13 HE.out.y
      go_wp2_with fail
      refine (CR.out (by simp)).mono ?_
      rintro r w6 ⟨rfl, hb6⟩
      have H6 : Hid (Rz 71 (be + 1) w bx br be #[.int .i64 4, .int .u32 (c : Int), .int .u32 (n : Int), .int .u64 0, .int .u32 0, .int .u64 (ap : Int), .int .u32 (aq : Int), .int .u64 0, .int .u32 0, .string ⟨#[]⟩, .int .u8 0, .bool false, .slice none 0 0] (.slice none 0 0) [] st4 w6) := HE.out.on hb6
      clear hb6 CR HE p0 p1 p2 p3 p4 p5 p6 p7 p8 p9 p10 p11 p12
      cases q
      · have HNO : Hid (readE s = none) := by show _ = _; unfold readE; rw [HRW.out]; exact if_neg (fun h => by have := h.2; rw [HQQ.out] at this; cases this)
        obtain ⟨y0, y1, y2, y3, y4, y5, y6, y7, y8, y9, y10, y11, y12⟩ := all13 H6.out.x
        obtain ⟨z0, z1, z2, z3, z4, z5, z6, z7, z8, z9, z10, z11, z12⟩ := froz13 H6.out.x
        have HI : Hid _ := bx13 (.int .i64 0) (.int .u32 0) (.int .u32 0) (.int .u64 0) (.int .u32 0) (.int .u64 0) (.int .u32 0) (.int .u64 0) (.int .u32 0) (.string ⟨#[]⟩) (.int .u8 0) (.bool false) (.slice none 0 0) H6.out.x
        have HBw : Hid _ := bx13_below (.int .i64 0) (.int .u32 0) (.int .u32 0) (.int .u64 0) (.int .u32 0) (.int .u64 0) (.int .u32 0) (.int .u64 0) (.int .u32 0) (.string ⟨#[]⟩) (.int .u8 0) (.bool false) (.slice none 0 0) H6.out.bel H6.out.lx
        go_wp2_with fail
        obtain ⟨r0, r1, r2, r3, r4, r5, r6, r7, r8, r9, r10, r11, r12⟩ := all13 HI.out
        refine bodyPost_ret (v := .tuple #[.agg #[.int .i64 0, .int .u32 0, .int .u32 0, .int .u64 0, .int .u32 0, .int .u64 0, .int .u32 0, .int .u64 0, .int .u32 0, .string ⟨#[]⟩, .int .u8 0, .bool false, .slice none 0 0], .int .i64 2]) (by simp [results, Try.results13, go_sem, r0, r1, r2, r3, r4, r5, r6, r7, r8, r9, r10, r11, r12]) rfl ?_
        exact ⟨HBw.out, fun _ => rfl, fun e he => by rw [HNO.out] at he; cases he⟩
      · have HSO : Hid (readE s = some (En.mk 4 c n 0 0 ap aq 0 0 [] 0 false [])) := by show _ = _; unfold readE; rw [HRW.out]; exact if_pos ⟨HZZ.out, HQQ.out⟩
        obtain ⟨y0, y1, y2, y3, y4, y5, y6, y7, y8, y9, y10, y11, y12⟩ := all13 H6.out.x
        obtain ⟨z0, z1, z2, z3, z4, z5, z6, z7, z8, z9, z10, z11, z12⟩ := froz13 H6.out.x
        obtain ⟨x0, x1, x2, x3, x4, x5, x6, x7, x8, x9, x10, x11, x12⟩ := all13 H6.out.y
        have HI : Hid _ := bx13 (.int .i64 4) (.int .u32 (c : Int)) (.int .u32 (n : Int)) (.int .u64 0) (.int .u32 0) (.int .u64 (ap : Int)) (.int .u32 (aq : Int)) (.int .u64 0) (.int .u32 0) (.string ⟨#[]⟩) (.int .u8 0) (.bool false) (.slice none 0 0) H6.out.x
        have HBw : Hid _ := bx13_below (.int .i64 4) (.int .u32 (c : Int)) (.int .u32 (n : Int)) (.int .u64 0) (.int .u32 0) (.int .u64 (ap : Int)) (.int .u32 (aq : Int)) (.int .u64 0) (.int .u32 0) (.string ⟨#[]⟩) (.int .u8 0) (.bool false) (.slice none 0 0) H6.out.bel H6.out.lx
        have HKp : Hid _ := bx13_kept (b := bx) (W := w6) (.int .i64 4) (.int .u32 (c : Int)) (.int .u32 (n : Int)) (.int .u64 0) (.int .u32 0) (.int .u64 (ap : Int)) (.int .u32 (aq : Int)) (.int .u64 0) (.int .u32 0) (.string ⟨#[]⟩) (.int .u8 0) (.bool false) (.slice none 0 0)
        go_wp2_with fail
        obtain ⟨r0, r1, r2, r3, r4, r5, r6, r7, r8, r9, r10, r11, r12⟩ := all13 HI.out
        refine bodyPost_ret (v := .tuple #[.agg #[.int .i64 4, .int .u32 (c : Int), .int .u32 (n : Int), .int .u64 0, .int .u32 0, .int .u64 (ap : Int), .int .u32 (aq : Int), .int .u64 0, .int .u32 0, .string ⟨#[]⟩, .int .u8 0, .bool false, .slice none 0 0], .int .i64 0]) (by simp [results, Try.results13, go_sem, r0, r1, r2, r3, r4, r5, r6, r7, r8, r9, r10, r11, r12]) rfl ?_
        unfold RdPost
        refine ⟨HBw.out, fun hn => absurd (HSO.out.symm.trans hn) (by simp), fun e he => ?_⟩
        rw [HSO.out] at he
        cases he
        exact ⟨none, 0, rfl, rw_own (own_kept H6.out.own HKp.out (fun k hk hf => by have h1 := H6.out.ob k hk; have h2 := H6.out.xb; omega))⟩
    · have HNO : Hid (readE s = none) := by show _ = _; unfold readE; rw [HRW.out]; exact if_neg (fun h => hz h.1)
      have hz1 : ¬ ((rdEnd st4 : Nat) : Int) = 0 := by omega
      obtain ⟨y0, y1, y2, y3, y4, y5, y6, y7, y8, y9, y10, y11, y12⟩ := all13 HE.out.x
      obtain ⟨z0, z1, z2, z3, z4, z5, z6, z7, z8, z9, z10, z11, z12⟩ := froz13 HE.out.x
      have HI : Hid _ := bx13 (.int .i64 0) (.int .u32 0) (.int .u32 0) (.int .u64 0) (.int .u32 0) (.int .u64 0) (.int .u32 0) (.int .u64 0) (.int .u32 0) (.string ⟨#[]⟩) (.int .u8 0) (.bool false) (.slice none 0 0) HE.out.x
      have HBw : Hid _ := bx13_below (.int .i64 0) (.int .u32 0) (.int .u32 0) (.int .u64 0) (.int .u32 0) (.int .u64 0) (.int .u32 0) (.int .u64 0) (.int .u32 0) (.string ⟨#[]⟩) (.int .u8 0) (.bool false) (.slice none 0 0) HE.out.bel HE.out.lx
      go_wp2_with fail
      obtain ⟨r0, r1, r2, r3, r4, r5, r6, r7, r8, r9, r10, r11, r12⟩ := all13 HI.out
      refine bodyPost_ret (v := .tuple #[.agg #[.int .i64 0, .int .u32 0, .int .u32 0, .int .u64 0, .int .u32 0, .int .u64 0, .int .u32 0, .int .u64 0, .int .u32 0, .string ⟨#[]⟩, .int .u8 0, .bool false, .slice none 0 0], .int .i64 2]) (by simp [results, Try.results13, go_sem, r0, r1, r2, r3, r4, r5, r6, r7, r8, r9, r10, r11, r12]) rfl ?_
      exact ⟨HBw.out, fun _ => rfl, fun e he => by rw [HNO.out] at he; cases he⟩
end Go.Proofs.Ytmgjlpgjjeknpaa

namespace Go.Proofs.Ytmgjlpgjjeknpaa
open Go.RowKit Go.Sort

set_option maxHeartbeats 3200000 in
set_option maxRecDepth 100000 in
theorem rd13_5 (s : List UInt8) (w : World) (hl : s.length < 4611686018427387904) (hk : (rdNum 9 ⟨s, 0⟩).1 = 5) : Calls Try.prog 13 #[.string (bs s)] w (RdPost s w) := by
  have HW : Hid _ := @rz_new w s hl
  obtain ⟨W1, hW1⟩ : ∃ W1, w.alloc (.cells #[.int .i64 0, .int .u32 0, .int .u32 0, .int .u64 0, .int .u32 0, .int .u64 0, .int .u32 0, .int .u64 0, .int .u32 0, .string ⟨#[]⟩, .int .u8 0, .bool false, .slice none 0 0] 30) = W1 := ⟨_, rfl⟩
  obtain ⟨W2, hW2⟩ : ∃ W2, W1.alloc (.cells #[.string (bs s), .int .i64 0] 71) = W2 := ⟨_, rfl⟩
  have s1 : W1.heap.size = w.heap.size + 1 := by rw [← hW1]; simp
  obtain ⟨bx, hbx⟩ : ∃ b, w.heap.size = b := ⟨_, rfl⟩
  obtain ⟨br, hbr⟩ : ∃ b, W1.heap.size = b := ⟨_, rfl⟩
  have R2 : Hid (RdAt 71 br ⟨s, 0⟩ W2) := by
    show _ = _
    rw [← hW2, ← hbr]
    exact heap_alloc_new W1 _
  have HW2 : Hid ((w.alloc (.cells #[.int .i64 0, .int .u32 0, .int .u32 0, .int .u64 0, .int .u32 0, .int .u64 0, .int .u32 0, .int .u64 0, .int .u32 0, .string ⟨#[]⟩, .int .u8 0, .bool false, .slice none 0 0] 30)).alloc (.cells #[.string (bs s), .int .i64 0] 71) = W2) := by
    show _ = _
    rw [hW1]
    exact hW2
  have Hbx : Hid (w.heap.size = bx) := hbx
  have Hbr : Hid (w.heap.size + 1 = br) := by show _ = _; rw [← hbr, s1]
  have hle := rdNum_le 9 ⟨s, 0⟩
  obtain ⟨st1, hst1⟩ : ∃ x, (rdNum 9 ⟨s, 0⟩).2 = x := ⟨_, rfl⟩
  have H1 : Hid (rdNum 9 ⟨s, 0⟩ = (5, st1)) := Prod.ext hk hst1
  have HL : Hid (st1.l.length ≤ s.length) := by rw [← hst1]; exact hle.2.1
  have C : Hid (1 = 1 → Calls Try.prog 34 #[.pointer (some ⟨br, 0, none⟩), .int .u64 9] W2 fun r w' => r = .returned (.int .u64 5) ∧ RdAt 71 br st1 w' ∧ Sole br W2 w') := fun _ => by
    have := num26 br ⟨s, 0⟩ 9 W2 R2.out (by show s.length < _; omega)
    rw [H1.out] at this
    exact this
  clear hle hst1 hk s1 R2
  go_enter Try.func13, Try.ntmps13
  go_wp2_with fail
  refine (C.out (by simp)).mono ?_
  rintro r w1 ⟨rfl, hr, hs⟩
  have HZ : Hid _ := HW.out HW2.out (by rw [Hbr.out]; exact hr) (by rw [Hbr.out]; exact hs) HL.out #[.int .i64 5, .int .u32 0, .int .u32 0, .int .u64 0, .int .u32 0, .int .u64 0, .int .u32 0, .int .u64 0, .int .u32 0, .string ⟨#[]⟩, .int .u8 0, .bool false, .slice none 0 0]
  clear hr hs C hW1 hW2 hbr HW
  go_upto_region 3 with fail
  obtain ⟨Y0, hY0⟩ : ∃ Y0, w1.alloc (.cells #[.int .i64 5, .int .u32 0, .int .u32 0, .int .u64 0, .int .u32 0, .int .u64 0, .int .u32 0, .int .u64 0, .int .u32 0, .string ⟨#[]⟩, .int .u8 0, .bool false, .slice none 0 0] 30) = Y0 := ⟨_, rfl⟩
  obtain ⟨be, hbe⟩ : ∃ b, w1.heap.size = b := ⟨_, rfl⟩
  have HZ0 : Hid (Rz 71 (be + 1) w bx br be #[.int .i64 5, .int .u32 0, .int .u32 0, .int .u64 0, .int .u32 0, .int .u64 0, .int .u32 0, .int .u64 0, .int .u32 0, .string ⟨#[]⟩, .int .u8 0, .bool false, .slice none 0 0] (.slice none 0 0) [] st1 Y0) := by
    rw [← hY0, ← hbe, ← Hbr.out, ← Hbx.out]
    exact HZ.out
  rw [hY0, hbe]
  clear HZ HW2 hbx HL hY0 hbe
  obtain ⟨c, st2, hA⟩ : ∃ c st2, rdNum 4294967295 st1 = (c, st2) := ⟨_, _, rfl⟩
  have H2 : Hid (rdNum 4294967295 st1 = (c, st2)) := hA
  have HL : Hid (st2.l.length ≤ st1.l.length) := by have := (rdNum_le 4294967295 st1).2.1; rw [hA] at this; exact this
  have bd2 : c ≤ 4294967295 := by have := (rdNum_le 4294967295 st1).1; rw [hA] at this; exact this
  clear hA
  have C : Hid (1 = 1 → Calls Try.prog 34 #[.pointer (some ⟨br, 0, none⟩), .int .u64 4294967295] Y0 fun r w' => r = .returned (.int .u64 (c : Int)) ∧ RdAt 71 br st2 w' ∧ Sole br Y0 w') := fun _ => by
    have := num26 br st1 4294967295 Y0 HZ0.out.r (by have := HZ0.out.len; omega)
    skip
    rw [H2.out] at this
    exact this
  have p0 : Y0.cell? ⟨be, 0, none⟩ = some (.int .i64 5) := block_cell HZ0.out.y rfl
  go_wp2_with fail
  refine (C.out (by simp)).mono ?_
  rintro r x2 ⟨rfl, hr, hs⟩
  have HX2 : Hid (Rz 71 (be + 1) w bx br be #[.int .i64 5, .int .u32 0, .int .u32 0, .int .u64 0, .int .u32 0, .int .u64 0, .int .u32 0, .int .u64 0, .int .u32 0, .string ⟨#[]⟩, .int .u8 0, .bool false, .slice none 0 0] (.slice none 0 0) [] st2 x2) := HZ0.out.rd hr hs HL.out
  clear hr hs C p0 HL HZ0 
  have xw := u32w bd2
  have q1 : x2.cell? ⟨be, 1, none⟩ = some (.int .u32 0) := block_cell HX2.out.y rfl
  have f1 : x2.frozen? ⟨be, 1, none⟩ = false := block_frozen HX2.out.y 1
  obtain ⟨Y2, hY2⟩ : ∃ Y2, (x2.setCell ⟨be, 1, none⟩ (.int .u32 (c : Int))) = Y2 := ⟨_, rfl⟩
  have HZ2 : Hid (Rz 71 (be + 1) w bx br be #[.int .i64 5, .int .u32 (c : Int), .int .u32 0, .int .u64 0, .int .u32 0, .int .u64 0, .int .u32 0, .int .u64 0, .int .u32 0, .string ⟨#[]⟩, .int .u8 0, .bool false, .slice none 0 0] (.slice none 0 0) [] st2 Y2) := by
    rw [← hY2]
    exact (HX2.out.put 1 (.int .u32 (c : Int)))
  clear HX2
  obtain ⟨n, st3, hA⟩ : ∃ n st3, rdNum 4294967295 st2 = (n, st3) := ⟨_, _, rfl⟩
  have H3 : Hid (rdNum 4294967295 st2 = (n, st3)) := hA
  have HL : Hid (st3.l.length ≤ st2.l.length) := by have := (rdNum_le 4294967295 st2).2.1; rw [hA] at this; exact this
  have bd3 : n ≤ 4294967295 := by have := (rdNum_le 4294967295 st2).1; rw [hA] at this; exact this
  clear hA
  have C : Hid (1 = 1 → Calls Try.prog 34 #[.pointer (some ⟨br, 0, none⟩), .int .u64 4294967295] Y2 fun r w' => r = .returned (.int .u64 (n : Int)) ∧ RdAt 71 br st3 w' ∧ Sole br Y2 w') := fun _ => by
    have := num26 br st2 4294967295 Y2 HZ2.out.r (by have := HZ2.out.len; omega)
    skip
    rw [H3.out] at this
    exact this
  have p0 : Y2.cell? ⟨be, 0, none⟩ = some (.int .i64 5) := block_cell HZ2.out.y rfl
  go_wp2_with fail
  refine (C.out (by simp)).mono ?_
  rintro r x3 ⟨rfl, hr, hs⟩
  have HX3 : Hid (Rz 71 (be + 1) w bx br be #[.int .i64 5, .int .u32 (c : Int), .int .u32 0, .int .u64 0, .int .u32 0, .int .u64 0, .int .u32 0, .int .u64 0, .int .u32 0, .string ⟨#[]⟩, .int .u8 0, .bool false, .slice none 0 0] (.slice none 0 0) [] st3 x3) := HZ2.out.rd hr hs HL.out
  clear hr hs C p0 HL HZ2 hY2 q1 f1 xw
  have xw := u32w bd3
  have q2 : x3.cell? ⟨be, 2, none⟩ = some (.int .u32 0) := block_cell HX3.out.y rfl
  have f2 : x3.frozen? ⟨be, 2, none⟩ = false := block_frozen HX3.out.y 2
  obtain ⟨Y3, hY3⟩ : ∃ Y3, (x3.setCell ⟨be, 2, none⟩ (.int .u32 (n : Int))) = Y3 := ⟨_, rfl⟩
  have HZ3 : Hid (Rz 71 (be + 1) w bx br be #[.int .i64 5, .int .u32 (c : Int), .int .u32 (n : Int), .int .u64 0, .int .u32 0, .int .u64 0, .int .u32 0, .int .u64 0, .int .u32 0, .string ⟨#[]⟩, .int .u8 0, .bool false, .slice none 0 0] (.slice none 0 0) [] st3 Y3) := by
    rw [← hY3]
    exact (HX3.out.put 2 (.int .u32 (n : Int)))
  clear HX3
  obtain ⟨sp, sq, st4, hA⟩ : ∃ sp sq st4, rdStamp st3 = ((sp, sq), st4) := ⟨_, _, _, rfl⟩
  have H4 : Hid (rdStamp st3 = ((sp, sq), st4)) := hA
  have HL : Hid (st4.l.length ≤ st3.l.length) := by have := rdStamp_le st3; rw [hA] at this; exact this
  clear hA
  have C : Hid (1 = 1 → Calls Try.prog 35 #[.pointer (some ⟨br, 0, none⟩)] Y3 fun r w' => r = .returned (.agg #[.int .u64 (sp : Int), .int .u32 (sq : Int)]) ∧ RdAt 71 br st4 w' ∧ Sole br Y3 w') := fun _ => by
    have := stamp29 br st3 Y3 HZ3.out.r (by have := HZ3.out.len; omega)
    skip
    rw [H4.out] at this
    exact this
  have p0 : Y3.cell? ⟨be, 0, none⟩ = some (.int .i64 5) := block_cell HZ3.out.y rfl
  go_wp2_with fail
  refine (C.out (by simp)).mono ?_
  rintro r x4 ⟨rfl, hr, hs⟩
  have HX4 : Hid (Rz 71 (be + 1) w bx br be #[.int .i64 5, .int .u32 (c : Int), .int .u32 (n : Int), .int .u64 0, .int .u32 0, .int .u64 0, .int .u32 0, .int .u64 0, .int .u32 0, .string ⟨#[]⟩, .int .u8 0, .bool false, .slice none 0 0] (.slice none 0 0) [] st4 x4) := HZ3.out.rd hr hs HL.out
  clear hr hs C p0 HL HZ3 hY3 q2 f2 xw
  have q3 : x4.cell? ⟨be, 3, none⟩ = some (.int .u64 0) := block_cell HX4.out.y rfl
  have f3 : x4.frozen? ⟨be, 3, none⟩ = false := block_frozen HX4.out.y 3
  have q4 : x4.cell? ⟨be, 4, none⟩ = some (.int .u32 0) := block_cell HX4.out.y rfl
  have f4 : x4.frozen? ⟨be, 4, none⟩ = false := block_frozen HX4.out.y 4
  obtain ⟨Y4, hY4⟩ : ∃ Y4, ((x4.setCell ⟨be, 3, none⟩ (.int .u64 (sp : Int))).setCell ⟨be, 4, none⟩ (.int .u32 (sq : Int))) = Y4 := ⟨_, rfl⟩
  have HZ4 : Hid (Rz 71 (be + 1) w bx br be #[.int .i64 5, .int .u32 (c : Int), .int .u32 (n : Int), .int .u64 (sp : Int), .int .u32 (sq : Int), .int .u64 0, .int .u32 0, .int .u64 0, .int .u32 0, .string ⟨#[]⟩, .int .u8 0, .bool false, .slice none 0 0] (.slice none 0 0) [] st4 Y4) := by
    rw [← hY4]
    exact ((HX4.out.put 3 (.int .u64 (sp : Int))).put 4 (.int .u32 (sq : Int)))
  clear HX4
  have p0 : Y4.cell? ⟨be, 0, none⟩ = some (.int .i64 5) := block_cell HZ4.out.y rfl
  go_wp2_with fail
  clear p0 hY4 q3 f3 q4 f4
  go_loopw [7] (fun i wr => i = .int .i64 0 ∧ Hid (Rz 71 (be + 1) w bx br be #[.int .i64 5, .int .u32 (c : Int), .int .u32 (n : Int), .int .u64 (sp : Int), .int .u32 (sq : Int), .int .u64 0, .int .u32 0, .int .u64 0, .int .u32 0, .string ⟨#[]⟩, .int .u8 0, .bool false, .slice none 0 0] (.slice none 0 0) [] st4 wr)) (fun _ _ => 0)
  case atStart => exact ⟨rfl, HZ4.out⟩
  case round =>
    obtain ⟨rfl, HE⟩ := hrel
    clear HZ4
    have HRW : Hid (rawE s = ((En.mk 5 c n sp sq 0 0 0 0 [] 0 false []), st4)) := by
      show _ = _
      simp [rawE, rBy, rSt, rMin, rPrim, rCnt, rAt, rPt, rDn, hasBy, hasSt, hasAt, hasPt, H1.out, H2.out, H3.out, H4.out, rWs]
    have C : Hid (1 = 1 → Calls Try.prog 39 #[.pointer (some ⟨br, 0, none⟩)] wr fun r w' => r = .returned (.int .i64 (rdEnd st4)) ∧ wr = w') := fun _ => end33 br st4 wr HE.out.r
    have p0 : wr.cell? ⟨be, 0, none⟩ = some (.int .i64 5) := block_cell HE.out.y rfl
    clear H1 H2 H3 H4
    go_wp2_with fail
    refine (C.out (by simp)).mono ?_
    rintro r w5 ⟨rfl, rfl⟩
    clear C p0 
    by_cases hz : rdEnd st4 = 0
    · rw [hz]
      have CR : Hid (1 = 1 → Calls Try.prog 19 #[.agg #[.int .i64 5, .int .u32 (c : Int), .int .u32 (n : Int), .int .u64 (sp : Int), .int .u32 (sq : Int), .int .u64 0, .int .u32 0, .int .u64 0, .int .u32 0, .string ⟨#[]⟩, .int .u8 0, .bool false, .slice none 0 0]] wr fun r w' => r = .returned (.bool (rightE (En.mk 5 c n sp sq 0 0 0 0 [] 0 false []))) ∧ Below wr.heap.size wr w') := fun _ => right22 (En.mk 5 c n sp sq 0 0 0 0 [] 0 false []) none 0 wr (rw_own HE.out.own)
      obtain ⟨q, hq⟩ : ∃ q, rightE (En.mk 5 c n sp sq 0 0 0 0 [] 0 false []) = q := ⟨_, rfl⟩
      have HQQ : Hid (rightE (En.mk 5 c n sp sq 0 0 0 0 [] 0 false []) = q) := hq
      have HZZ : Hid (rdEnd st4 = 0) := hz
      rw [hq] at CR
      clear hq hz
      obtain ⟨p0, p1, p2, p3, p4, p5, p6, p7, p8, p9, p10, p11, p12⟩ := all13 HE.out.y
      go_wp2_with fail
      refine (CR.out (by simp)).mono ?_
      rintro r w6 ⟨rfl, hb6⟩
      have H6 : Hid (Rz 71 (be + 1) w bx br be #[.int .i64 5, .int .u32 (c : Int), .int .u32 (n : Int), .int .u64 (sp : Int), .int .u32 (sq : Int), .int .u64 0, .int .u32 0, .int .u64 0, .int .u32 0, .string ⟨#[]⟩, .int .u8 0, .bool false, .slice none 0 0] (.slice none 0 0) [] st4 w6) := HE.out.on hb6
      clear hb6 CR HE p0 p1 p2 p3 p4 p5 p6 p7 p8 p9 p10 p11 p12
      cases q
      · have HNO : Hid (readE s = none) := by show _ = _; unfold readE; rw [HRW.out]; exact if_neg (fun h => by have := h.2; rw [HQQ.out] at this; cases this)
        obtain ⟨y0, y1, y2, y3, y4, y5, y6, y7, y8, y9, y10, y11, y12⟩ := all13 H6.out.x
        obtain ⟨z0, z1, z2, z3, z4, z5, z6, z7, z8, z9, z10, z11, z12⟩ := froz13 H6.out.x
        have HI : Hid _ := bx13 (.int .i64 0) (.int .u32 0) (.int .u32 0) (.int .u64 0) (.int .u32 0) (.int .u64 0) (.int .u32 0) (.int .u64 0) (.int .u32 0) (.string ⟨#[]⟩) (.int .u8 0) (.bool false) (.slice none 0 0) H6.out.x
        have HBw : Hid _ := bx13_below (.int .i64 0) (.int .u32 0) (.int .u32 0) (.int .u64 0) (.int .u32 0) (.int .u64 0) (.int .u32 0) (.int .u64 0) (.int .u32 0) (.string ⟨#[]⟩) (.int .u8 0) (.bool false) (.slice none 0 0) H6.out.bel H6.out.lx
        go_wp2_with fail
        obtain ⟨r0, r1, r2, r3, r4, r5, r6, r7, r8, r9, r10, r11, r12⟩ := all13 HI.out
        refine bodyPost_ret (v := .tuple #[.agg #[.int .i64 0, .int .u32 0, .int .u32 0, .int .u64 0, .int .u32 0, .int .u64 0, .int .u32 0, .int .u64 0, .int .u32 0, .string ⟨#[]⟩, .int .u8 0, .bool false, .slice none 0 0], .int .i64 2]) (by simp [results, Try.results13, go_sem, r0, r1, r2, r3, r4, r5, r6, r7, r8, r9, r10, r11, r12]) rfl ?_
        exact ⟨HBw.out, fun _ => rfl, fun e he => by rw [HNO.out] at he; cases he⟩
      · have HSO : Hid (readE s = some (En.mk 5 c n sp sq 0 0 0 0 [] 0 false [])) := by show _ = _; unfold readE; rw [HRW.out]; exact if_pos ⟨HZZ.out, HQQ.out⟩
        obtain ⟨y0, y1, y2, y3, y4, y5, y6, y7, y8, y9, y10, y11, y12⟩ := all13 H6.out.x
        obtain ⟨z0, z1, z2, z3, z4, z5, z6, z7, z8, z9, z10, z11, z12⟩ := froz13 H6.out.x
        obtain ⟨x0, x1, x2, x3, x4, x5, x6, x7, x8, x9, x10, x11, x12⟩ := all13 H6.out.y
        have HI : Hid _ := bx13 (.int .i64 5) (.int .u32 (c : Int)) (.int .u32 (n : Int)) (.int .u64 (sp : Int)) (.int .u32 (sq : Int)) (.int .u64 0) (.int .u32 0) (.int .u64 0) (.int .u32 0) (.string ⟨#[]⟩) (.int .u8 0) (.bool false) (.slice none 0 0) H6.out.x
        have HBw : Hid _ := bx13_below (.int .i64 5) (.int .u32 (c : Int)) (.int .u32 (n : Int)) (.int .u64 (sp : Int)) (.int .u32 (sq : Int)) (.int .u64 0) (.int .u32 0) (.int .u64 0) (.int .u32 0) (.string ⟨#[]⟩) (.int .u8 0) (.bool false) (.slice none 0 0) H6.out.bel H6.out.lx
        have HKp : Hid _ := bx13_kept (b := bx) (W := w6) (.int .i64 5) (.int .u32 (c : Int)) (.int .u32 (n : Int)) (.int .u64 (sp : Int)) (.int .u32 (sq : Int)) (.int .u64 0) (.int .u32 0) (.int .u64 0) (.int .u32 0) (.string ⟨#[]⟩) (.int .u8 0) (.bool false) (.slice none 0 0)
        go_wp2_with fail
        obtain ⟨r0, r1, r2, r3, r4, r5, r6, r7, r8, r9, r10, r11, r12⟩ := all13 HI.out
        refine bodyPost_ret (v := .tuple #[.agg #[.int .i64 5, .int .u32 (c : Int), .int .u32 (n : Int), .int .u64 (sp : Int), .int .u32 (sq : Int), .int .u64 0, .int .u32 0, .int .u64 0, .int .u32 0, .string ⟨#[]⟩, .int .u8 0, .bool false, .slice none 0 0], .int .i64 0]) (by simp [results, Try.results13, go_sem, r0, r1, r2, r3, r4, r5, r6, r7, r8, r9, r10, r11, r12]) rfl ?_
        unfold RdPost
        refine ⟨HBw.out, fun hn => absurd (HSO.out.symm.trans hn) (by simp), fun e he => ?_⟩
        rw [HSO.out] at he
        cases he
        exact ⟨none, 0, rfl, rw_own (own_kept H6.out.own HKp.out (fun k hk hf => by have h1 := H6.out.ob k hk; have h2 := H6.out.xb; omega))⟩
    · have HNO : Hid (readE s = none) := by show _ = _; unfold readE; rw [HRW.out]; exact if_neg (fun h => hz h.1)
      have hz1 : ¬ ((rdEnd st4 : Nat) : Int) = 0 := by omega
      obtain ⟨y0, y1, y2, y3, y4, y5, y6, y7, y8, y9, y10, y11, y12⟩ := all13 HE.out.x
      obtain ⟨z0, z1, z2, z3, z4, z5, z6, z7, z8, z9, z10, z11, z12⟩ := froz13 HE.out.x
      have HI : Hid _ := bx13 (.int .i64 0) (.int .u32 0) (.int .u32 0) (.int .u64 0) (.int .u32 0) (.int .u64 0) (.int .u32 0) (.int .u64 0) (.int .u32 0) (.string ⟨#[]⟩) (.int .u8 0) (.bool false) (.slice none 0 0) HE.out.x
      have HBw : Hid _ := bx13_below (.int .i64 0) (.int .u32 0) (.int .u32 0) (.int .u64 0) (.int .u32 0) (.int .u64 0) (.int .u32 0) (.int .u64 0) (.int .u32 0) (.string ⟨#[]⟩) (.int .u8 0) (.bool false) (.slice none 0 0) HE.out.bel HE.out.lx
      go_wp2_with fail
      obtain ⟨r0, r1, r2, r3, r4, r5, r6, r7, r8, r9, r10, r11, r12⟩ := all13 HI.out
      refine bodyPost_ret (v := .tuple #[.agg #[.int .i64 0, .int .u32 0, .int .u32 0, .int .u64 0, .int .u32 0, .int .u64 0, .int .u32 0, .int .u64 0, .int .u32 0, .string ⟨#[]⟩, .int .u8 0, .bool false, .slice none 0 0], .int .i64 2]) (by simp [results, Try.results13, go_sem, r0, r1, r2, r3, r4, r5, r6, r7, r8, r9, r10, r11, r12]) rfl ?_
      exact ⟨HBw.out, fun _ => rfl, fun e he => by rw [HNO.out] at he; cases he⟩
end Go.Proofs.Ytmgjlpgjjeknpaa

namespace Go.Proofs.Ytmgjlpgjjeknpaa
open Go.RowKit Go.Sort

set_option maxHeartbeats 3200000 in
set_option maxRecDepth 100000 in
theorem rd13_3 (s : List UInt8) (w : World) (hl : s.length < 4611686018427387904) (hk : (rdNum 9 ⟨s, 0⟩).1 = 3) : Calls Try.prog 13 #[.string (bs s)] w (RdPost s w) := by
  have HW : Hid _ := @rz_new w s hl
  obtain ⟨W1, hW1⟩ : ∃ W1, w.alloc (.cells #[.int .i64 0, .int .u32 0, .int .u32 0, .int .u64 0, .int .u32 0, .int .u64 0, .int .u32 0, .int .u64 0, .int .u32 0, .string ⟨#[]⟩, .int .u8 0, .bool false, .slice none 0 0] 30) = W1 := ⟨_, rfl⟩
  obtain ⟨W2, hW2⟩ : ∃ W2, W1.alloc (.cells #[.string (bs s), .int .i64 0] 71) = W2 := ⟨_, rfl⟩
  have s1 : W1.heap.size = w.heap.size + 1 := by rw [← hW1]; simp
  obtain ⟨bx, hbx⟩ : ∃ b, w.heap.size = b := ⟨_, rfl⟩
  obtain ⟨br, hbr⟩ : ∃ b, W1.heap.size = b := ⟨_, rfl⟩
  have R2 : Hid (RdAt 71 br ⟨s, 0⟩ W2) := by
    show _ = _
    rw [← hW2, ← hbr]
    exact heap_alloc_new W1 _
  have HW2 : Hid ((w.alloc (.cells #[.int .i64 0, .int .u32 0, .int .u32 0, .int .u64 0, .int .u32 0, .int .u64 0, .int .u32 0, .int .u64 0, .int .u32 0, .string ⟨#[]⟩, .int .u8 0, .bool false, .slice none 0 0] 30)).alloc (.cells #[.string (bs s), .int .i64 0] 71) = W2) := by
    show _ = _
    rw [hW1]
    exact hW2
  have Hbx : Hid (w.heap.size = bx) := hbx
  have Hbr : Hid (w.heap.size + 1 = br) := by show _ = _; rw [← hbr, s1]
  have hle := rdNum_le 9 ⟨s, 0⟩
  obtain ⟨st1, hst1⟩ : ∃ x, (rdNum 9 ⟨s, 0⟩).2 = x := ⟨_, rfl⟩
  have H1 : Hid (rdNum 9 ⟨s, 0⟩ = (3, st1)) := Prod.ext hk hst1
  have HL : Hid (st1.l.length ≤ s.length) := by rw [← hst1]; exact hle.2.1
  have C : Hid (1 = 1 → Calls Try.prog 34 #[.pointer (some ⟨br, 0, none⟩), .int .u64 9] W2 fun r w' => r = .returned (.int .u64 3) ∧ RdAt 71 br st1 w' ∧ Sole br W2 w') := fun _ => by
    have := num26 br ⟨s, 0⟩ 9 W2 R2.out (by show s.length < _; omega)
    rw [H1.out] at this
    exact this
  clear hle hst1 hk s1 R2
  go_enter Try.func13, Try.ntmps13
  go_wp2_with fail
  refine (C.out (by simp)).mono ?_
  rintro r w1 ⟨rfl, hr, hs⟩
  have HZ : Hid _ := HW.out HW2.out (by rw [Hbr.out]; exact hr) (by rw [Hbr.out]; exact hs) HL.out #[.int .i64 3, .int .u32 0, .int .u32 0, .int .u64 0, .int .u32 0, .int .u64 0, .int .u32 0, .int .u64 0, .int .u32 0, .string ⟨#[]⟩, .int .u8 0, .bool false, .slice none 0 0]
  clear hr hs C hW1 hW2 hbr HW
  go_upto_region 3 with fail
  obtain ⟨Y0, hY0⟩ : ∃ Y0, w1.alloc (.cells #[.int .i64 3, .int .u32 0, .int .u32 0, .int .u64 0, .int .u32 0, .int .u64 0, .int .u32 0, .int .u64 0, .int .u32 0, .string ⟨#[]⟩, .int .u8 0, .bool false, .slice none 0 0] 30) = Y0 := ⟨_, rfl⟩
  obtain ⟨be, hbe⟩ : ∃ b, w1.heap.size = b := ⟨_, rfl⟩
  have HZ0 : Hid (Rz 71 (be + 1) w bx br be #[.int .i64 3, .int .u32 0, .int .u32 0, .int .u64 0, .int .u32 0, .int .u64 0, .int .u32 0, .int .u64 0, .int .u32 0, .string ⟨#[]⟩, .int .u8 0, .bool false, .slice none 0 0] (.slice none 0 0) [] st1 Y0) := by
    rw [← hY0, ← hbe, ← Hbr.out, ← Hbx.out]
    exact HZ.out
  rw [hY0, hbe]
  clear HZ HW2 hbx HL hY0 hbe
  obtain ⟨c, st2, hA⟩ : ∃ c st2, rdNum 4294967295 st1 = (c, st2) := ⟨_, _, rfl⟩
  have H2 : Hid (rdNum 4294967295 st1 = (c, st2)) := hA
  have HL : Hid (st2.l.length ≤ st1.l.length) := by have := (rdNum_le 4294967295 st1).2.1; rw [hA] at this; exact this
  have bd2 : c ≤ 4294967295 := by have := (rdNum_le 4294967295 st1).1; rw [hA] at this; exact this
  clear hA
  have C : Hid (1 = 1 → Calls Try.prog 34 #[.pointer (some ⟨br, 0, none⟩), .int .u64 4294967295] Y0 fun r w' => r = .returned (.int .u64 (c : Int)) ∧ RdAt 71 br st2 w' ∧ Sole br Y0 w') := fun _ => by
    have := num26 br st1 4294967295 Y0 HZ0.out.r (by have := HZ0.out.len; omega)
    skip
    rw [H2.out] at this
    exact this
  have p0 : Y0.cell? ⟨be, 0, none⟩ = some (.int .i64 3) := block_cell HZ0.out.y rfl
  go_wp2_with fail
  refine (C.out (by simp)).mono ?_
  rintro r x2 ⟨rfl, hr, hs⟩
  have HX2 : Hid (Rz 71 (be + 1) w bx br be #[.int .i64 3, .int .u32 0, .int .u32 0, .int .u64 0, .int .u32 0, .int .u64 0, .int .u32 0, .int .u64 0, .int .u32 0, .string ⟨#[]⟩, .int .u8 0, .bool false, .slice none 0 0] (.slice none 0 0) [] st2 x2) := HZ0.out.rd hr hs HL.out
  clear hr hs C p0 HL HZ0 
  have xw := u32w bd2
  have q1 : x2.cell? ⟨be, 1, none⟩ = some (.int .u32 0) := block_cell HX2.out.y rfl
  have f1 : x2.frozen? ⟨be, 1, none⟩ = false := block_frozen HX2.out.y 1
  obtain ⟨Y2, hY2⟩ : ∃ Y2, (x2.setCell ⟨be, 1, none⟩ (.int .u32 (c : Int))) = Y2 := ⟨_, rfl⟩
  have HZ2 : Hid (Rz 71 (be + 1) w bx br be #[.int .i64 3, .int .u32 (c : Int), .int .u32 0, .int .u64 0, .int .u32 0, .int .u64 0, .int .u32 0, .int .u64 0, .int .u32 0, .string ⟨#[]⟩, .int .u8 0, .bool false, .slice none 0 0] (.slice none 0 0) [] st2 Y2) := by
    rw [← hY2]
    exact (HX2.out.put 1 (.int .u32 (c : Int)))
  clear HX2
  obtain ⟨n, st3, hA⟩ : ∃ n st3, rdNum 4294967295 st2 = (n, st3) := ⟨_, _, rfl⟩
  have H3 : Hid (rdNum 4294967295 st2 = (n, st3)) := hA
  have HL : Hid (st3.l.length ≤ st2.l.length) := by have := (rdNum_le 4294967295 st2).2.1; rw [hA] at this; exact this
  have bd3 : n ≤ 4294967295 := by have := (rdNum_le 4294967295 st2).1; rw [hA] at this; exact this
  clear hA
  have C : Hid (1 = 1 → Calls Try.prog 34 #[.pointer (some ⟨br, 0, none⟩), .int .u64 4294967295] Y2 fun r w' => r = .returned (.int .u64 (n : Int)) ∧ RdAt 71 br st3 w' ∧ Sole br Y2 w') := fun _ => by
    have := num26 br st2 4294967295 Y2 HZ2.out.r (by have := HZ2.out.len; omega)
    skip
    rw [H3.out] at this
    exact this
  have p0 : Y2.cell? ⟨be, 0, none⟩ = some (.int .i64 3) := block_cell HZ2.out.y rfl
  go_wp2_with fail
  refine (C.out (by simp)).mono ?_
  rintro r x3 ⟨rfl, hr, hs⟩
  have HX3 : Hid (Rz 71 (be + 1) w bx br be #[.int .i64 3, .int .u32 (c : Int), .int .u32 0, .int .u64 0, .int .u32 0, .int .u64 0, .int .u32 0, .int .u64 0, .int .u32 0, .string ⟨#[]⟩, .int .u8 0, .bool false, .slice none 0 0] (.slice none 0 0) [] st3 x3) := HZ2.out.rd hr hs HL.out
  clear hr hs C p0 HL HZ2 hY2 q1 f1 xw
  have xw := u32w bd3
  have q2 : x3.cell? ⟨be, 2, none⟩ = some (.int .u32 0) := block_cell HX3.out.y rfl
  have f2 : x3.frozen? ⟨be, 2, none⟩ = false := block_frozen HX3.out.y 2
  obtain ⟨Y3, hY3⟩ : ∃ Y3, (x3.setCell ⟨be, 2, none⟩ (.int .u32 (n : Int))) = Y3 := ⟨_, rfl⟩
  have HZ3 : Hid (Rz 71 (be + 1) w bx br be #[.int .i64 3, .int .u32 (c : Int), .int .u32 (n : Int), .int .u64 0, .int .u32 0, .int .u64 0, .int .u32 0, .int .u64 0, .int .u32 0, .string ⟨#[]⟩, .int .u8 0, .bool false, .slice none 0 0] (.slice none 0 0) [] st3 Y3) := by
    rw [← hY3]
    exact (HX3.out.put 2 (.int .u32 (n : Int)))
  clear HX3
  obtain ⟨sp, sq, st4, hA⟩ : ∃ sp sq st4, rdStamp st3 = ((sp, sq), st4) := ⟨_, _, _, rfl⟩
  have H4 : Hid (rdStamp st3 = ((sp, sq), st4)) := hA
  have HL : Hid (st4.l.length ≤ st3.l.length) := by have := rdStamp_le st3; rw [hA] at this; exact this
  clear hA
  have C : Hid (1 = 1 → Calls Try.prog 35 #[.pointer (some ⟨br, 0, none⟩)] Y3 fun r w' => r = .returned (.agg #[.int .u64 (sp : Int), .int .u32 (sq : Int)]) ∧ RdAt 71 br st4 w' ∧ Sole br Y3 w') := fun _ => by
    have := stamp29 br st3 Y3 HZ3.out.r (by have := HZ3.out.len; omega)
    skip
    rw [H4.out] at this
    exact this
  have p0 : Y3.cell? ⟨be, 0, none⟩ = some (.int .i64 3) := block_cell HZ3.out.y rfl
  go_wp2_with fail
  refine (C.out (by simp)).mono ?_
  rintro r x4 ⟨rfl, hr, hs⟩
  have HX4 : Hid (Rz 71 (be + 1) w bx br be #[.int .i64 3, .int .u32 (c : Int), .int .u32 (n : Int), .int .u64 0, .int .u32 0, .int .u64 0, .int .u32 0, .int .u64 0, .int .u32 0, .string ⟨#[]⟩, .int .u8 0, .bool false, .slice none 0 0] (.slice none 0 0) [] st4 x4) := HZ3.out.rd hr hs HL.out
  clear hr hs C p0 HL HZ3 hY3 q2 f2 xw
  have q3 : x4.cell? ⟨be, 3, none⟩ = some (.int .u64 0) := block_cell HX4.out.y rfl
  have f3 : x4.frozen? ⟨be, 3, none⟩ = false := block_frozen HX4.out.y 3
  have q4 : x4.cell? ⟨be, 4, none⟩ = some (.int .u32 0) := block_cell HX4.out.y rfl
  have f4 : x4.frozen? ⟨be, 4, none⟩ = false := block_frozen HX4.out.y 4
  obtain ⟨Y4, hY4⟩ : ∃ Y4, ((x4.setCell ⟨be, 3, none⟩ (.int .u64 (sp : Int))).setCell ⟨be, 4, none⟩ (.int .u32 (sq : Int))) = Y4 := ⟨_, rfl⟩
  have HZ4 : Hid (Rz 71 (be + 1) w bx br be #[.int .i64 3, .int .u32 (c : Int), .int .u32 (n : Int), .int .u64 (sp : Int), .int .u32 (sq : Int), .int .u64 0, .int .u32 0, .int .u64 0, .int .u32 0, .string ⟨#[]⟩, .int .u8 0, .bool false, .slice none 0 0] (.slice none 0 0) [] st4 Y4) := by
    rw [← hY4]
    exact ((HX4.out.put 3 (.int .u64 (sp : Int))).put 4 (.int .u32 (sq : Int)))
  clear HX4
  obtain ⟨ap, aq, st5, hA⟩ : ∃ ap aq st5, rdStamp st4 = ((ap, aq), st5) := ⟨_, _, _, rfl⟩
  have H5 : Hid (rdStamp st4 = ((ap, aq), st5)) := hA
  have HL : Hid (st5.l.length ≤ st4.l.length) := by have := rdStamp_le st4; rw [hA] at this; exact this
  clear hA
  have C : Hid (1 = 1 → Calls Try.prog 35 #[.pointer (some ⟨br, 0, none⟩)] Y4 fun r w' => r = .returned (.agg #[.int .u64 (ap : Int), .int .u32 (aq : Int)]) ∧ RdAt 71 br st5 w' ∧ Sole br Y4 w') := fun _ => by
    have := stamp29 br st4 Y4 HZ4.out.r (by have := HZ4.out.len; omega)
    skip
    rw [H5.out] at this
    exact this
  have p0 : Y4.cell? ⟨be, 0, none⟩ = some (.int .i64 3) := block_cell HZ4.out.y rfl
  go_wp2_with fail
  refine (C.out (by simp)).mono ?_
  rintro r x5 ⟨rfl, hr, hs⟩
  have HX5 : Hid (Rz 71 (be + 1) w bx br be #[.int .i64 3, .int .u32 (c : Int), .int .u32 (n : Int), .int .u64 (sp : Int), .int .u32 (sq : Int), .int .u64 0, .int .u32 0, .int .u64 0, .int .u32 0, .string ⟨#[]⟩, .int .u8 0, .bool false, .slice none 0 0] (.slice none 0 0) [] st5 x5) := HZ4.out.rd hr hs HL.out
  clear hr hs C p0 HL HZ4 hY4 q3 f3 q4 f4
  have q5 : x5.cell? ⟨be, 5, none⟩ = some (.int .u64 0) := block_cell HX5.out.y rfl
  have f5 : x5.frozen? ⟨be, 5, none⟩ = false := block_frozen HX5.out.y 5
  have q6 : x5.cell? ⟨be, 6, none⟩ = some (.int .u32 0) := block_cell HX5.out.y rfl
  have f6 : x5.frozen? ⟨be, 6, none⟩ = false := block_frozen HX5.out.y 6
  obtain ⟨Y5, hY5⟩ : ∃ Y5, ((x5.setCell ⟨be, 5, none⟩ (.int .u64 (ap : Int))).setCell ⟨be, 6, none⟩ (.int .u32 (aq : Int))) = Y5 := ⟨_, rfl⟩
  have HZ5 : Hid (Rz 71 (be + 1) w bx br be #[.int .i64 3, .int .u32 (c : Int), .int .u32 (n : Int), .int .u64 (sp : Int), .int .u32 (sq : Int), .int .u64 (ap : Int), .int .u32 (aq : Int), .int .u64 0, .int .u32 0, .string ⟨#[]⟩, .int .u8 0, .bool false, .slice none 0 0] (.slice none 0 0) [] st5 Y5) := by
    rw [← hY5]
    exact ((HX5.out.put 5 (.int .u64 (ap : Int))).put 6 (.int .u32 (aq : Int)))
  clear HX5
  have p0 : Y5.cell? ⟨be, 0, none⟩ = some (.int .i64 3) := block_cell HZ5.out.y rfl
  go_wp2_with fail
  clear p0 hY5 q5 f5 q6 f6
  go_loopw [7] (fun i wr => i = .int .i64 0 ∧ Hid (Rz 71 (be + 1) w bx br be #[.int .i64 3, .int .u32 (c : Int), .int .u32 (n : Int), .int .u64 (sp : Int), .int .u32 (sq : Int), .int .u64 (ap : Int), .int .u32 (aq : Int), .int .u64 0, .int .u32 0, .string ⟨#[]⟩, .int .u8 0, .bool false, .slice none 0 0] (.slice none 0 0) [] st5 wr)) (fun _ _ => 0)
  case atStart => exact ⟨rfl, HZ5.out⟩
  case round =>
    obtain ⟨rfl, HE⟩ := hrel
    clear HZ5
    obtain ⟨pt, st6, hA⟩ : ∃ pt st6, rdNum 255 st5 = (pt, st6) := ⟨_, _, rfl⟩
    have H6 : Hid (rdNum 255 st5 = (pt, st6)) := hA
    have HL : Hid (st6.l.length ≤ st5.l.length) := by have := (rdNum_le 255 st5).2.1; rw [hA] at this; exact this
    have bd6 : pt ≤ 255 := by have := (rdNum_le 255 st5).1; rw [hA] at this; exact this
    clear hA
    have C : Hid (1 = 1 → Calls Try.prog 34 #[.pointer (some ⟨br, 0, none⟩), .int .u64 255] wr fun r w' => r = .returned (.int .u64 (pt : Int)) ∧ RdAt 71 br st6 w' ∧ Sole br wr w') := fun _ => by
      have := num26 br st5 255 wr HE.out.r (by have := HE.out.len; omega)
      skip
      rw [H6.out] at this
      exact this
    have p0 : wr.cell? ⟨be, 0, none⟩ = some (.int .i64 3) := block_cell HE.out.y rfl
    go_wp2_with fail
    refine (C.out (by simp)).mono ?_
    rintro r x6 ⟨rfl, hr, hs⟩
    have HX6 : Hid (Rz 71 (be + 1) w bx br be #[.int .i64 3, .int .u32 (c : Int), .int .u32 (n : Int), .int .u64 (sp : Int), .int .u32 (sq : Int), .int .u64 (ap : Int), .int .u32 (aq : Int), .int .u64 0, .int .u32 0, .string ⟨#[]⟩, .int .u8 0, .bool false, .slice none 0 0] (.slice none 0 0) [] st6 x6) := HE.out.rd hr hs HL.out
    clear hr hs C p0 HL HE 
    have xw := u8w bd6
    have q10 : x6.cell? ⟨be, 10, none⟩ = some (.int .u8 0) := block_cell HX6.out.y rfl
    have f10 : x6.frozen? ⟨be, 10, none⟩ = false := block_frozen HX6.out.y 10
    obtain ⟨Y6, hY6⟩ : ∃ Y6, (x6.setCell ⟨be, 10, none⟩ (.int .u8 (pt : Int))) = Y6 := ⟨_, rfl⟩
    have HZ6 : Hid (Rz 71 (be + 1) w bx br be #[.int .i64 3, .int .u32 (c : Int), .int .u32 (n : Int), .int .u64 (sp : Int), .int .u32 (sq : Int), .int .u64 (ap : Int), .int .u32 (aq : Int), .int .u64 0, .int .u32 0, .string ⟨#[]⟩, .int .u8 (pt : Int), .bool false, .slice none 0 0] (.slice none 0 0) [] st6 Y6) := by
      rw [← hY6]
      exact (HX6.out.put 10 (.int .u8 (pt : Int)))
    clear HX6
    have HRW : Hid (rawE s = ((En.mk 3 c n sp sq ap aq 0 0 [] pt false []), st6)) := by
      show _ = _
      simp [rawE, rBy, rSt, rMin, rPrim, rCnt, rAt, rPt, rDn, hasBy, hasSt, hasAt, hasPt, H1.out, H2.out, H3.out, H4.out, H5.out, H6.out, rWs]
    have C : Hid (1 = 1 → Calls Try.prog 39 #[.pointer (some ⟨br, 0, none⟩)] Y6 fun r w' => r = .returned (.int .i64 (rdEnd st6)) ∧ Y6 = w') := fun _ => end33 br st6 Y6 HZ6.out.r
    have p0 : Y6.cell? ⟨be, 0, none⟩ = some (.int .i64 3) := block_cell HZ6.out.y rfl
    clear H1 H2 H3 H4 H5 H6
    go_wp2_with fail
    refine (C.out (by simp)).mono ?_
    rintro r w5 ⟨rfl, rfl⟩
    clear C p0 hY6 q10 f10 xw
    by_cases hz : rdEnd st6 = 0
    · rw [hz]
      have CR : Hid (1 = 1 → Calls Try.prog 19 #[.agg #[.int .i64 3, .int .u32 (c : Int), .int .u32 (n : Int), .int .u64 (sp : Int), .int .u32 (sq : Int), .int .u64 (ap : Int), .int .u32 (aq : Int), .int .u64 0, .int .u32 0, .string ⟨#[]⟩, .int .u8 (pt : Int), .bool false, .slice none 0 0]] Y6 fun r w' => r = .returned (.bool (rightE (En.mk 3 c n sp sq ap aq 0 0 [] pt false []))) ∧ Below Y6.heap.size Y6 w') := fun _ => right22 (En.mk 3 c n sp sq ap aq 0 0 [] pt false []) none 0 Y6 (rw_own HZ6.out.own)
      obtain ⟨q, hq⟩ : ∃ q, rightE (En.mk 3 c n sp sq ap aq 0 0 [] pt false []) = q := ⟨_, rfl⟩
      have HQQ : Hid (rightE (En.mk 3 c n sp sq ap aq 0 0 [] pt false []) = q) := hq
      have HZZ : Hid (rdEnd st6 = 0) := hz
      rw [hq] at CR
      clear hq hz
      obtain ⟨p0, p1, p2, p3, p4, p5, p6, p7, p8, p9, p10, p11, p12⟩ := all13 HZ6.out.y
      go_wp2_with fail
      refine (CR.out (by simp)).mono ?_
      rintro r w6 ⟨rfl, hb6⟩
      have H6 : Hid (Rz 71 (be + 1) w bx br be #[.int .i64 3, .int .u32 (c : Int), .int .u32 (n : Int), .int .u64 (sp : Int), .int .u32 (sq : Int), .int .u64 (ap : Int), .int .u32 (aq : Int), .int .u64 0, .int .u32 0, .string ⟨#[]⟩, .int .u8 (pt : Int), .bool false, .slice none 0 0] (.slice none 0 0) [] st6 w6) := HZ6.out.on hb6
      clear hb6 CR HZ6 p0 p1 p2 p3 p4 p5 p6 p7 p8 p9 p10 p11 p12
      cases q
      · have HNO : Hid (readE s = none) := by show _ = _; unfold readE; rw [HRW.out]; exact if_neg (fun h => by have := h.2; rw [HQQ.out] at this; cases this)
        obtain ⟨y0, y1, y2, y3, y4, y5, y6, y7, y8, y9, y10, y11, y12⟩ := all13 H6.out.x
        obtain ⟨z0, z1, z2, z3, z4, z5, z6, z7, z8, z9, z10, z11, z12⟩ := froz13 H6.out.x
        have HI : Hid _ := bx13 (.int .i64 0) (.int .u32 0) (.int .u32 0) (.int .u64 0) (.int .u32 0) (.int .u64 0) (.int .u32 0) (.int .u64 0) (.int .u32 0) (.string ⟨#[]⟩) (.int .u8 0) (.bool false) (.slice none 0 0) H6.out.x
        have HBw : Hid _ := bx13_below (.int .i64 0) (.int .u32 0) (.int .u32 0) (.int .u64 0) (.int .u32 0) (.int .u64 0) (.int .u32 0) (.int .u64 0) (.int .u32 0) (.string ⟨#[]⟩) (.int .u8 0) (.bool false) (.slice none 0 0) H6.out.bel H6.out.lx
        go_wp2_with fail
        obtain ⟨r0, r1, r2, r3, r4, r5, r6, r7, r8, r9, r10, r11, r12⟩ := all13 HI.out
        refine bodyPost_ret (v := .tuple #[.agg #[.int .i64 0, .int .u32 0, .int .u32 0, .int .u64 0, .int .u32 0, .int .u64 0, .int .u32 0, .int .u64 0, .int .u32 0, .string ⟨#[]⟩, .int .u8 0, .bool false, .slice none 0 0], .int .i64 2]) (by simp [results, Try.results13, go_sem, r0, r1, r2, r3, r4, r5, r6, r7, r8, r9, r10, r11, r12]) rfl ?_
        exact ⟨HBw.out, fun _ => rfl, fun e he => by rw [HNO.out] at he; cases he⟩
      · have HSO : Hid (readE s = some (En.mk 3 c n sp sq ap aq 0 0 [] pt false [])) := by show _ = _; unfold readE; rw [HRW.out]; exact if_pos ⟨HZZ.out, HQQ.out⟩
        obtain ⟨y0, y1, y2, y3, y4, y5, y6, y7, y8, y9, y10, y11, y12⟩ := all13 H6.out.x
        obtain ⟨z0, z1, z2, z3, z4, z5, z6, z7, z8, z9, z10, z11, z12⟩ := froz13 H6.out.x
        obtain ⟨x0, x1, x2, x3, x4, x5, x6, x7, x8, x9, x10, x11, x12⟩ := all13 H6.out.y
        have HI : Hid _ := bx13 (.int .i64 3) (.int .u32 (c : Int)) (.int .u32 (n : Int)) (.int .u64 (sp : Int)) (.int .u32 (sq : Int)) (.int .u64 (ap : Int)) (.int .u32 (aq : Int)) (.int .u64 0) (.int .u32 0) (.string ⟨#[]⟩) (.int .u8 (pt : Int)) (.bool false) (.slice none 0 0) H6.out.x
        have HBw : Hid _ := bx13_below (.int .i64 3) (.int .u32 (c : Int)) (.int .u32 (n : Int)) (.int .u64 (sp : Int)) (.int .u32 (sq : Int)) (.int .u64 (ap : Int)) (.int .u32 (aq : Int)) (.int .u64 0) (.int .u32 0) (.string ⟨#[]⟩) (.int .u8 (pt : Int)) (.bool false) (.slice none 0 0) H6.out.bel H6.out.lx
        have HKp : Hid _ := bx13_kept (b := bx) (W := w6) (.int .i64 3) (.int .u32 (c : Int)) (.int .u32 (n : Int)) (.int .u64 (sp : Int)) (.int .u32 (sq : Int)) (.int .u64 (ap : Int)) (.int .u32 (aq : Int)) (.int .u64 0) (.int .u32 0) (.string ⟨#[]⟩) (.int .u8 (pt : Int)) (.bool false) (.slice none 0 0)
        go_wp2_with fail
        obtain ⟨r0, r1, r2, r3, r4, r5, r6, r7, r8, r9, r10, r11, r12⟩ := all13 HI.out
        refine bodyPost_ret (v := .tuple #[.agg #[.int .i64 3, .int .u32 (c : Int), .int .u32 (n : Int), .int .u64 (sp : Int), .int .u32 (sq : Int), .int .u64 (ap : Int), .int .u32 (aq : Int), .int .u64 0, .int .u32 0, .string ⟨#[]⟩, .int .u8 (pt : Int), .bool false, .slice none 0 0], .int .i64 0]) (by simp [results, Try.results13, go_sem, r0, r1, r2, r3, r4, r5, r6, r7, r8, r9, r10, r11, r12]) rfl ?_
        unfold RdPost
        refine ⟨HBw.out, fun hn => absurd (HSO.out.symm.trans hn) (by simp), fun e he => ?_⟩
        rw [HSO.out] at he
        cases he
        exact ⟨none, 0, rfl, rw_own (own_kept H6.out.own HKp.out (fun k hk hf => by have h1 := H6.out.ob k hk; have h2 := H6.out.xb; omega))⟩
    · have HNO : Hid (readE s = none) := by show _ = _; unfold readE; rw [HRW.out]; exact if_neg (fun h => hz h.1)
      have hz1 : ¬ ((rdEnd st6 : Nat) : Int) = 0 := by omega
      obtain ⟨y0, y1, y2, y3, y4, y5, y6, y7, y8, y9, y10, y11, y12⟩ := all13 HZ6.out.x
      obtain ⟨z0, z1, z2, z3, z4, z5, z6, z7, z8, z9, z10, z11, z12⟩ := froz13 HZ6.out.x
      have HI : Hid _ := bx13 (.int .i64 0) (.int .u32 0) (.int .u32 0) (.int .u64 0) (.int .u32 0) (.int .u64 0) (.int .u32 0) (.int .u64 0) (.int .u32 0) (.string ⟨#[]⟩) (.int .u8 0) (.bool false) (.slice none 0 0) HZ6.out.x
      have HBw : Hid _ := bx13_below (.int .i64 0) (.int .u32 0) (.int .u32 0) (.int .u64 0) (.int .u32 0) (.int .u64 0) (.int .u32 0) (.int .u64 0) (.int .u32 0) (.string ⟨#[]⟩) (.int .u8 0) (.bool false) (.slice none 0 0) HZ6.out.bel HZ6.out.lx
      go_wp2_with fail
      obtain ⟨r0, r1, r2, r3, r4, r5, r6, r7, r8, r9, r10, r11, r12⟩ := all13 HI.out
      refine bodyPost_ret (v := .tuple #[.agg #[.int .i64 0, .int .u32 0, .int .u32 0, .int .u64 0, .int .u32 0, .int .u64 0, .int .u32 0, .int .u64 0, .int .u32 0, .string ⟨#[]⟩, .int .u8 0, .bool false, .slice none 0 0], .int .i64 2]) (by simp [results, Try.results13, go_sem, r0, r1, r2, r3, r4, r5, r6, r7, r8, r9, r10, r11, r12]) rfl ?_
      exact ⟨HBw.out, fun _ => rfl, fun e he => by rw [HNO.out] at he; cases he⟩
end Go.Proofs.Ytmgjlpgjjeknpaa
