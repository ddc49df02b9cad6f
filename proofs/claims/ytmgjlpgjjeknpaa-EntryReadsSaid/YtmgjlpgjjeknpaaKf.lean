/-
  The program's Read, over what its parts answer.
-/
import Derived.Test.YtmgjlpgjjeknpaaHd
import Derived.Test.YtmgjlpgjjeknpaaKx
import Derived.Test.YtmgjlpgjjeknpaaKy
namespace Go.Proofs.Ytmgjlpgjjeknpaa
open Go.RowKit Go.Sort

theorem i64w {n : Nat} (h : n ≤ 9) : IntKind.i64.wrap (n : Int) = n := by
  simp [IntKind.wrap, IntKind.signed, IntKind.bits]
  omega
set_option maxHeartbeats 3200000 in
set_option maxRecDepth 100000 in
theorem rp11_g (I : R10) (s : List UInt8) (w : World) (hl : s.length < 4611686018427387904) (k : Nat) (c n sp sq ap aq mp mq : Nat) (prim : List UInt8) (pt : Nat) (dn : Bool) (ws : List Wr) (st1 st2 st3 : St) (h1 : rdNum 9 ⟨s, 0⟩ = (k, st1))
    (ch : ∀ {B : Nat} {w W : World} {bx br be : Nat}, Rz 85 B w bx br be #[.int .i64 (k : Int), .int .u32 0, .int .u32 0, .int .u64 0, .int .u32 0, .int .u64 0, .int .u32 0, .int .u64 0, .int .u32 0, .string ⟨#[]⟩, .int .u8 0, .bool false, .slice none 0 0] (.slice none 0 0) [] st1 W → Calls Try.prog 31 #[.pointer (some ⟨br, 0, none⟩), .pointer (some ⟨be, 0, none⟩), .int .u16 (mask (k : Int) : Int)] W fun r w' => r = .returned (.tuple #[]) ∧ Rz 85 B w bx br be #[.int .i64 (k : Int), .int .u32 (c : Int), .int .u32 (n : Int), .int .u64 (sp : Int), .int .u32 (sq : Int), .int .u64 (ap : Int), .int .u32 (aq : Int), .int .u64 (mp : Int), .int .u32 (mq : Int), .string ⟨#[]⟩, .int .u8 0, .bool false, .slice none 0 0] (.slice none 0 0) [] st2 w')
    (ct : ∀ {B : Nat} {w W : World} {bx br be : Nat}, Rz 85 B w bx br be #[.int .i64 (k : Int), .int .u32 (c : Int), .int .u32 (n : Int), .int .u64 (sp : Int), .int .u32 (sq : Int), .int .u64 (ap : Int), .int .u32 (aq : Int), .int .u64 (mp : Int), .int .u32 (mq : Int), .string ⟨#[]⟩, .int .u8 0, .bool false, .slice none 0 0] (.slice none 0 0) [] st2 W → Calls Try.prog 32 #[.pointer (some ⟨br, 0, none⟩), .pointer (some ⟨be, 0, none⟩), .int .u16 (mask (k : Int) : Int)] W fun r w' => r = .returned (.tuple #[]) ∧ ∃ ao cp, Rz 85 B w bx br be #[.int .i64 (k : Int), .int .u32 (c : Int), .int .u32 (n : Int), .int .u64 (sp : Int), .int .u32 (sq : Int), .int .u64 (ap : Int), .int .u32 (aq : Int), .int .u64 (mp : Int), .int .u32 (mq : Int), .string (bs prim), .int .u8 (pt : Int), .bool dn, .slice ao ws.length cp] (.slice ao ws.length cp) ws st3 w')
    (hok : EnOk (En.mk (k : Int) c n sp sq ap aq mp mq prim pt dn ws)) (hlen : ws.length ≤ 100) (hR : readE s = if rdEnd st3 = 0 ∧ rightE (En.mk (k : Int) c n sp sq ap aq mp mq prim pt dn ws) = true then some (En.mk (k : Int) c n sp sq ap aq mp mq prim pt dn ws) else none) :
    Calls Try.prog 11 #[.string (bs s)] w (RdPost s w) := by
  have s0 : (w.alloc (.cells #[.int .i64 0, .int .u32 0, .int .u32 0, .int .u64 0, .int .u32 0, .int .u64 0, .int .u32 0, .int .u64 0, .int .u32 0, .string ⟨#[]⟩, .int .u8 0, .bool false, .slice none 0 0] 30)).heap[w.heap.size]? = some (.cells #[.int .i64 0, .int .u32 0, .int .u32 0, .int .u64 0, .int .u32 0, .int .u64 0, .int .u32 0, .int .u64 0, .int .u32 0, .string ⟨#[]⟩, .int .u8 0, .bool false, .slice none 0 0] 30 (0, 0)) := heap_alloc_new w _
  obtain ⟨W1, hW1⟩ : ∃ W1, w.alloc (.cells #[.int .i64 0, .int .u32 0, .int .u32 0, .int .u64 0, .int .u32 0, .int .u64 0, .int .u32 0, .int .u64 0, .int .u32 0, .string ⟨#[]⟩, .int .u8 0, .bool false, .slice none 0 0] 30) = W1 := ⟨_, rfl⟩
  have s1 : W1.heap.size = w.heap.size + 1 := by rw [← hW1]; simp
  obtain ⟨bx, hbx⟩ : ∃ b, w.heap.size = b := ⟨_, rfl⟩
  obtain ⟨br, hbr⟩ : ∃ b, W1.heap.size = b := ⟨_, rfl⟩
  rw [hW1, hbx] at s0
  have HX0 : Hid (W1.heap[bx]? = some (.cells #[.int .i64 0, .int .u32 0, .int .u32 0, .int .u64 0, .int .u32 0, .int .u64 0, .int .u32 0, .int .u64 0, .int .u32 0, .string ⟨#[]⟩, .int .u8 0, .bool false, .slice none 0 0] 30 (0, 0))) := s0
  have HO : Hid (w.heap.size ≤ bx ∧ bx < br) := ⟨by omega, by omega⟩
  have HB1 : Hid (Below w.heap.size w W1) := by rw [← hW1]; exact al _
  have CN : Hid (1 = 1 → Calls Try.prog 29 #[.string (bs s)] W1 fun e w' => e = .returned (.pointer (some ⟨br, 0, none⟩)) ∧ RdAt 85 br ⟨s, 0⟩ w' ∧ Below W1.heap.size W1 w') := fun _ => by
    have := new19 s W1
    rw [hbr] at this ⊢
    exact this
  have hle := rdNum_le 9 ⟨s, 0⟩
  rw [h1] at hle
  have hk9 : k ≤ 9 := hle.1
  have x1 := i64w hk9
  have H1 : Hid (rdNum 9 ⟨s, 0⟩ = (k, st1)) := h1
  have HL : Hid (st1.l.length ≤ s.length) := hle.2.1
  have HCH : Hid (∀ {B : Nat} {w W : World} {bx br be : Nat}, Rz 85 B w bx br be #[.int .i64 (k : Int), .int .u32 0, .int .u32 0, .int .u64 0, .int .u32 0, .int .u64 0, .int .u32 0, .int .u64 0, .int .u32 0, .string ⟨#[]⟩, .int .u8 0, .bool false, .slice none 0 0] (.slice none 0 0) [] st1 W → Calls Try.prog 31 #[.pointer (some ⟨br, 0, none⟩), .pointer (some ⟨be, 0, none⟩), .int .u16 (mask (k : Int) : Int)] W fun r w' => r = .returned (.tuple #[]) ∧ Rz 85 B w bx br be #[.int .i64 (k : Int), .int .u32 (c : Int), .int .u32 (n : Int), .int .u64 (sp : Int), .int .u32 (sq : Int), .int .u64 (ap : Int), .int .u32 (aq : Int), .int .u64 (mp : Int), .int .u32 (mq : Int), .string ⟨#[]⟩, .int .u8 0, .bool false, .slice none 0 0] (.slice none 0 0) [] st2 w') := ch
  have HCT : Hid (∀ {B : Nat} {w W : World} {bx br be : Nat}, Rz 85 B w bx br be #[.int .i64 (k : Int), .int .u32 (c : Int), .int .u32 (n : Int), .int .u64 (sp : Int), .int .u32 (sq : Int), .int .u64 (ap : Int), .int .u32 (aq : Int), .int .u64 (mp : Int), .int .u32 (mq : Int), .string ⟨#[]⟩, .int .u8 0, .bool false, .slice none 0 0] (.slice none 0 0) [] st2 W → Calls Try.prog 32 #[.pointer (some ⟨br, 0, none⟩), .pointer (some ⟨be, 0, none⟩), .int .u16 (mask (k : Int) : Int)] W fun r w' => r = .returned (.tuple #[]) ∧ ∃ ao cp, Rz 85 B w bx br be #[.int .i64 (k : Int), .int .u32 (c : Int), .int .u32 (n : Int), .int .u64 (sp : Int), .int .u32 (sq : Int), .int .u64 (ap : Int), .int .u32 (aq : Int), .int .u64 (mp : Int), .int .u32 (mq : Int), .string (bs prim), .int .u8 (pt : Int), .bool dn, .slice ao ws.length cp] (.slice ao ws.length cp) ws st3 w') := ct
  have HEK : Hid (EnOk (En.mk (k : Int) c n sp sq ap aq mp mq prim pt dn ws) ∧ ws.length ≤ 100) := ⟨hok, hlen⟩
  have HRR : Hid (readE s = if rdEnd st3 = 0 ∧ rightE (En.mk (k : Int) c n sp sq ap aq mp mq prim pt dn ws) = true then some (En.mk (k : Int) c n sp sq ap aq mp mq prim pt dn ws) else none) := hR
  clear hle s0 s1 h1 ch ct hok hlen hR
  go_enter Try.func11, Try.ntmps11
  go_wp2_with fail
  refine (CN.out (by simp)).mono ?_
  rintro r w0 ⟨rfl, hr0, hb0⟩
  have R2 : Hid (RdAt 85 br ⟨s, 0⟩ w0) := hr0
  have HB2 : Hid (Below w.heap.size w w0) := HB1.out.trans (hb0.mono HB1.out.size)
  have HX2 : Hid (w0.heap[bx]? = some (.cells #[.int .i64 0, .int .u32 0, .int .u32 0, .int .u64 0, .int .u32 0, .int .u64 0, .int .u32 0, .int .u64 0, .int .u32 0, .string ⟨#[]⟩, .int .u8 0, .bool false, .slice none 0 0] 30 (0, 0))) := by
    show _ = _
    rw [hb0.block bx (Array.getElem?_eq_some_iff.1 HX0.out).1]
    exact HX0.out
  clear hr0 hb0 CN HB1 HX0 hbr hbx hW1
  have C : Hid (1 = 1 → Calls Try.prog 30 #[.pointer (some ⟨br, 0, none⟩), .int .u64 9] w0 fun r w' => r = .returned (.int .u64 (k : Int)) ∧ RdAt 85 br st1 w' ∧ Sole br w0 w') := fun _ => by
    have := num20 br ⟨s, 0⟩ 9 w0 R2.out (by show s.length < _; omega)
    rw [H1.out] at this
    exact this
  go_wp2_with fail
  refine (C.out (by simp)).mono ?_
  rintro r w1 ⟨rfl, hr, hs⟩
  have HZ : Hid _ := rz_mk (HB2.out.trans (hs.kept.below HB2.out.size (fun k hf => by have := HO.out; omega))) (show w1.heap[bx]? = _ from by rw [hs.block bx (Array.getElem?_eq_some_iff.1 HX2.out).1 (by have := HO.out; omega)]; exact HX2.out) hr HO.out.1 HO.out.2 (by have := HL.out; omega) #[.int .i64 (k : Int), .int .u32 0, .int .u32 0, .int .u64 0, .int .u32 0, .int .u64 0, .int .u32 0, .int .u64 0, .int .u32 0, .string ⟨#[]⟩, .int .u8 0, .bool false, .slice none 0 0]
  clear hr hs C R2 HB2 HX2
  go_upto_region 3 with fail
  obtain ⟨Y0, hY0⟩ : ∃ Y0, w1.alloc (.cells #[.int .i64 (k : Int), .int .u32 0, .int .u32 0, .int .u64 0, .int .u32 0, .int .u64 0, .int .u32 0, .int .u64 0, .int .u32 0, .string ⟨#[]⟩, .int .u8 0, .bool false, .slice none 0 0] 30) = Y0 := ⟨_, rfl⟩
  obtain ⟨be, hbe⟩ : ∃ b, w1.heap.size = b := ⟨_, rfl⟩
  have HZ0 : Hid (Rz 85 (be + 1) w bx br be #[.int .i64 (k : Int), .int .u32 0, .int .u32 0, .int .u64 0, .int .u32 0, .int .u64 0, .int .u32 0, .int .u64 0, .int .u32 0, .string ⟨#[]⟩, .int .u8 0, .bool false, .slice none 0 0] (.slice none 0 0) [] st1 Y0) := by
    rw [← hY0, ← hbe]
    exact HZ.out
  rw [hY0, hbe]
  clear HZ HL hY0 hbe HO x1
  have C : Hid (1 = 1 → Calls Try.prog 15 #[.int .i64 (k : Int)] Y0 fun r w' => r = .returned (.int .u16 (mask (k : Int) : Int)) ∧ Y0 = w') := fun _ => fields15 (k : Int) Y0
  have p0 : Y0.cell? ⟨be, 0, none⟩ = some (.int .i64 (k : Int)) := block_cell HZ0.out.y rfl
  go_wp2_with fail
  refine (C.out (by simp)).mono ?_
  rintro r wx ⟨rfl, rfl⟩
  clear C p0
  have C : Hid (1 = 1 → Calls Try.prog 31 #[.pointer (some ⟨br, 0, none⟩), .pointer (some ⟨be, 0, none⟩), .int .u16 (mask (k : Int) : Int)] Y0 fun r w' => r = .returned (.tuple #[]) ∧ Rz 85 (be + 1) w bx br be #[.int .i64 (k : Int), .int .u32 (c : Int), .int .u32 (n : Int), .int .u64 (sp : Int), .int .u32 (sq : Int), .int .u64 (ap : Int), .int .u32 (aq : Int), .int .u64 (mp : Int), .int .u32 (mq : Int), .string ⟨#[]⟩, .int .u8 0, .bool false, .slice none 0 0] (.slice none 0 0) [] st2 w') := fun _ => HCH.out HZ0.out
  go_wp2_with fail
  refine (C.out (by simp)).mono ?_
  rintro r w2 ⟨rfl, h2⟩
  have HZ2 : Hid (Rz 85 (be + 1) w bx br be #[.int .i64 (k : Int), .int .u32 (c : Int), .int .u32 (n : Int), .int .u64 (sp : Int), .int .u32 (sq : Int), .int .u64 (ap : Int), .int .u32 (aq : Int), .int .u64 (mp : Int), .int .u32 (mq : Int), .string ⟨#[]⟩, .int .u8 0, .bool false, .slice none 0 0] (.slice none 0 0) [] st2 w2) := h2
  clear C h2 HZ0 HCH
  have C : Hid (1 = 1 → Calls Try.prog 32 #[.pointer (some ⟨br, 0, none⟩), .pointer (some ⟨be, 0, none⟩), .int .u16 (mask (k : Int) : Int)] w2 fun r w' => r = .returned (.tuple #[]) ∧ ∃ ao cp, Rz 85 (be + 1) w bx br be #[.int .i64 (k : Int), .int .u32 (c : Int), .int .u32 (n : Int), .int .u64 (sp : Int), .int .u32 (sq : Int), .int .u64 (ap : Int), .int .u32 (aq : Int), .int .u64 (mp : Int), .int .u32 (mq : Int), .string (bs prim), .int .u8 (pt : Int), .bool dn, .slice ao ws.length cp] (.slice ao ws.length cp) ws st3 w') := fun _ => HCT.out HZ2.out
  go_wp2_with fail
  refine (C.out (by simp)).mono ?_
  rintro r w3 ⟨rfl, ao, cp, h3⟩
  have HZ3 : Hid (Rz 85 (be + 1) w bx br be #[.int .i64 (k : Int), .int .u32 (c : Int), .int .u32 (n : Int), .int .u64 (sp : Int), .int .u32 (sq : Int), .int .u64 (ap : Int), .int .u32 (aq : Int), .int .u64 (mp : Int), .int .u32 (mq : Int), .string (bs prim), .int .u8 (pt : Int), .bool dn, .slice ao ws.length cp] (.slice ao ws.length cp) ws st3 w3) := h3
  clear C h3 HZ2 HCT
  have C : Hid (1 = 1 → Calls Try.prog 33 #[.pointer (some ⟨br, 0, none⟩)] w3 fun r w' => r = .returned (.int .i64 (rdEnd st3)) ∧ w3 = w') := fun _ => end25 br st3 w3 HZ3.out.r
  go_wp2_with fail
  refine (C.out (by simp)).mono ?_
  rintro r w5 ⟨rfl, rfl⟩
  clear C
  by_cases hz : rdEnd st3 = 0
  · rw [hz]
    have CR : Hid (1 = 1 → Calls Try.prog 10 #[.agg #[.int .i64 (k : Int), .int .u32 (c : Int), .int .u32 (n : Int), .int .u64 (sp : Int), .int .u32 (sq : Int), .int .u64 (ap : Int), .int .u32 (aq : Int), .int .u64 (mp : Int), .int .u32 (mq : Int), .string (bs prim), .int .u8 (pt : Int), .bool dn, .slice ao ws.length cp]] w3 fun r w' => r = .returned (.bool (rightE (En.mk (k : Int) c n sp sq ap aq mp mq prim pt dn ws))) ∧ Below w3.heap.size w3 w') := fun _ => I (En.mk (k : Int) c n sp sq ap aq mp mq prim pt dn ws) ao cp w3 HEK.out.1 HEK.out.2 (rw_own HZ3.out.own)
    obtain ⟨q, hq⟩ : ∃ q, rightE (En.mk (k : Int) c n sp sq ap aq mp mq prim pt dn ws) = q := ⟨_, rfl⟩
    have HQQ : Hid (rightE (En.mk (k : Int) c n sp sq ap aq mp mq prim pt dn ws) = q) := hq
    have HZZ : Hid (rdEnd st3 = 0) := hz
    rw [hq] at CR
    clear hq hz
    obtain ⟨p0, p1, p2, p3, p4, p5, p6, p7, p8, p9, p10, p11, p12⟩ := all13 HZ3.out.y
    go_wp2_with fail
    refine (CR.out (by simp)).mono ?_
    rintro r w6 ⟨rfl, hb6⟩
    have H6 : Hid (Rz 85 (be + 1) w bx br be #[.int .i64 (k : Int), .int .u32 (c : Int), .int .u32 (n : Int), .int .u64 (sp : Int), .int .u32 (sq : Int), .int .u64 (ap : Int), .int .u32 (aq : Int), .int .u64 (mp : Int), .int .u32 (mq : Int), .string (bs prim), .int .u8 (pt : Int), .bool dn, .slice ao ws.length cp] (.slice ao ws.length cp) ws st3 w6) := HZ3.out.on hb6
    clear hb6 CR HZ3 p0 p1 p2 p3 p4 p5 p6 p7 p8 p9 p10 p11 p12
    cases q
    · have HNO : Hid (readE s = none) := by show _ = _; rw [HRR.out]; exact if_neg (fun h => by have := h.2; rw [HQQ.out] at this; cases this)
      obtain ⟨y0, y1, y2, y3, y4, y5, y6, y7, y8, y9, y10, y11, y12⟩ := all13 H6.out.x
      obtain ⟨z0, z1, z2, z3, z4, z5, z6, z7, z8, z9, z10, z11, z12⟩ := froz13 H6.out.x
      have HI : Hid _ := bx13 (.int .i64 0) (.int .u32 0) (.int .u32 0) (.int .u64 0) (.int .u32 0) (.int .u64 0) (.int .u32 0) (.int .u64 0) (.int .u32 0) (.string ⟨#[]⟩) (.int .u8 0) (.bool false) (.slice none 0 0) H6.out.x
      have HBw : Hid _ := bx13_below (.int .i64 0) (.int .u32 0) (.int .u32 0) (.int .u64 0) (.int .u32 0) (.int .u64 0) (.int .u32 0) (.int .u64 0) (.int .u32 0) (.string ⟨#[]⟩) (.int .u8 0) (.bool false) (.slice none 0 0) H6.out.bel H6.out.lx
      go_wp2_with fail
      obtain ⟨r0, r1, r2, r3, r4, r5, r6, r7, r8, r9, r10, r11, r12⟩ := all13 HI.out
      refine bodyPost_ret (v := .tuple #[.agg #[.int .i64 0, .int .u32 0, .int .u32 0, .int .u64 0, .int .u32 0, .int .u64 0, .int .u32 0, .int .u64 0, .int .u32 0, .string ⟨#[]⟩, .int .u8 0, .bool false, .slice none 0 0], .int .i64 2]) (by simp [results, Try.results11, go_sem, r0, r1, r2, r3, r4, r5, r6, r7, r8, r9, r10, r11, r12]) rfl ?_
      exact ⟨HBw.out, fun _ => rfl, fun e he => by rw [HNO.out] at he; cases he⟩
    · have HSO : Hid (readE s = some (En.mk (k : Int) c n sp sq ap aq mp mq prim pt dn ws)) := by show _ = _; rw [HRR.out]; exact if_pos ⟨HZZ.out, HQQ.out⟩
      obtain ⟨y0, y1, y2, y3, y4, y5, y6, y7, y8, y9, y10, y11, y12⟩ := all13 H6.out.x
      obtain ⟨z0, z1, z2, z3, z4, z5, z6, z7, z8, z9, z10, z11, z12⟩ := froz13 H6.out.x
      obtain ⟨x0, x1, x2, x3, x4, x5, x6, x7, x8, x9, x10, x11, x12⟩ := all13 H6.out.y
      have HI : Hid _ := bx13 (.int .i64 (k : Int)) (.int .u32 (c : Int)) (.int .u32 (n : Int)) (.int .u64 (sp : Int)) (.int .u32 (sq : Int)) (.int .u64 (ap : Int)) (.int .u32 (aq : Int)) (.int .u64 (mp : Int)) (.int .u32 (mq : Int)) (.string (bs prim)) (.int .u8 (pt : Int)) (.bool dn) (.slice ao ws.length cp) H6.out.x
      have HBw : Hid _ := bx13_below (.int .i64 (k : Int)) (.int .u32 (c : Int)) (.int .u32 (n : Int)) (.int .u64 (sp : Int)) (.int .u32 (sq : Int)) (.int .u64 (ap : Int)) (.int .u32 (aq : Int)) (.int .u64 (mp : Int)) (.int .u32 (mq : Int)) (.string (bs prim)) (.int .u8 (pt : Int)) (.bool dn) (.slice ao ws.length cp) H6.out.bel H6.out.lx
      have HKp : Hid _ := bx13_kept (b := bx) (W := w6) (.int .i64 (k : Int)) (.int .u32 (c : Int)) (.int .u32 (n : Int)) (.int .u64 (sp : Int)) (.int .u32 (sq : Int)) (.int .u64 (ap : Int)) (.int .u32 (aq : Int)) (.int .u64 (mp : Int)) (.int .u32 (mq : Int)) (.string (bs prim)) (.int .u8 (pt : Int)) (.bool dn) (.slice ao ws.length cp)
      go_wp2_with fail
      obtain ⟨r0, r1, r2, r3, r4, r5, r6, r7, r8, r9, r10, r11, r12⟩ := all13 HI.out
      refine bodyPost_ret (v := .tuple #[.agg #[.int .i64 (k : Int), .int .u32 (c : Int), .int .u32 (n : Int), .int .u64 (sp : Int), .int .u32 (sq : Int), .int .u64 (ap : Int), .int .u32 (aq : Int), .int .u64 (mp : Int), .int .u32 (mq : Int), .string (bs prim), .int .u8 (pt : Int), .bool dn, .slice ao ws.length cp], .int .i64 0]) (by simp [results, Try.results11, go_sem, r0, r1, r2, r3, r4, r5, r6, r7, r8, r9, r10, r11, r12]) rfl ?_
      unfold RdPost
      refine ⟨HBw.out, fun hn => absurd (HSO.out.symm.trans hn) (by simp), fun e he => ?_⟩
      rw [HSO.out] at he
      cases he
      exact ⟨ao, cp, rfl, rw_own (own_kept H6.out.own HKp.out (fun k hk hf => by have h1 := H6.out.ob k hk; have h2 := H6.out.xb; omega))⟩
  · have HNO : Hid (readE s = none) := by show _ = _; rw [HRR.out]; exact if_neg (fun h => hz h.1)
    have hz1 : ¬ ((rdEnd st3 : Nat) : Int) = 0 := by omega
    obtain ⟨y0, y1, y2, y3, y4, y5, y6, y7, y8, y9, y10, y11, y12⟩ := all13 HZ3.out.x
    obtain ⟨z0, z1, z2, z3, z4, z5, z6, z7, z8, z9, z10, z11, z12⟩ := froz13 HZ3.out.x
    have HI : Hid _ := bx13 (.int .i64 0) (.int .u32 0) (.int .u32 0) (.int .u64 0) (.int .u32 0) (.int .u64 0) (.int .u32 0) (.int .u64 0) (.int .u32 0) (.string ⟨#[]⟩) (.int .u8 0) (.bool false) (.slice none 0 0) HZ3.out.x
    have HBw : Hid _ := bx13_below (.int .i64 0) (.int .u32 0) (.int .u32 0) (.int .u64 0) (.int .u32 0) (.int .u64 0) (.int .u32 0) (.int .u64 0) (.int .u32 0) (.string ⟨#[]⟩) (.int .u8 0) (.bool false) (.slice none 0 0) HZ3.out.bel HZ3.out.lx
    go_wp2_with fail
    obtain ⟨r0, r1, r2, r3, r4, r5, r6, r7, r8, r9, r10, r11, r12⟩ := all13 HI.out
    refine bodyPost_ret (v := .tuple #[.agg #[.int .i64 0, .int .u32 0, .int .u32 0, .int .u64 0, .int .u32 0, .int .u64 0, .int .u32 0, .int .u64 0, .int .u32 0, .string ⟨#[]⟩, .int .u8 0, .bool false, .slice none 0 0], .int .i64 2]) (by simp [results, Try.results11, go_sem, r0, r1, r2, r3, r4, r5, r6, r7, r8, r9, r10, r11, r12]) rfl ?_
    exact ⟨HBw.out, fun _ => rfl, fun e he => by rw [HNO.out] at he; cases he⟩
set_option maxHeartbeats 800000 in
theorem rp11_0 (I : R10) (s : List UInt8) (w : World) (hl : s.length < 4611686018427387904) (hk : (rdNum 9 ⟨s, 0⟩).1 = 0) : Calls Try.prog 11 #[.string (bs s)] w (RdPost s w) := by
  obtain ⟨t0, ht0⟩ : ∃ x, (rdNum 9 ⟨s, 0⟩).2 = x := ⟨_, rfl⟩
  have H1 : rdNum 9 ⟨s, 0⟩ = (0, t0) := Prod.ext hk ht0
  have hok : EnOk (En.mk 0 0 0 0 0 0 0 0 0 [] 0 false []) ∧ ((En.mk 0 0 0 0 0 0 0 0 0 [] 0 false [])).ws.length ≤ 16 := ⟨⟨⟨by decide, by decide, by decide⟩, by decide, by decide, by decide, by decide, by decide, by decide, by simp⟩, by decide⟩
  have hR : readE s = if rdEnd t0 = 0 ∧ rightE (En.mk 0 0 0 0 0 0 0 0 0 [] 0 false []) = true then some (En.mk 0 0 0 0 0 0 0 0 0 [] 0 false []) else none := by
    have h0 : (rawE s).1.k = 0 := by
      show ((rdNum 9 ⟨s, 0⟩).1 : Int) = 0
      rw [hk]
      rfl
    rw [if_neg (fun h => by have := h.2; rw [rightE_out (by decide)] at this; cases this)]
    unfold readE
    exact if_neg (fun h => by have := h.2; rw [rightE_out (by rw [h0]; decide)] at this; cases this)
  refine rp11_g I s w hl 0 0 0 0 0 0 0 0 0 [] 0 false [] t0 t0 t0 H1 ?_ ?_ hok.1 (Nat.le_trans hok.2 (by decide)) hR
  · intro B w W bx br be h
    exact th31_0 0  h
  · intro B w W bx br be h
    exact (tr32_0 0  h).mono fun r w' hh => ⟨hh.1, none, 0, hh.2⟩
set_option maxHeartbeats 800000 in
theorem rp11_1 (I : R10) (s : List UInt8) (w : World) (hl : s.length < 4611686018427387904) (hk : (rdNum 9 ⟨s, 0⟩).1 = 1) : Calls Try.prog 11 #[.string (bs s)] w (RdPost s w) := by
  obtain ⟨t0, ht0⟩ : ∃ x, (rdNum 9 ⟨s, 0⟩).2 = x := ⟨_, rfl⟩
  have H1 : rdNum 9 ⟨s, 0⟩ = (1, t0) := Prod.ext hk ht0
  obtain ⟨ap, aq, t1, g1⟩ : ∃ ap aq t1, rdStamp t0 = ((ap, aq), t1) := ⟨_, _, _, rfl⟩
  have HRW : rawE s = ((En.mk 1 0 0 0 0 ap aq 0 0 [] 0 false []), t1) := by
    simp [rawE, rBy, rSt, rMin, rPrim, rCnt, rAt, rPt, rDn, hasBy, hasSt, hasAt, hasPt, H1, g1, rWs]
  have hok := raw_enok s
  rw [HRW] at hok
  have hR : readE s = if rdEnd t1 = 0 ∧ rightE (En.mk 1 0 0 0 0 ap aq 0 0 [] 0 false []) = true then some (En.mk 1 0 0 0 0 ap aq 0 0 [] 0 false []) else none := by unfold readE; rw [HRW]
  refine rp11_g I s w hl 1 0 0 0 0 ap aq 0 0 [] 0 false [] t0 t1 t1 H1 ?_ ?_ hok.1 (Nat.le_trans hok.2 (by decide)) hR
  · intro B w W bx br be h
    exact th31_4 1 ap aq t1 g1 h
  · intro B w W bx br be h
    exact (tr32_4 1  h).mono fun r w' hh => ⟨hh.1, none, 0, hh.2⟩
set_option maxHeartbeats 800000 in
theorem rp11_2 (I : R10) (s : List UInt8) (w : World) (hl : s.length < 4611686018427387904) (hk : (rdNum 9 ⟨s, 0⟩).1 = 2) : Calls Try.prog 11 #[.string (bs s)] w (RdPost s w) := by
  obtain ⟨t0, ht0⟩ : ∃ x, (rdNum 9 ⟨s, 0⟩).2 = x := ⟨_, rfl⟩
  have H1 : rdNum 9 ⟨s, 0⟩ = (2, t0) := Prod.ext hk ht0
  obtain ⟨c, t1, g1⟩ : ∃ c t1, rdNum 4294967295 t0 = (c, t1) := ⟨_, _, rfl⟩
  obtain ⟨n, t2, g2⟩ : ∃ n t2, rdNum 4294967295 t1 = (n, t2) := ⟨_, _, rfl⟩
  obtain ⟨sp, sq, t3, g3⟩ : ∃ sp sq t3, rdStamp t2 = ((sp, sq), t3) := ⟨_, _, _, rfl⟩
  obtain ⟨mp, mq, t4, g4⟩ : ∃ mp mq t4, rdStamp t3 = ((mp, mq), t4) := ⟨_, _, _, rfl⟩
  obtain ⟨prim, t5, g5⟩ : ∃ prim t5, rdText 1 32 t4 = (prim, t5) := ⟨_, _, rfl⟩
  obtain ⟨nw, t6, g6⟩ : ∃ nw t6, rdNum 16 t5 = (nw, t6) := ⟨_, _, rfl⟩
  obtain ⟨ws, t7, g7⟩ : ∃ ws t7, rWs nw t6 = (ws, t7) := ⟨_, _, rfl⟩
  have HRW : rawE s = ((En.mk 2 c n sp sq 0 0 mp mq prim 0 false ws), t7) := by
    simp [rawE, rBy, rSt, rMin, rPrim, rCnt, rAt, rPt, rDn, hasBy, hasSt, hasAt, hasPt, H1, g1, g2, g3, g4, g5, g6, g7]
  have hok := raw_enok s
  rw [HRW] at hok
  have hR : readE s = if rdEnd t7 = 0 ∧ rightE (En.mk 2 c n sp sq 0 0 mp mq prim 0 false ws) = true then some (En.mk 2 c n sp sq 0 0 mp mq prim 0 false ws) else none := by unfold readE; rw [HRW]
  refine rp11_g I s w hl 2 c n sp sq 0 0 mp mq prim 0 false ws t0 t4 t7 H1 ?_ ?_ hok.1 (Nat.le_trans hok.2 (by decide)) hR
  · intro B w W bx br be h
    exact th31_155 2 c t1 g1 n t2 g2 sp sq t3 g3 mp mq t4 g4 h
  · intro B w W bx br be h
    exact tr32_155 2 prim t5 g5 nw t6 g6 ws t7 g7 h
set_option maxHeartbeats 800000 in
theorem rp11_3 (I : R10) (s : List UInt8) (w : World) (hl : s.length < 4611686018427387904) (hk : (rdNum 9 ⟨s, 0⟩).1 = 3) : Calls Try.prog 11 #[.string (bs s)] w (RdPost s w) := by
  obtain ⟨t0, ht0⟩ : ∃ x, (rdNum 9 ⟨s, 0⟩).2 = x := ⟨_, rfl⟩
  have H1 : rdNum 9 ⟨s, 0⟩ = (3, t0) := Prod.ext hk ht0
  obtain ⟨c, t1, g1⟩ : ∃ c t1, rdNum 4294967295 t0 = (c, t1) := ⟨_, _, rfl⟩
  obtain ⟨n, t2, g2⟩ : ∃ n t2, rdNum 4294967295 t1 = (n, t2) := ⟨_, _, rfl⟩
  obtain ⟨sp, sq, t3, g3⟩ : ∃ sp sq t3, rdStamp t2 = ((sp, sq), t3) := ⟨_, _, _, rfl⟩
  obtain ⟨ap, aq, t4, g4⟩ : ∃ ap aq t4, rdStamp t3 = ((ap, aq), t4) := ⟨_, _, _, rfl⟩
  obtain ⟨pt, t5, g5⟩ : ∃ pt t5, rdNum 255 t4 = (pt, t5) := ⟨_, _, rfl⟩
  have HRW : rawE s = ((En.mk 3 c n sp sq ap aq 0 0 [] pt false []), t5) := by
    simp [rawE, rBy, rSt, rMin, rPrim, rCnt, rAt, rPt, rDn, hasBy, hasSt, hasAt, hasPt, H1, g1, g2, g3, g4, g5, rWs]
  have hok := raw_enok s
  rw [HRW] at hok
  have hR : readE s = if rdEnd t5 = 0 ∧ rightE (En.mk 3 c n sp sq ap aq 0 0 [] pt false []) = true then some (En.mk 3 c n sp sq ap aq 0 0 [] pt false []) else none := by unfold readE; rw [HRW]
  refine rp11_g I s w hl 3 c n sp sq ap aq 0 0 [] pt false [] t0 t4 t5 H1 ?_ ?_ hok.1 (Nat.le_trans hok.2 (by decide)) hR
  · intro B w W bx br be h
    exact th31_551 3 c t1 g1 n t2 g2 sp sq t3 g3 ap aq t4 g4 h
  · intro B w W bx br be h
    exact (tr32_551 3 pt t5 g5 h).mono fun r w' hh => ⟨hh.1, none, 0, hh.2⟩
set_option maxHeartbeats 800000 in
theorem rp11_4 (I : R10) (s : List UInt8) (w : World) (hl : s.length < 4611686018427387904) (hk : (rdNum 9 ⟨s, 0⟩).1 = 4) : Calls Try.prog 11 #[.string (bs s)] w (RdPost s w) := by
  obtain ⟨t0, ht0⟩ : ∃ x, (rdNum 9 ⟨s, 0⟩).2 = x := ⟨_, rfl⟩
  have H1 : rdNum 9 ⟨s, 0⟩ = (4, t0) := Prod.ext hk ht0
  obtain ⟨c, t1, g1⟩ : ∃ c t1, rdNum 4294967295 t0 = (c, t1) := ⟨_, _, rfl⟩
  obtain ⟨n, t2, g2⟩ : ∃ n t2, rdNum 4294967295 t1 = (n, t2) := ⟨_, _, rfl⟩
  obtain ⟨ap, aq, t3, g3⟩ : ∃ ap aq t3, rdStamp t2 = ((ap, aq), t3) := ⟨_, _, _, rfl⟩
  have HRW : rawE s = ((En.mk 4 c n 0 0 ap aq 0 0 [] 0 false []), t3) := by
    simp [rawE, rBy, rSt, rMin, rPrim, rCnt, rAt, rPt, rDn, hasBy, hasSt, hasAt, hasPt, H1, g1, g2, g3, rWs]
  have hok := raw_enok s
  rw [HRW] at hok
  have hR : readE s = if rdEnd t3 = 0 ∧ rightE (En.mk 4 c n 0 0 ap aq 0 0 [] 0 false []) = true then some (En.mk 4 c n 0 0 ap aq 0 0 [] 0 false []) else none := by unfold readE; rw [HRW]
  refine rp11_g I s w hl 4 c n 0 0 ap aq 0 0 [] 0 false [] t0 t3 t3 H1 ?_ ?_ hok.1 (Nat.le_trans hok.2 (by decide)) hR
  · intro B w W bx br be h
    exact th31_517 4 c t1 g1 n t2 g2 ap aq t3 g3 h
  · intro B w W bx br be h
    exact (tr32_517 4  h).mono fun r w' hh => ⟨hh.1, none, 0, hh.2⟩
set_option maxHeartbeats 800000 in
theorem rp11_5 (I : R10) (s : List UInt8) (w : World) (hl : s.length < 4611686018427387904) (hk : (rdNum 9 ⟨s, 0⟩).1 = 5) : Calls Try.prog 11 #[.string (bs s)] w (RdPost s w) := by
  obtain ⟨t0, ht0⟩ : ∃ x, (rdNum 9 ⟨s, 0⟩).2 = x := ⟨_, rfl⟩
  have H1 : rdNum 9 ⟨s, 0⟩ = (5, t0) := Prod.ext hk ht0
  obtain ⟨c, t1, g1⟩ : ∃ c t1, rdNum 4294967295 t0 = (c, t1) := ⟨_, _, rfl⟩
  obtain ⟨n, t2, g2⟩ : ∃ n t2, rdNum 4294967295 t1 = (n, t2) := ⟨_, _, rfl⟩
  obtain ⟨sp, sq, t3, g3⟩ : ∃ sp sq t3, rdStamp t2 = ((sp, sq), t3) := ⟨_, _, _, rfl⟩
  have HRW : rawE s = ((En.mk 5 c n sp sq 0 0 0 0 [] 0 false []), t3) := by
    simp [rawE, rBy, rSt, rMin, rPrim, rCnt, rAt, rPt, rDn, hasBy, hasSt, hasAt, hasPt, H1, g1, g2, g3, rWs]
  have hok := raw_enok s
  rw [HRW] at hok
  have hR : readE s = if rdEnd t3 = 0 ∧ rightE (En.mk 5 c n sp sq 0 0 0 0 [] 0 false []) = true then some (En.mk 5 c n sp sq 0 0 0 0 [] 0 false []) else none := by unfold readE; rw [HRW]
  refine rp11_g I s w hl 5 c n sp sq 0 0 0 0 [] 0 false [] t0 t3 t3 H1 ?_ ?_ hok.1 (Nat.le_trans hok.2 (by decide)) hR
  · intro B w W bx br be h
    exact th31_3 5 c t1 g1 n t2 g2 sp sq t3 g3 h
  · intro B w W bx br be h
    exact (tr32_3 5  h).mono fun r w' hh => ⟨hh.1, none, 0, hh.2⟩
set_option maxHeartbeats 800000 in
theorem rp11_6 (I : R10) (s : List UInt8) (w : World) (hl : s.length < 4611686018427387904) (hk : (rdNum 9 ⟨s, 0⟩).1 = 6) : Calls Try.prog 11 #[.string (bs s)] w (RdPost s w) := by
  obtain ⟨t0, ht0⟩ : ∃ x, (rdNum 9 ⟨s, 0⟩).2 = x := ⟨_, rfl⟩
  have H1 : rdNum 9 ⟨s, 0⟩ = (6, t0) := Prod.ext hk ht0
  obtain ⟨ap, aq, t1, g1⟩ : ∃ ap aq t1, rdStamp t0 = ((ap, aq), t1) := ⟨_, _, _, rfl⟩
  have HRW : rawE s = ((En.mk 6 0 0 0 0 ap aq 0 0 [] 0 false []), t1) := by
    simp [rawE, rBy, rSt, rMin, rPrim, rCnt, rAt, rPt, rDn, hasBy, hasSt, hasAt, hasPt, H1, g1, rWs]
  have hok := raw_enok s
  rw [HRW] at hok
  have hR : readE s = if rdEnd t1 = 0 ∧ rightE (En.mk 6 0 0 0 0 ap aq 0 0 [] 0 false []) = true then some (En.mk 6 0 0 0 0 ap aq 0 0 [] 0 false []) else none := by unfold readE; rw [HRW]
  refine rp11_g I s w hl 6 0 0 0 0 ap aq 0 0 [] 0 false [] t0 t1 t1 H1 ?_ ?_ hok.1 (Nat.le_trans hok.2 (by decide)) hR
  · intro B w W bx br be h
    exact th31_4 6 ap aq t1 g1 h
  · intro B w W bx br be h
    exact (tr32_4 6  h).mono fun r w' hh => ⟨hh.1, none, 0, hh.2⟩
set_option maxHeartbeats 800000 in
theorem rp11_7 (I : R10) (s : List UInt8) (w : World) (hl : s.length < 4611686018427387904) (hk : (rdNum 9 ⟨s, 0⟩).1 = 7) : Calls Try.prog 11 #[.string (bs s)] w (RdPost s w) := by
  obtain ⟨t0, ht0⟩ : ∃ x, (rdNum 9 ⟨s, 0⟩).2 = x := ⟨_, rfl⟩
  have H1 : rdNum 9 ⟨s, 0⟩ = (7, t0) := Prod.ext hk ht0
  obtain ⟨c, t1, g1⟩ : ∃ c t1, rdNum 4294967295 t0 = (c, t1) := ⟨_, _, rfl⟩
  obtain ⟨n, t2, g2⟩ : ∃ n t2, rdNum 4294967295 t1 = (n, t2) := ⟨_, _, rfl⟩
  have HRW : rawE s = ((En.mk 7 c n 0 0 0 0 0 0 [] 0 false []), t2) := by
    simp [rawE, rBy, rSt, rMin, rPrim, rCnt, rAt, rPt, rDn, hasBy, hasSt, hasAt, hasPt, H1, g1, g2, rWs]
  have hok := raw_enok s
  rw [HRW] at hok
  have hR : readE s = if rdEnd t2 = 0 ∧ rightE (En.mk 7 c n 0 0 0 0 0 0 [] 0 false []) = true then some (En.mk 7 c n 0 0 0 0 0 0 [] 0 false []) else none := by unfold readE; rw [HRW]
  refine rp11_g I s w hl 7 c n 0 0 0 0 0 0 [] 0 false [] t0 t2 t2 H1 ?_ ?_ hok.1 (Nat.le_trans hok.2 (by decide)) hR
  · intro B w W bx br be h
    exact th31_1 7 c t1 g1 n t2 g2 h
  · intro B w W bx br be h
    exact (tr32_1 7  h).mono fun r w' hh => ⟨hh.1, none, 0, hh.2⟩
set_option maxHeartbeats 800000 in
theorem rp11_8 (I : R10) (s : List UInt8) (w : World) (hl : s.length < 4611686018427387904) (hk : (rdNum 9 ⟨s, 0⟩).1 = 8) : Calls Try.prog 11 #[.string (bs s)] w (RdPost s w) := by
  obtain ⟨t0, ht0⟩ : ∃ x, (rdNum 9 ⟨s, 0⟩).2 = x := ⟨_, rfl⟩
  have H1 : rdNum 9 ⟨s, 0⟩ = (8, t0) := Prod.ext hk ht0
  obtain ⟨c, t1, g1⟩ : ∃ c t1, rdNum 4294967295 t0 = (c, t1) := ⟨_, _, rfl⟩
  obtain ⟨n, t2, g2⟩ : ∃ n t2, rdNum 4294967295 t1 = (n, t2) := ⟨_, _, rfl⟩
  obtain ⟨ap, aq, t3, g3⟩ : ∃ ap aq t3, rdStamp t2 = ((ap, aq), t3) := ⟨_, _, _, rfl⟩
  obtain ⟨ws, t4, g4⟩ : ∃ ws t4, rWs 1 t3 = (ws, t4) := ⟨_, _, rfl⟩
  have HRW : rawE s = ((En.mk 8 c n 0 0 ap aq 0 0 [] 0 false ws), t4) := by
    simp [rawE, rBy, rSt, rMin, rPrim, rCnt, rAt, rPt, rDn, hasBy, hasSt, hasAt, hasPt, H1, g1, g2, g3, g4]
  have hok := raw_enok s
  rw [HRW] at hok
  have hR : readE s = if rdEnd t4 = 0 ∧ rightE (En.mk 8 c n 0 0 ap aq 0 0 [] 0 false ws) = true then some (En.mk 8 c n 0 0 ap aq 0 0 [] 0 false ws) else none := by unfold readE; rw [HRW]
  refine rp11_g I s w hl 8 c n 0 0 ap aq 0 0 [] 0 false ws t0 t3 t4 H1 ?_ ?_ hok.1 (Nat.le_trans hok.2 (by decide)) hR
  · intro B w W bx br be h
    exact th31_389 8 c t1 g1 n t2 g2 ap aq t3 g3 h
  · intro B w W bx br be h
    exact tr32_389 8 ws t4 g4 h
set_option maxHeartbeats 800000 in
theorem rp11_9 (I : R10) (s : List UInt8) (w : World) (hl : s.length < 4611686018427387904) (hk : (rdNum 9 ⟨s, 0⟩).1 = 9) : Calls Try.prog 11 #[.string (bs s)] w (RdPost s w) := by
  obtain ⟨t0, ht0⟩ : ∃ x, (rdNum 9 ⟨s, 0⟩).2 = x := ⟨_, rfl⟩
  have H1 : rdNum 9 ⟨s, 0⟩ = (9, t0) := Prod.ext hk ht0
  obtain ⟨c, t1, g1⟩ : ∃ c t1, rdNum 4294967295 t0 = (c, t1) := ⟨_, _, rfl⟩
  obtain ⟨n, t2, g2⟩ : ∃ n t2, rdNum 4294967295 t1 = (n, t2) := ⟨_, _, rfl⟩
  obtain ⟨sp, sq, t3, g3⟩ : ∃ sp sq t3, rdStamp t2 = ((sp, sq), t3) := ⟨_, _, _, rfl⟩
  obtain ⟨ap, aq, t4, g4⟩ : ∃ ap aq t4, rdStamp t3 = ((ap, aq), t4) := ⟨_, _, _, rfl⟩
  obtain ⟨pt, t5, g5⟩ : ∃ pt t5, rdNum 255 t4 = (pt, t5) := ⟨_, _, rfl⟩
  obtain ⟨dn, t6, g6⟩ : ∃ dn t6, rdFlag t5 = (dn, t6) := ⟨_, _, rfl⟩
  have HRW : rawE s = ((En.mk 9 c n sp sq ap aq 0 0 [] pt dn []), t6) := by
    simp [rawE, rBy, rSt, rMin, rPrim, rCnt, rAt, rPt, rDn, hasBy, hasSt, hasAt, hasPt, H1, g1, g2, g3, g4, g5, g6, rWs]
  have hok := raw_enok s
  rw [HRW] at hok
  have hR : readE s = if rdEnd t6 = 0 ∧ rightE (En.mk 9 c n sp sq ap aq 0 0 [] pt dn []) = true then some (En.mk 9 c n sp sq ap aq 0 0 [] pt dn []) else none := by unfold readE; rw [HRW]
  refine rp11_g I s w hl 9 c n sp sq ap aq 0 0 [] pt dn [] t0 t4 t6 H1 ?_ ?_ hok.1 (Nat.le_trans hok.2 (by decide)) hR
  · intro B w W bx br be h
    exact th31_103 9 c t1 g1 n t2 g2 sp sq t3 g3 ap aq t4 g4 h
  · intro B w W bx br be h
    exact (tr32_103 9 pt t5 g5 dn t6 g6 h).mono fun r w' hh => ⟨hh.1, none, 0, hh.2⟩
/-- What the laws ask of the program's entry. -/
theorem entryIfe : Ife where
  wr := fun e ao cp w hok hl hws => wp8 right10 e ao cp w hok hl hws
  ri := right10
  rd := fun s w hl => by
    have hle := (rdNum_le 9 ⟨s, 0⟩).1
    have hc : (rdNum 9 ⟨s, 0⟩).1 = 0 ∨ (rdNum 9 ⟨s, 0⟩).1 = 1 ∨ (rdNum 9 ⟨s, 0⟩).1 = 2 ∨ (rdNum 9 ⟨s, 0⟩).1 = 3 ∨ (rdNum 9 ⟨s, 0⟩).1 = 4 ∨ (rdNum 9 ⟨s, 0⟩).1 = 5 ∨ (rdNum 9 ⟨s, 0⟩).1 = 6 ∨ (rdNum 9 ⟨s, 0⟩).1 = 7 ∨ (rdNum 9 ⟨s, 0⟩).1 = 8 ∨ (rdNum 9 ⟨s, 0⟩).1 = 9 := by omega
    rcases hc with h | h | h | h | h | h | h | h | h | h
    · exact rp11_0 right10 s w hl h
    · exact rp11_1 right10 s w hl h
    · exact rp11_2 right10 s w hl h
    · exact rp11_3 right10 s w hl h
    · exact rp11_4 right10 s w hl h
    · exact rp11_5 right10 s w hl h
    · exact rp11_6 right10 s w hl h
    · exact rp11_7 right10 s w hl h
    · exact rp11_8 right10 s w hl h
    · exact rp11_9 right10 s w hl h
end Go.Proofs.Ytmgjlpgjjeknpaa
