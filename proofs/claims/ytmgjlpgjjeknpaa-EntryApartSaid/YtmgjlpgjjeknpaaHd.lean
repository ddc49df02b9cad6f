/-
  The program's Right.
-/
import Derived.Test.YtmgjlpgjjeknpaaHc
import Derived.Test.YtmgjlpgjjeknpaaJx
import Derived.Test.YtmgjlpgjjeknpaaJy
import Derived.Test.YtmgjlpgjjeknpaaHw
namespace Go.Proofs.Ytmgjlpgjjeknpaa
open Go.RowKit Go.Sort

set_option maxHeartbeats 3200000 in
set_option maxRecDepth 100000 in
theorem rt10_out (e : En) (ao : Option Addr) (cp : Nat) (w : World) (hws : WsAt w.heap.size (.slice ao e.ws.length cp) e.ws w) (hm : mask e.k = 0) :
    Calls Try.prog 10 #[.agg #[.int .i64 e.k, .int .u32 (e.c : Int), .int .u32 (e.n : Int), .int .u64 (e.sp : Int), .int .u32 (e.sl : Int), .int .u64 (e.ap : Int), .int .u32 (e.al : Int), .int .u64 (e.mp : Int), .int .u32 (e.ml : Int), .string (bs e.prim), .int .u8 (e.pt : Int), .bool e.dn, .slice ao e.ws.length cp]] w fun r w' => r = .returned (.bool false) ∧ Below w.heap.size w w' := by
  have H0 : Hid _ := eb_new (e := e) hws
  obtain ⟨W1, hW1⟩ : ∃ W1, w.alloc (.cells #[.int .i64 e.k, .int .u32 (e.c : Int), .int .u32 (e.n : Int), .int .u64 (e.sp : Int), .int .u32 (e.sl : Int), .int .u64 (e.ap : Int), .int .u32 (e.al : Int), .int .u64 (e.mp : Int), .int .u32 (e.ml : Int), .string (bs e.prim), .int .u8 (e.pt : Int), .bool e.dn, .slice ao e.ws.length cp] 30) = W1 := ⟨_, rfl⟩
  obtain ⟨b, hb⟩ : ∃ b, w.heap.size = b := ⟨_, rfl⟩
  have H1 : Hid (Eb w b e ao cp W1) := by rw [← hb, ← hW1]; exact H0.out
  clear H0 hws
  have C : Hid (1 = 1 → Calls Try.prog 15 #[.int .i64 e.k] W1 fun r w' => r = .returned (.int .u16 0) ∧ W1 = w') := fun _ => by
    have := fields15 e.k W1
    rw [hm] at this
    exact this
  clear hm
  have p0 : W1.cell? ⟨b, 0, none⟩ = some (.int .i64 e.k) := block_cell H1.out.x rfl
  go_enter Try.func10, Try.ntmps10
  go_wp2_with fail
  refine (C.out (by trivial)).mono ?_
  rintro r wx ⟨rfl, rfl⟩
  go_wp2_with fail
  go_ret
  exact ⟨rfl, H1.out.bel⟩
set_option maxHeartbeats 3200000 in
set_option maxRecDepth 100000 in
theorem rt10 (m : Nat) (z1 z2 z3 z4 : Bool) (e : En) (ao : Option Addr) (cp : Nat) (w : World) (hws : WsAt w.heap.size (.slice ao e.ws.length cp) e.ws w) (hm : mask e.k = m) (hm0 : ¬ m = 0) (c25 : (∀ W : World, WsAt W.heap.size (.slice ao e.ws.length cp) e.ws W → Calls Try.prog 25 #[.agg #[.int .i64 e.k, .int .u32 (e.c : Int), .int .u32 (e.n : Int), .int .u64 (e.sp : Int), .int .u32 (e.sl : Int), .int .u64 (e.ap : Int), .int .u32 (e.al : Int), .int .u64 (e.mp : Int), .int .u32 (e.ml : Int), .string (bs e.prim), .int .u8 (e.pt : Int), .bool e.dn, .slice ao e.ws.length cp], .int .u16 (m : Int)] W fun r w' => r = .returned (.bool z1) ∧ Below W.heap.size W w')) (c26 : (∀ W : World, WsAt W.heap.size (.slice ao e.ws.length cp) e.ws W → Calls Try.prog 26 #[.agg #[.int .i64 e.k, .int .u32 (e.c : Int), .int .u32 (e.n : Int), .int .u64 (e.sp : Int), .int .u32 (e.sl : Int), .int .u64 (e.ap : Int), .int .u32 (e.al : Int), .int .u64 (e.mp : Int), .int .u32 (e.ml : Int), .string (bs e.prim), .int .u8 (e.pt : Int), .bool e.dn, .slice ao e.ws.length cp], .int .u16 (m : Int)] W fun r w' => r = .returned (.bool z2) ∧ Below W.heap.size W w')) (c27 : (∀ W : World, WsAt W.heap.size (.slice ao e.ws.length cp) e.ws W → Calls Try.prog 27 #[.agg #[.int .i64 e.k, .int .u32 (e.c : Int), .int .u32 (e.n : Int), .int .u64 (e.sp : Int), .int .u32 (e.sl : Int), .int .u64 (e.ap : Int), .int .u32 (e.al : Int), .int .u64 (e.mp : Int), .int .u32 (e.ml : Int), .string (bs e.prim), .int .u8 (e.pt : Int), .bool e.dn, .slice ao e.ws.length cp]] W fun r w' => r = .returned (.bool z3) ∧ Below W.heap.size W w')) (c28 : (∀ W : World, WsAt W.heap.size (.slice ao e.ws.length cp) e.ws W → Calls Try.prog 28 #[.agg #[.int .i64 e.k, .int .u32 (e.c : Int), .int .u32 (e.n : Int), .int .u64 (e.sp : Int), .int .u32 (e.sl : Int), .int .u64 (e.ap : Int), .int .u32 (e.al : Int), .int .u64 (e.mp : Int), .int .u32 (e.ml : Int), .string (bs e.prim), .int .u8 (e.pt : Int), .bool e.dn, .slice ao e.ws.length cp], .int .u16 (m : Int)] W fun r w' => r = .returned (.bool z4) ∧ Below W.heap.size W w')) :
    Calls Try.prog 10 #[.agg #[.int .i64 e.k, .int .u32 (e.c : Int), .int .u32 (e.n : Int), .int .u64 (e.sp : Int), .int .u32 (e.sl : Int), .int .u64 (e.ap : Int), .int .u32 (e.al : Int), .int .u64 (e.mp : Int), .int .u32 (e.ml : Int), .string (bs e.prim), .int .u8 (e.pt : Int), .bool e.dn, .slice ao e.ws.length cp]] w fun r w' => r = .returned (.bool (z1 && z2 && z3 && z4)) ∧ Below w.heap.size w w' := by
  have H0 : Hid _ := eb_new (e := e) hws
  obtain ⟨W1, hW1⟩ : ∃ W1, w.alloc (.cells #[.int .i64 e.k, .int .u32 (e.c : Int), .int .u32 (e.n : Int), .int .u64 (e.sp : Int), .int .u32 (e.sl : Int), .int .u64 (e.ap : Int), .int .u32 (e.al : Int), .int .u64 (e.mp : Int), .int .u32 (e.ml : Int), .string (bs e.prim), .int .u8 (e.pt : Int), .bool e.dn, .slice ao e.ws.length cp] 30) = W1 := ⟨_, rfl⟩
  obtain ⟨b, hb⟩ : ∃ b, w.heap.size = b := ⟨_, rfl⟩
  have H1 : Hid (Eb w b e ao cp W1) := by rw [← hb, ← hW1]; exact H0.out
  clear H0 hws
  have C : Hid (1 = 1 → Calls Try.prog 15 #[.int .i64 e.k] W1 fun r w' => r = .returned (.int .u16 (m : Int)) ∧ W1 = w') := fun _ => by
    have := fields15 e.k W1
    rw [hm] at this
    exact this
  have C1 : Hid (∀ W, Eb w b e ao cp W → Calls Try.prog 25 #[.agg #[.int .i64 e.k, .int .u32 (e.c : Int), .int .u32 (e.n : Int), .int .u64 (e.sp : Int), .int .u32 (e.sl : Int), .int .u64 (e.ap : Int), .int .u32 (e.al : Int), .int .u64 (e.mp : Int), .int .u32 (e.ml : Int), .string (bs e.prim), .int .u8 (e.pt : Int), .bool e.dn, .slice ao e.ws.length cp], .int .u16 (m : Int)] W fun r w' => r = .returned (.bool z1) ∧ Below W.heap.size W w') := fun W h => c25 W h.wsx
  have C2 : Hid (∀ W, Eb w b e ao cp W → Calls Try.prog 26 #[.agg #[.int .i64 e.k, .int .u32 (e.c : Int), .int .u32 (e.n : Int), .int .u64 (e.sp : Int), .int .u32 (e.sl : Int), .int .u64 (e.ap : Int), .int .u32 (e.al : Int), .int .u64 (e.mp : Int), .int .u32 (e.ml : Int), .string (bs e.prim), .int .u8 (e.pt : Int), .bool e.dn, .slice ao e.ws.length cp], .int .u16 (m : Int)] W fun r w' => r = .returned (.bool z2) ∧ Below W.heap.size W w') := fun W h => c26 W h.wsx
  have C3 : Hid (∀ W, Eb w b e ao cp W → Calls Try.prog 27 #[.agg #[.int .i64 e.k, .int .u32 (e.c : Int), .int .u32 (e.n : Int), .int .u64 (e.sp : Int), .int .u32 (e.sl : Int), .int .u64 (e.ap : Int), .int .u32 (e.al : Int), .int .u64 (e.mp : Int), .int .u32 (e.ml : Int), .string (bs e.prim), .int .u8 (e.pt : Int), .bool e.dn, .slice ao e.ws.length cp]] W fun r w' => r = .returned (.bool z3) ∧ Below W.heap.size W w') := fun W h => c27 W h.wsx
  have C4 : Hid (∀ W, Eb w b e ao cp W → Calls Try.prog 28 #[.agg #[.int .i64 e.k, .int .u32 (e.c : Int), .int .u32 (e.n : Int), .int .u64 (e.sp : Int), .int .u32 (e.sl : Int), .int .u64 (e.ap : Int), .int .u32 (e.al : Int), .int .u64 (e.mp : Int), .int .u32 (e.ml : Int), .string (bs e.prim), .int .u8 (e.pt : Int), .bool e.dn, .slice ao e.ws.length cp], .int .u16 (m : Int)] W fun r w' => r = .returned (.bool z4) ∧ Below W.heap.size W w') := fun W h => c28 W h.wsx
  have HM : Hid (((m : Int) != 0) = true) := by show _ = _; simp only [bne_iff_ne, ne_eq]; omega
  clear hm c25 c26 c27 c28
  have p0 : W1.cell? ⟨b, 0, none⟩ = some (.int .i64 e.k) := block_cell H1.out.x rfl
  go_enter Try.func10, Try.ntmps10
  go_wp2_with fail
  refine (C.out (by trivial)).mono ?_
  rintro r wx ⟨rfl, rfl⟩
  clear C p0 hb hW1
  have p0 : W1.cell? ⟨b, 0, none⟩ = some (.int .i64 e.k) := block_cell H1.out.x rfl
  have p1 : W1.cell? ⟨b, 1, none⟩ = some (.int .u32 (e.c : Int)) := block_cell H1.out.x rfl
  have p2 : W1.cell? ⟨b, 2, none⟩ = some (.int .u32 (e.n : Int)) := block_cell H1.out.x rfl
  have p3 : W1.cell? ⟨b, 3, none⟩ = some (.int .u64 (e.sp : Int)) := block_cell H1.out.x rfl
  have p4 : W1.cell? ⟨b, 4, none⟩ = some (.int .u32 (e.sl : Int)) := block_cell H1.out.x rfl
  have p5 : W1.cell? ⟨b, 5, none⟩ = some (.int .u64 (e.ap : Int)) := block_cell H1.out.x rfl
  have p6 : W1.cell? ⟨b, 6, none⟩ = some (.int .u32 (e.al : Int)) := block_cell H1.out.x rfl
  have p7 : W1.cell? ⟨b, 7, none⟩ = some (.int .u64 (e.mp : Int)) := block_cell H1.out.x rfl
  have p8 : W1.cell? ⟨b, 8, none⟩ = some (.int .u32 (e.ml : Int)) := block_cell H1.out.x rfl
  have p9 : W1.cell? ⟨b, 9, none⟩ = some (.string (bs e.prim)) := block_cell H1.out.x rfl
  have p10 : W1.cell? ⟨b, 10, none⟩ = some (.int .u8 (e.pt : Int)) := block_cell H1.out.x rfl
  have p11 : W1.cell? ⟨b, 11, none⟩ = some (.bool e.dn) := block_cell H1.out.x rfl
  have p12 : W1.cell? ⟨b, 12, none⟩ = some (.slice ao e.ws.length cp) := block_cell H1.out.x rfl
  go_wp2_with fail
  refine (C1.out W1 H1.out).mono ?_
  rintro r w2 ⟨rfl, hbx⟩
  have H2 : Hid (Eb w b e ao cp w2) := H1.out.on hbx
  clear hbx C1 H1 p0 p1 p2 p3 p4 p5 p6 p7 p8 p9 p10 p11 p12
  cases z1
  · go_wp2_with fail
    go_ret
    exact ⟨rfl, H2.out.bel⟩
  have p0 : w2.cell? ⟨b, 0, none⟩ = some (.int .i64 e.k) := block_cell H2.out.x rfl
  have p1 : w2.cell? ⟨b, 1, none⟩ = some (.int .u32 (e.c : Int)) := block_cell H2.out.x rfl
  have p2 : w2.cell? ⟨b, 2, none⟩ = some (.int .u32 (e.n : Int)) := block_cell H2.out.x rfl
  have p3 : w2.cell? ⟨b, 3, none⟩ = some (.int .u64 (e.sp : Int)) := block_cell H2.out.x rfl
  have p4 : w2.cell? ⟨b, 4, none⟩ = some (.int .u32 (e.sl : Int)) := block_cell H2.out.x rfl
  have p5 : w2.cell? ⟨b, 5, none⟩ = some (.int .u64 (e.ap : Int)) := block_cell H2.out.x rfl
  have p6 : w2.cell? ⟨b, 6, none⟩ = some (.int .u32 (e.al : Int)) := block_cell H2.out.x rfl
  have p7 : w2.cell? ⟨b, 7, none⟩ = some (.int .u64 (e.mp : Int)) := block_cell H2.out.x rfl
  have p8 : w2.cell? ⟨b, 8, none⟩ = some (.int .u32 (e.ml : Int)) := block_cell H2.out.x rfl
  have p9 : w2.cell? ⟨b, 9, none⟩ = some (.string (bs e.prim)) := block_cell H2.out.x rfl
  have p10 : w2.cell? ⟨b, 10, none⟩ = some (.int .u8 (e.pt : Int)) := block_cell H2.out.x rfl
  have p11 : w2.cell? ⟨b, 11, none⟩ = some (.bool e.dn) := block_cell H2.out.x rfl
  have p12 : w2.cell? ⟨b, 12, none⟩ = some (.slice ao e.ws.length cp) := block_cell H2.out.x rfl
  go_wp2_with fail
  refine (C2.out w2 H2.out).mono ?_
  rintro r w3 ⟨rfl, hbx⟩
  have H3 : Hid (Eb w b e ao cp w3) := H2.out.on hbx
  clear hbx C2 H2 p0 p1 p2 p3 p4 p5 p6 p7 p8 p9 p10 p11 p12
  cases z2
  · go_wp2_with fail
    go_ret
    exact ⟨rfl, H3.out.bel⟩
  have p0 : w3.cell? ⟨b, 0, none⟩ = some (.int .i64 e.k) := block_cell H3.out.x rfl
  have p1 : w3.cell? ⟨b, 1, none⟩ = some (.int .u32 (e.c : Int)) := block_cell H3.out.x rfl
  have p2 : w3.cell? ⟨b, 2, none⟩ = some (.int .u32 (e.n : Int)) := block_cell H3.out.x rfl
  have p3 : w3.cell? ⟨b, 3, none⟩ = some (.int .u64 (e.sp : Int)) := block_cell H3.out.x rfl
  have p4 : w3.cell? ⟨b, 4, none⟩ = some (.int .u32 (e.sl : Int)) := block_cell H3.out.x rfl
  have p5 : w3.cell? ⟨b, 5, none⟩ = some (.int .u64 (e.ap : Int)) := block_cell H3.out.x rfl
  have p6 : w3.cell? ⟨b, 6, none⟩ = some (.int .u32 (e.al : Int)) := block_cell H3.out.x rfl
  have p7 : w3.cell? ⟨b, 7, none⟩ = some (.int .u64 (e.mp : Int)) := block_cell H3.out.x rfl
  have p8 : w3.cell? ⟨b, 8, none⟩ = some (.int .u32 (e.ml : Int)) := block_cell H3.out.x rfl
  have p9 : w3.cell? ⟨b, 9, none⟩ = some (.string (bs e.prim)) := block_cell H3.out.x rfl
  have p10 : w3.cell? ⟨b, 10, none⟩ = some (.int .u8 (e.pt : Int)) := block_cell H3.out.x rfl
  have p11 : w3.cell? ⟨b, 11, none⟩ = some (.bool e.dn) := block_cell H3.out.x rfl
  have p12 : w3.cell? ⟨b, 12, none⟩ = some (.slice ao e.ws.length cp) := block_cell H3.out.x rfl
  go_wp2_with fail
  refine (C3.out w3 H3.out).mono ?_
  rintro r w4 ⟨rfl, hbx⟩
  have H4 : Hid (Eb w b e ao cp w4) := H3.out.on hbx
  clear hbx C3 H3 p0 p1 p2 p3 p4 p5 p6 p7 p8 p9 p10 p11 p12
  cases z3
  · go_wp2_with fail
    go_ret
    exact ⟨rfl, H4.out.bel⟩
  have p0 : w4.cell? ⟨b, 0, none⟩ = some (.int .i64 e.k) := block_cell H4.out.x rfl
  have p1 : w4.cell? ⟨b, 1, none⟩ = some (.int .u32 (e.c : Int)) := block_cell H4.out.x rfl
  have p2 : w4.cell? ⟨b, 2, none⟩ = some (.int .u32 (e.n : Int)) := block_cell H4.out.x rfl
  have p3 : w4.cell? ⟨b, 3, none⟩ = some (.int .u64 (e.sp : Int)) := block_cell H4.out.x rfl
  have p4 : w4.cell? ⟨b, 4, none⟩ = some (.int .u32 (e.sl : Int)) := block_cell H4.out.x rfl
  have p5 : w4.cell? ⟨b, 5, none⟩ = some (.int .u64 (e.ap : Int)) := block_cell H4.out.x rfl
  have p6 : w4.cell? ⟨b, 6, none⟩ = some (.int .u32 (e.al : Int)) := block_cell H4.out.x rfl
  have p7 : w4.cell? ⟨b, 7, none⟩ = some (.int .u64 (e.mp : Int)) := block_cell H4.out.x rfl
  have p8 : w4.cell? ⟨b, 8, none⟩ = some (.int .u32 (e.ml : Int)) := block_cell H4.out.x rfl
  have p9 : w4.cell? ⟨b, 9, none⟩ = some (.string (bs e.prim)) := block_cell H4.out.x rfl
  have p10 : w4.cell? ⟨b, 10, none⟩ = some (.int .u8 (e.pt : Int)) := block_cell H4.out.x rfl
  have p11 : w4.cell? ⟨b, 11, none⟩ = some (.bool e.dn) := block_cell H4.out.x rfl
  have p12 : w4.cell? ⟨b, 12, none⟩ = some (.slice ao e.ws.length cp) := block_cell H4.out.x rfl
  go_wp2_with fail
  refine (C4.out w4 H4.out).mono ?_
  rintro r w5 ⟨rfl, hbx⟩
  have H5 : Hid (Eb w b e ao cp w5) := H4.out.on hbx
  clear hbx C4 H4 p0 p1 p2 p3 p4 p5 p6 p7 p8 p9 p10 p11 p12
  go_wp2_with fail
  go_ret
  exact ⟨congrArg (fun b => Ending.returned (.bool b)) (show (((m : Int) != 0) && z4) = z4 from by rw [HM.out]; rfl), H5.out.bel⟩
set_option maxHeartbeats 800000 in
theorem rt10_1 (c n sp sq ap aq mp mq : Nat) (prim : List UInt8) (pt : Nat) (dn : Bool) (ws : List Wr) (ao : Option Addr) (cp : Nat) (w : World) (hws : WsAt w.heap.size (.slice ao ws.length cp) ws w) :
    Calls Try.prog 10 #[.agg #[.int .i64 1, .int .u32 (c : Int), .int .u32 (n : Int), .int .u64 (sp : Int), .int .u32 (sq : Int), .int .u64 (ap : Int), .int .u32 (aq : Int), .int .u64 (mp : Int), .int .u32 (mq : Int), .string (bs prim), .int .u8 (pt : Int), .bool dn, .slice ao ws.length cp]] w fun r w' => r = .returned (.bool (rightE (En.mk 1 c n sp sq ap aq mp mq prim pt dn ws))) ∧ Below w.heap.size w w' := by
  have hR : rightE (En.mk 1 c n sp sq ap aq mp mq prim pt dn ws) = (zeroB (En.mk 1 c n sp sq ap aq mp mq prim pt dn ws) && (!(false && noneAt (En.mk 1 c n sp sq ap aq mp mq prim pt dn ws)) && (rightS sp sq && rightS ap aq && rightS mp mq)) && (!((1 : Int) == 9) || !noneAt (En.mk 1 c n sp sq ap aq mp mq prim pt dn ws) || (pt == 0 && !dn)) && true) := by
    rw [right_plain]
    generalize zeroB (En.mk 1 c n sp sq ap aq mp mq prim pt dn ws) = a
    simp only [kindOk, noneAt]
    generalize (rightS sp sq && rightS ap aq && rightS mp mq) = s
    skip
    skip
    skip
    skip
    cases a <;> cases s <;> rfl
  rw [hR]
  exact rt10 4 (zeroB (En.mk 1 c n sp sq ap aq mp mq prim pt dn ws)) (!(false && noneAt (En.mk 1 c n sp sq ap aq mp mq prim pt dn ws)) && (rightS sp sq && rightS ap aq && rightS mp mq)) (!((1 : Int) == 9) || !noneAt (En.mk 1 c n sp sq ap aq mp mq prim pt dn ws) || (pt == 0 && !dn)) true (En.mk 1 c n sp sq ap aq mp mq prim pt dn ws) ao cp w hws rfl (by decide) (fun W h => no25_1 c n sp sq ap aq mp mq prim pt dn ws ao cp W h) (fun W h => st26 4 false (En.mk 1 c n sp sq ap aq mp mq prim pt dn ws) ao cp W h (fun W _ => has41 4 512 W (by omega) (by omega))) (fun W h => vd27 (En.mk 1 c n sp sq ap aq mp mq prim pt dn ws) ao cp W h) (fun W h => aw28_none 4 (En.mk 1 c n sp sq ap aq mp mq prim pt dn ws) ao cp W h (fun W _ => has41 4 16 W (by omega) (by omega)) (fun W _ => has41 4 256 W (by omega) (by omega)) (fun W _ => has41 4 128 W (by omega) (by omega)))
set_option maxHeartbeats 800000 in
theorem rt10_2 (c n sp sq ap aq mp mq : Nat) (prim : List UInt8) (pt : Nat) (dn : Bool) (ws : List Wr) (ao : Option Addr) (cp : Nat) (w : World) (hws : WsAt w.heap.size (.slice ao ws.length cp) ws w) :
    Calls Try.prog 10 #[.agg #[.int .i64 2, .int .u32 (c : Int), .int .u32 (n : Int), .int .u64 (sp : Int), .int .u32 (sq : Int), .int .u64 (ap : Int), .int .u32 (aq : Int), .int .u64 (mp : Int), .int .u32 (mq : Int), .string (bs prim), .int .u8 (pt : Int), .bool dn, .slice ao ws.length cp]] w fun r w' => r = .returned (.bool (rightE (En.mk 2 c n sp sq ap aq mp mq prim pt dn ws))) ∧ Below w.heap.size w w' := by
  have hR : rightE (En.mk 2 c n sp sq ap aq mp mq prim pt dn ws) = (zeroB (En.mk 2 c n sp sq ap aq mp mq prim pt dn ws) && (!(false && noneAt (En.mk 2 c n sp sq ap aq mp mq prim pt dn ws)) && (rightS sp sq && rightS ap aq && rightS mp mq)) && (!((2 : Int) == 9) || !noneAt (En.mk 2 c n sp sq ap aq mp mq prim pt dn ws) || (pt == 0 && !dn)) && (kOk prim && rightW ws)) := by
    rw [right_plain]
    generalize zeroB (En.mk 2 c n sp sq ap aq mp mq prim pt dn ws) = a
    simp only [kindOk, noneAt]
    generalize (rightS sp sq && rightS ap aq && rightS mp mq) = s
    generalize rightW ws = u
    generalize kOk prim = v
    skip
    skip
    cases a <;> cases s <;> cases u <;> cases v <;> rfl
  rw [hR]
  exact rt10 155 (zeroB (En.mk 2 c n sp sq ap aq mp mq prim pt dn ws)) (!(false && noneAt (En.mk 2 c n sp sq ap aq mp mq prim pt dn ws)) && (rightS sp sq && rightS ap aq && rightS mp mq)) (!((2 : Int) == 9) || !noneAt (En.mk 2 c n sp sq ap aq mp mq prim pt dn ws) || (pt == 0 && !dn)) (kOk prim && rightW ws) (En.mk 2 c n sp sq ap aq mp mq prim pt dn ws) ao cp w hws rfl (by decide) (fun W h => no25_2 c n sp sq ap aq mp mq prim pt dn ws ao cp W h) (fun W h => st26 155 false (En.mk 2 c n sp sq ap aq mp mq prim pt dn ws) ao cp W h (fun W _ => has41 155 512 W (by omega) (by omega))) (fun W h => vd27 (En.mk 2 c n sp sq ap aq mp mq prim pt dn ws) ao cp W h) (fun W h => aw28_lay 155 (En.mk 2 c n sp sq ap aq mp mq prim pt dn ws) ao cp W h (fun W _ => has41 155 16 W (by omega) (by omega)) (fun W _ => has41 155 256 W (by omega) (by omega)) (fun W _ => has41 155 128 W (by omega) (by omega)))
set_option maxHeartbeats 800000 in
theorem rt10_3 (c n sp sq ap aq mp mq : Nat) (prim : List UInt8) (pt : Nat) (dn : Bool) (ws : List Wr) (ao : Option Addr) (cp : Nat) (w : World) (hws : WsAt w.heap.size (.slice ao ws.length cp) ws w) :
    Calls Try.prog 10 #[.agg #[.int .i64 3, .int .u32 (c : Int), .int .u32 (n : Int), .int .u64 (sp : Int), .int .u32 (sq : Int), .int .u64 (ap : Int), .int .u32 (aq : Int), .int .u64 (mp : Int), .int .u32 (mq : Int), .string (bs prim), .int .u8 (pt : Int), .bool dn, .slice ao ws.length cp]] w fun r w' => r = .returned (.bool (rightE (En.mk 3 c n sp sq ap aq mp mq prim pt dn ws))) ∧ Below w.heap.size w w' := by
  have hR : rightE (En.mk 3 c n sp sq ap aq mp mq prim pt dn ws) = (zeroB (En.mk 3 c n sp sq ap aq mp mq prim pt dn ws) && (!(true && noneAt (En.mk 3 c n sp sq ap aq mp mq prim pt dn ws)) && (rightS sp sq && rightS ap aq && rightS mp mq)) && (!((3 : Int) == 9) || !noneAt (En.mk 3 c n sp sq ap aq mp mq prim pt dn ws) || (pt == 0 && !dn)) && true) := by
    rw [right_plain]
    generalize zeroB (En.mk 3 c n sp sq ap aq mp mq prim pt dn ws) = a
    simp only [kindOk, noneAt]
    generalize (rightS sp sq && rightS ap aq && rightS mp mq) = s
    skip
    skip
    generalize (ap == 0 && aq == 0) = o
    skip
    cases a <;> cases s <;> cases o <;> rfl
  rw [hR]
  exact rt10 551 (zeroB (En.mk 3 c n sp sq ap aq mp mq prim pt dn ws)) (!(true && noneAt (En.mk 3 c n sp sq ap aq mp mq prim pt dn ws)) && (rightS sp sq && rightS ap aq && rightS mp mq)) (!((3 : Int) == 9) || !noneAt (En.mk 3 c n sp sq ap aq mp mq prim pt dn ws) || (pt == 0 && !dn)) true (En.mk 3 c n sp sq ap aq mp mq prim pt dn ws) ao cp w hws rfl (by decide) (fun W h => no25_3 c n sp sq ap aq mp mq prim pt dn ws ao cp W h) (fun W h => st26 551 true (En.mk 3 c n sp sq ap aq mp mq prim pt dn ws) ao cp W h (fun W _ => has41 551 512 W (by omega) (by omega))) (fun W h => vd27 (En.mk 3 c n sp sq ap aq mp mq prim pt dn ws) ao cp W h) (fun W h => aw28_none 551 (En.mk 3 c n sp sq ap aq mp mq prim pt dn ws) ao cp W h (fun W _ => has41 551 16 W (by omega) (by omega)) (fun W _ => has41 551 256 W (by omega) (by omega)) (fun W _ => has41 551 128 W (by omega) (by omega)))
set_option maxHeartbeats 800000 in
theorem rt10_4 (c n sp sq ap aq mp mq : Nat) (prim : List UInt8) (pt : Nat) (dn : Bool) (ws : List Wr) (ao : Option Addr) (cp : Nat) (w : World) (hws : WsAt w.heap.size (.slice ao ws.length cp) ws w) :
    Calls Try.prog 10 #[.agg #[.int .i64 4, .int .u32 (c : Int), .int .u32 (n : Int), .int .u64 (sp : Int), .int .u32 (sq : Int), .int .u64 (ap : Int), .int .u32 (aq : Int), .int .u64 (mp : Int), .int .u32 (mq : Int), .string (bs prim), .int .u8 (pt : Int), .bool dn, .slice ao ws.length cp]] w fun r w' => r = .returned (.bool (rightE (En.mk 4 c n sp sq ap aq mp mq prim pt dn ws))) ∧ Below w.heap.size w w' := by
  have hR : rightE (En.mk 4 c n sp sq ap aq mp mq prim pt dn ws) = (zeroB (En.mk 4 c n sp sq ap aq mp mq prim pt dn ws) && (!(true && noneAt (En.mk 4 c n sp sq ap aq mp mq prim pt dn ws)) && (rightS sp sq && rightS ap aq && rightS mp mq)) && (!((4 : Int) == 9) || !noneAt (En.mk 4 c n sp sq ap aq mp mq prim pt dn ws) || (pt == 0 && !dn)) && true) := by
    rw [right_plain]
    generalize zeroB (En.mk 4 c n sp sq ap aq mp mq prim pt dn ws) = a
    simp only [kindOk, noneAt]
    generalize (rightS sp sq && rightS ap aq && rightS mp mq) = s
    skip
    skip
    generalize (ap == 0 && aq == 0) = o
    skip
    cases a <;> cases s <;> cases o <;> rfl
  rw [hR]
  exact rt10 517 (zeroB (En.mk 4 c n sp sq ap aq mp mq prim pt dn ws)) (!(true && noneAt (En.mk 4 c n sp sq ap aq mp mq prim pt dn ws)) && (rightS sp sq && rightS ap aq && rightS mp mq)) (!((4 : Int) == 9) || !noneAt (En.mk 4 c n sp sq ap aq mp mq prim pt dn ws) || (pt == 0 && !dn)) true (En.mk 4 c n sp sq ap aq mp mq prim pt dn ws) ao cp w hws rfl (by decide) (fun W h => no25_4 c n sp sq ap aq mp mq prim pt dn ws ao cp W h) (fun W h => st26 517 true (En.mk 4 c n sp sq ap aq mp mq prim pt dn ws) ao cp W h (fun W _ => has41 517 512 W (by omega) (by omega))) (fun W h => vd27 (En.mk 4 c n sp sq ap aq mp mq prim pt dn ws) ao cp W h) (fun W h => aw28_none 517 (En.mk 4 c n sp sq ap aq mp mq prim pt dn ws) ao cp W h (fun W _ => has41 517 16 W (by omega) (by omega)) (fun W _ => has41 517 256 W (by omega) (by omega)) (fun W _ => has41 517 128 W (by omega) (by omega)))
set_option maxHeartbeats 800000 in
theorem rt10_5 (c n sp sq ap aq mp mq : Nat) (prim : List UInt8) (pt : Nat) (dn : Bool) (ws : List Wr) (ao : Option Addr) (cp : Nat) (w : World) (hws : WsAt w.heap.size (.slice ao ws.length cp) ws w) :
    Calls Try.prog 10 #[.agg #[.int .i64 5, .int .u32 (c : Int), .int .u32 (n : Int), .int .u64 (sp : Int), .int .u32 (sq : Int), .int .u64 (ap : Int), .int .u32 (aq : Int), .int .u64 (mp : Int), .int .u32 (mq : Int), .string (bs prim), .int .u8 (pt : Int), .bool dn, .slice ao ws.length cp]] w fun r w' => r = .returned (.bool (rightE (En.mk 5 c n sp sq ap aq mp mq prim pt dn ws))) ∧ Below w.heap.size w w' := by
  have hR : rightE (En.mk 5 c n sp sq ap aq mp mq prim pt dn ws) = (zeroB (En.mk 5 c n sp sq ap aq mp mq prim pt dn ws) && (!(false && noneAt (En.mk 5 c n sp sq ap aq mp mq prim pt dn ws)) && (rightS sp sq && rightS ap aq && rightS mp mq)) && (!((5 : Int) == 9) || !noneAt (En.mk 5 c n sp sq ap aq mp mq prim pt dn ws) || (pt == 0 && !dn)) && true) := by
    rw [right_plain]
    generalize zeroB (En.mk 5 c n sp sq ap aq mp mq prim pt dn ws) = a
    simp only [kindOk, noneAt]
    generalize (rightS sp sq && rightS ap aq && rightS mp mq) = s
    skip
    skip
    skip
    skip
    cases a <;> cases s <;> rfl
  rw [hR]
  exact rt10 3 (zeroB (En.mk 5 c n sp sq ap aq mp mq prim pt dn ws)) (!(false && noneAt (En.mk 5 c n sp sq ap aq mp mq prim pt dn ws)) && (rightS sp sq && rightS ap aq && rightS mp mq)) (!((5 : Int) == 9) || !noneAt (En.mk 5 c n sp sq ap aq mp mq prim pt dn ws) || (pt == 0 && !dn)) true (En.mk 5 c n sp sq ap aq mp mq prim pt dn ws) ao cp w hws rfl (by decide) (fun W h => no25_5 c n sp sq ap aq mp mq prim pt dn ws ao cp W h) (fun W h => st26 3 false (En.mk 5 c n sp sq ap aq mp mq prim pt dn ws) ao cp W h (fun W _ => has41 3 512 W (by omega) (by omega))) (fun W h => vd27 (En.mk 5 c n sp sq ap aq mp mq prim pt dn ws) ao cp W h) (fun W h => aw28_none 3 (En.mk 5 c n sp sq ap aq mp mq prim pt dn ws) ao cp W h (fun W _ => has41 3 16 W (by omega) (by omega)) (fun W _ => has41 3 256 W (by omega) (by omega)) (fun W _ => has41 3 128 W (by omega) (by omega)))
set_option maxHeartbeats 800000 in
theorem rt10_6 (c n sp sq ap aq mp mq : Nat) (prim : List UInt8) (pt : Nat) (dn : Bool) (ws : List Wr) (ao : Option Addr) (cp : Nat) (w : World) (hws : WsAt w.heap.size (.slice ao ws.length cp) ws w) :
    Calls Try.prog 10 #[.agg #[.int .i64 6, .int .u32 (c : Int), .int .u32 (n : Int), .int .u64 (sp : Int), .int .u32 (sq : Int), .int .u64 (ap : Int), .int .u32 (aq : Int), .int .u64 (mp : Int), .int .u32 (mq : Int), .string (bs prim), .int .u8 (pt : Int), .bool dn, .slice ao ws.length cp]] w fun r w' => r = .returned (.bool (rightE (En.mk 6 c n sp sq ap aq mp mq prim pt dn ws))) ∧ Below w.heap.size w w' := by
  have hR : rightE (En.mk 6 c n sp sq ap aq mp mq prim pt dn ws) = (zeroB (En.mk 6 c n sp sq ap aq mp mq prim pt dn ws) && (!(false && noneAt (En.mk 6 c n sp sq ap aq mp mq prim pt dn ws)) && (rightS sp sq && rightS ap aq && rightS mp mq)) && (!((6 : Int) == 9) || !noneAt (En.mk 6 c n sp sq ap aq mp mq prim pt dn ws) || (pt == 0 && !dn)) && true) := by
    rw [right_plain]
    generalize zeroB (En.mk 6 c n sp sq ap aq mp mq prim pt dn ws) = a
    simp only [kindOk, noneAt]
    generalize (rightS sp sq && rightS ap aq && rightS mp mq) = s
    skip
    skip
    skip
    skip
    cases a <;> cases s <;> rfl
  rw [hR]
  exact rt10 4 (zeroB (En.mk 6 c n sp sq ap aq mp mq prim pt dn ws)) (!(false && noneAt (En.mk 6 c n sp sq ap aq mp mq prim pt dn ws)) && (rightS sp sq && rightS ap aq && rightS mp mq)) (!((6 : Int) == 9) || !noneAt (En.mk 6 c n sp sq ap aq mp mq prim pt dn ws) || (pt == 0 && !dn)) true (En.mk 6 c n sp sq ap aq mp mq prim pt dn ws) ao cp w hws rfl (by decide) (fun W h => no25_6 c n sp sq ap aq mp mq prim pt dn ws ao cp W h) (fun W h => st26 4 false (En.mk 6 c n sp sq ap aq mp mq prim pt dn ws) ao cp W h (fun W _ => has41 4 512 W (by omega) (by omega))) (fun W h => vd27 (En.mk 6 c n sp sq ap aq mp mq prim pt dn ws) ao cp W h) (fun W h => aw28_none 4 (En.mk 6 c n sp sq ap aq mp mq prim pt dn ws) ao cp W h (fun W _ => has41 4 16 W (by omega) (by omega)) (fun W _ => has41 4 256 W (by omega) (by omega)) (fun W _ => has41 4 128 W (by omega) (by omega)))
set_option maxHeartbeats 800000 in
theorem rt10_7 (c n sp sq ap aq mp mq : Nat) (prim : List UInt8) (pt : Nat) (dn : Bool) (ws : List Wr) (ao : Option Addr) (cp : Nat) (w : World) (hws : WsAt w.heap.size (.slice ao ws.length cp) ws w) :
    Calls Try.prog 10 #[.agg #[.int .i64 7, .int .u32 (c : Int), .int .u32 (n : Int), .int .u64 (sp : Int), .int .u32 (sq : Int), .int .u64 (ap : Int), .int .u32 (aq : Int), .int .u64 (mp : Int), .int .u32 (mq : Int), .string (bs prim), .int .u8 (pt : Int), .bool dn, .slice ao ws.length cp]] w fun r w' => r = .returned (.bool (rightE (En.mk 7 c n sp sq ap aq mp mq prim pt dn ws))) ∧ Below w.heap.size w w' := by
  have hR : rightE (En.mk 7 c n sp sq ap aq mp mq prim pt dn ws) = (zeroB (En.mk 7 c n sp sq ap aq mp mq prim pt dn ws) && (!(false && noneAt (En.mk 7 c n sp sq ap aq mp mq prim pt dn ws)) && (rightS sp sq && rightS ap aq && rightS mp mq)) && (!((7 : Int) == 9) || !noneAt (En.mk 7 c n sp sq ap aq mp mq prim pt dn ws) || (pt == 0 && !dn)) && true) := by
    rw [right_plain]
    generalize zeroB (En.mk 7 c n sp sq ap aq mp mq prim pt dn ws) = a
    simp only [kindOk, noneAt]
    generalize (rightS sp sq && rightS ap aq && rightS mp mq) = s
    skip
    skip
    skip
    skip
    cases a <;> cases s <;> rfl
  rw [hR]
  exact rt10 1 (zeroB (En.mk 7 c n sp sq ap aq mp mq prim pt dn ws)) (!(false && noneAt (En.mk 7 c n sp sq ap aq mp mq prim pt dn ws)) && (rightS sp sq && rightS ap aq && rightS mp mq)) (!((7 : Int) == 9) || !noneAt (En.mk 7 c n sp sq ap aq mp mq prim pt dn ws) || (pt == 0 && !dn)) true (En.mk 7 c n sp sq ap aq mp mq prim pt dn ws) ao cp w hws rfl (by decide) (fun W h => no25_7 c n sp sq ap aq mp mq prim pt dn ws ao cp W h) (fun W h => st26 1 false (En.mk 7 c n sp sq ap aq mp mq prim pt dn ws) ao cp W h (fun W _ => has41 1 512 W (by omega) (by omega))) (fun W h => vd27 (En.mk 7 c n sp sq ap aq mp mq prim pt dn ws) ao cp W h) (fun W h => aw28_none 1 (En.mk 7 c n sp sq ap aq mp mq prim pt dn ws) ao cp W h (fun W _ => has41 1 16 W (by omega) (by omega)) (fun W _ => has41 1 256 W (by omega) (by omega)) (fun W _ => has41 1 128 W (by omega) (by omega)))
set_option maxHeartbeats 800000 in
theorem rt10_8 (c n sp sq ap aq mp mq : Nat) (prim : List UInt8) (pt : Nat) (dn : Bool) (ws : List Wr) (ao : Option Addr) (cp : Nat) (w : World) (hws : WsAt w.heap.size (.slice ao ws.length cp) ws w) :
    Calls Try.prog 10 #[.agg #[.int .i64 8, .int .u32 (c : Int), .int .u32 (n : Int), .int .u64 (sp : Int), .int .u32 (sq : Int), .int .u64 (ap : Int), .int .u32 (aq : Int), .int .u64 (mp : Int), .int .u32 (mq : Int), .string (bs prim), .int .u8 (pt : Int), .bool dn, .slice ao ws.length cp]] w fun r w' => r = .returned (.bool (rightE (En.mk 8 c n sp sq ap aq mp mq prim pt dn ws))) ∧ Below w.heap.size w w' := by
  have hR : rightE (En.mk 8 c n sp sq ap aq mp mq prim pt dn ws) = (zeroB (En.mk 8 c n sp sq ap aq mp mq prim pt dn ws) && (!(false && noneAt (En.mk 8 c n sp sq ap aq mp mq prim pt dn ws)) && (rightS sp sq && rightS ap aq && rightS mp mq)) && (!((8 : Int) == 9) || !noneAt (En.mk 8 c n sp sq ap aq mp mq prim pt dn ws) || (pt == 0 && !dn)) && (ws.length == 1 && rightW ws)) := by
    rw [right_plain]
    generalize zeroB (En.mk 8 c n sp sq ap aq mp mq prim pt dn ws) = a
    simp only [kindOk, noneAt]
    generalize (rightS sp sq && rightS ap aq && rightS mp mq) = s
    generalize rightW ws = u
    generalize (ws.length == 1) = v
    skip
    skip
    cases a <;> cases s <;> cases u <;> cases v <;> rfl
  rw [hR]
  exact rt10 389 (zeroB (En.mk 8 c n sp sq ap aq mp mq prim pt dn ws)) (!(false && noneAt (En.mk 8 c n sp sq ap aq mp mq prim pt dn ws)) && (rightS sp sq && rightS ap aq && rightS mp mq)) (!((8 : Int) == 9) || !noneAt (En.mk 8 c n sp sq ap aq mp mq prim pt dn ws) || (pt == 0 && !dn)) (ws.length == 1 && rightW ws) (En.mk 8 c n sp sq ap aq mp mq prim pt dn ws) ao cp w hws rfl (by decide) (fun W h => no25_8 c n sp sq ap aq mp mq prim pt dn ws ao cp W h) (fun W h => st26 389 false (En.mk 8 c n sp sq ap aq mp mq prim pt dn ws) ao cp W h (fun W _ => has41 389 512 W (by omega) (by omega))) (fun W h => vd27 (En.mk 8 c n sp sq ap aq mp mq prim pt dn ws) ao cp W h) (fun W h => aw28_have 389 (En.mk 8 c n sp sq ap aq mp mq prim pt dn ws) ao cp W h (fun W _ => has41 389 16 W (by omega) (by omega)) (fun W _ => has41 389 256 W (by omega) (by omega)) (fun W _ => has41 389 128 W (by omega) (by omega)))
set_option maxHeartbeats 800000 in
theorem rt10_9 (c n sp sq ap aq mp mq : Nat) (prim : List UInt8) (pt : Nat) (dn : Bool) (ws : List Wr) (ao : Option Addr) (cp : Nat) (w : World) (hws : WsAt w.heap.size (.slice ao ws.length cp) ws w) :
    Calls Try.prog 10 #[.agg #[.int .i64 9, .int .u32 (c : Int), .int .u32 (n : Int), .int .u64 (sp : Int), .int .u32 (sq : Int), .int .u64 (ap : Int), .int .u32 (aq : Int), .int .u64 (mp : Int), .int .u32 (mq : Int), .string (bs prim), .int .u8 (pt : Int), .bool dn, .slice ao ws.length cp]] w fun r w' => r = .returned (.bool (rightE (En.mk 9 c n sp sq ap aq mp mq prim pt dn ws))) ∧ Below w.heap.size w w' := by
  have hR : rightE (En.mk 9 c n sp sq ap aq mp mq prim pt dn ws) = (zeroB (En.mk 9 c n sp sq ap aq mp mq prim pt dn ws) && (!(false && noneAt (En.mk 9 c n sp sq ap aq mp mq prim pt dn ws)) && (rightS sp sq && rightS ap aq && rightS mp mq)) && (!((9 : Int) == 9) || !noneAt (En.mk 9 c n sp sq ap aq mp mq prim pt dn ws) || (pt == 0 && !dn)) && true) := by
    rw [right_plain]
    generalize zeroB (En.mk 9 c n sp sq ap aq mp mq prim pt dn ws) = a
    simp only [kindOk, noneAt]
    generalize (rightS sp sq && rightS ap aq && rightS mp mq) = s
    skip
    skip
    generalize (ap == 0 && aq == 0) = o
    generalize (pt == 0 && !dn) = x
    cases a <;> cases s <;> cases o <;> cases x <;> rfl
  rw [hR]
  exact rt10 103 (zeroB (En.mk 9 c n sp sq ap aq mp mq prim pt dn ws)) (!(false && noneAt (En.mk 9 c n sp sq ap aq mp mq prim pt dn ws)) && (rightS sp sq && rightS ap aq && rightS mp mq)) (!((9 : Int) == 9) || !noneAt (En.mk 9 c n sp sq ap aq mp mq prim pt dn ws) || (pt == 0 && !dn)) true (En.mk 9 c n sp sq ap aq mp mq prim pt dn ws) ao cp w hws rfl (by decide) (fun W h => no25_9 c n sp sq ap aq mp mq prim pt dn ws ao cp W h) (fun W h => st26 103 false (En.mk 9 c n sp sq ap aq mp mq prim pt dn ws) ao cp W h (fun W _ => has41 103 512 W (by omega) (by omega))) (fun W h => vd27 (En.mk 9 c n sp sq ap aq mp mq prim pt dn ws) ao cp W h) (fun W h => aw28_none 103 (En.mk 9 c n sp sq ap aq mp mq prim pt dn ws) ao cp W h (fun W _ => has41 103 16 W (by omega) (by omega)) (fun W _ => has41 103 256 W (by omega) (by omega)) (fun W _ => has41 103 128 W (by omega) (by omega)))
theorem mask_out {k : Int} (h : ¬ (1 ≤ k ∧ k ≤ 9)) : mask k = 0 := by
  unfold mask
  rw [if_neg (by omega), if_neg (by omega), if_neg (by omega), if_neg (by omega), if_neg (by omega), if_neg (by omega), if_neg (by omega), if_neg (by omega)]
theorem right10 : R10 := by
  intro e ao cp w _ _ hws
  by_cases hk : 1 ≤ e.k ∧ e.k ≤ 9
  rotate_left
  · rw [rightE_out hk]
    exact rt10_out e ao cp w hws (mask_out hk)
  obtain ⟨h1, h9⟩ := hk
  obtain ⟨k, c, n, sp, sq, ap, aq, mp, mq, prim, pt, dn, ws⟩ := e
  have hcase : k = 1 ∨ k = 2 ∨ k = 3 ∨ k = 4 ∨ k = 5 ∨ k = 6 ∨ k = 7 ∨ k = 8 ∨ k = 9 := by
    simp only at h1 h9
    omega
  rcases hcase with rfl | rfl | rfl | rfl | rfl | rfl | rfl | rfl | rfl
  · exact rt10_1 c n sp sq ap aq mp mq prim pt dn ws ao cp w hws
  · exact rt10_2 c n sp sq ap aq mp mq prim pt dn ws ao cp w hws
  · exact rt10_3 c n sp sq ap aq mp mq prim pt dn ws ao cp w hws
  · exact rt10_4 c n sp sq ap aq mp mq prim pt dn ws ao cp w hws
  · exact rt10_5 c n sp sq ap aq mp mq prim pt dn ws ao cp w hws
  · exact rt10_6 c n sp sq ap aq mp mq prim pt dn ws ao cp w hws
  · exact rt10_7 c n sp sq ap aq mp mq prim pt dn ws ao cp w hws
  · exact rt10_8 c n sp sq ap aq mp mq prim pt dn ws ao cp w hws
  · exact rt10_9 c n sp sq ap aq mp mq prim pt dn ws ao cp w hws
end Go.Proofs.Ytmgjlpgjjeknpaa
