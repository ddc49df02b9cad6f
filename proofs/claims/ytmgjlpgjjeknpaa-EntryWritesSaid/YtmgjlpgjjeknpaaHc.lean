/-
  The program's Right: stamps, verdicts, writes.
-/
import Derived.Test.YtmgjlpgjjeknpaaHb
import Derived.Test.YtmgjlpgjjeknpaaLc
namespace Go.Proofs.Ytmgjlpgjjeknpaa
open Go.RowKit Go.Sort

theorem run_neq27z (p l : Nat) (w : World) : (binOp .neq 27 (.agg #[.int .u64 (p : Int), .int .u32 (l : Int)]) (.agg #[.int .u64 0, .int .u32 0])).run Try.prog w = .ok (.bool (!(p == 0 && l == 0))) w := by
  rw [← nat_beq p 0, ← nat_beq l 0]
  generalize (p : Int) = p
  generalize (l : Int) = l
  by_cases h : p = 0 <;> by_cases h2 : l = 0 <;> simp [go_sem, h, h2]
set_option maxHeartbeats 3200000 in
set_option maxRecDepth 100000 in
theorem st26 (m : Nat) (sm : Bool) (e : En) (ao : Option Addr) (cp : Nat) (w : World) (hws : WsAt w.heap.size (.slice ao e.ws.length cp) e.ws w) (h41 : (∀ W : World, 1 = 1 → Calls Try.prog 41 #[.int .u16 (m : Int), .int .u16 512] W fun r w' => r = .returned (.bool sm) ∧ W = w')) :
    Calls Try.prog 26 #[.agg #[.int .i64 e.k, .int .u32 (e.c : Int), .int .u32 (e.n : Int), .int .u64 (e.sp : Int), .int .u32 (e.sl : Int), .int .u64 (e.ap : Int), .int .u32 (e.al : Int), .int .u64 (e.mp : Int), .int .u32 (e.ml : Int), .string (bs e.prim), .int .u8 (e.pt : Int), .bool e.dn, .slice ao e.ws.length cp], .int .u16 (m : Int)] w fun r w' => r = .returned (.bool (!(sm && noneAt e) && (rightS e.sp e.sl && rightS e.ap e.al && rightS e.mp e.ml))) ∧ Below w.heap.size w w' := by
  have H0 : Hid _ := eb_new (e := e) hws
  obtain ⟨W1, hW1⟩ : ∃ W1, w.alloc (.cells #[.int .i64 e.k, .int .u32 (e.c : Int), .int .u32 (e.n : Int), .int .u64 (e.sp : Int), .int .u32 (e.sl : Int), .int .u64 (e.ap : Int), .int .u32 (e.al : Int), .int .u64 (e.mp : Int), .int .u32 (e.ml : Int), .string (bs e.prim), .int .u8 (e.pt : Int), .bool e.dn, .slice ao e.ws.length cp] 30) = W1 := ⟨_, rfl⟩
  obtain ⟨b, hb⟩ : ∃ b, w.heap.size = b := ⟨_, rfl⟩
  have H1 : Hid (Eb w b e ao cp W1) := by rw [← hb, ← hW1]; exact H0.out
  clear H0 hws
  have h512 : Hid _ := h41
  obtain ⟨r1, hr1⟩ : ∃ r1, rightS e.sp e.sl = r1 := ⟨_, rfl⟩
  obtain ⟨r2, hr2⟩ : ∃ r1, rightS e.ap e.al = r1 := ⟨_, rfl⟩
  obtain ⟨r3, hr3⟩ : ∃ r1, rightS e.mp e.ml = r1 := ⟨_, rfl⟩
  have K1 : Hid (∀ W, 1 = 1 → Calls Try.prog 49 #[.agg #[.int .u64 (e.sp : Int), .int .u32 (e.sl : Int)]] W fun r w' => r = .returned (.bool r1) ∧ Below W.heap.size W w') := fun W _ => by rw [← hr1, ← rightB_S]; exact rightP e.sp e.sl W
  have K2 : Hid (∀ W, 1 = 1 → Calls Try.prog 49 #[.agg #[.int .u64 (e.ap : Int), .int .u32 (e.al : Int)]] W fun r w' => r = .returned (.bool r2) ∧ Below W.heap.size W w') := fun W _ => by rw [← hr2, ← rightB_S]; exact rightP e.ap e.al W
  have K3 : Hid (∀ W, 1 = 1 → Calls Try.prog 49 #[.agg #[.int .u64 (e.mp : Int), .int .u32 (e.ml : Int)]] W fun r w' => r = .returned (.bool r3) ∧ Below W.heap.size W w') := fun W _ => by rw [← hr3, ← rightB_S]; exact rightP e.mp e.ml W
  have HR1 : Hid (rightS e.sp e.sl = r1) := hr1
  have HR2 : Hid (rightS e.ap e.al = r2) := hr2
  have HR3 : Hid (rightS e.mp e.ml = r3) := hr3
  clear h41 hr1 hr2 hr3
  obtain ⟨q, hq⟩ : ∃ q, (e.ap == 0 && e.al == 0) = q := ⟨_, rfl⟩
  have e1 := run_eql27z e.ap e.al
  rw [hq] at e1
  have HQ : Hid (noneAt e = q) := hq
  clear hq
  have p3 : W1.cell? ⟨b, 3, none⟩ = some (.int .u64 (e.sp : Int)) := block_cell H1.out.x rfl
  have p4 : W1.cell? ⟨b, 4, none⟩ = some (.int .u32 (e.sl : Int)) := block_cell H1.out.x rfl
  have p5 : W1.cell? ⟨b, 5, none⟩ = some (.int .u64 (e.ap : Int)) := block_cell H1.out.x rfl
  have p6 : W1.cell? ⟨b, 6, none⟩ = some (.int .u32 (e.al : Int)) := block_cell H1.out.x rfl
  have p7 : W1.cell? ⟨b, 7, none⟩ = some (.int .u64 (e.mp : Int)) := block_cell H1.out.x rfl
  have p8 : W1.cell? ⟨b, 8, none⟩ = some (.int .u32 (e.ml : Int)) := block_cell H1.out.x rfl
  cases sm
  · skip
    go_enter Try.func26, Try.ntmps26
    go_wp2_with fail
    refine (h512.out _ (by trivial)).mono ?_
    rintro r wx ⟨rfl, rfl⟩
    go_wp2_with fail
    refine (K1.out W1 (by trivial)).mono ?_
    rintro r w3 ⟨rfl, hb3⟩
    have H3 : Hid (Eb w b e ao cp w3) := H1.out.on hb3
    clear hb3 p3 p4 p5 p6 p7 p8 K1 H1 hb hW1
    cases r1
    · go_wp2_with fail
      go_ret
      exact ⟨by rw [HQ.out, HR1.out]; rfl, H3.out.bel⟩
    · have p5 : w3.cell? ⟨b, 5, none⟩ = some (.int .u64 (e.ap : Int)) := block_cell H3.out.x rfl
      have p6 : w3.cell? ⟨b, 6, none⟩ = some (.int .u32 (e.al : Int)) := block_cell H3.out.x rfl
      go_wp2_with fail
      refine (K2.out w3 (by trivial)).mono ?_
      rintro r w4 ⟨rfl, hb4⟩
      have H4 : Hid (Eb w b e ao cp w4) := H3.out.on hb4
      clear hb4 p5 p6 K2 H3
      cases r2
      · go_wp2_with fail
        go_ret
        exact ⟨by rw [HQ.out, HR1.out, HR2.out]; rfl, H4.out.bel⟩
      · have p7 : w4.cell? ⟨b, 7, none⟩ = some (.int .u64 (e.mp : Int)) := block_cell H4.out.x rfl
        have p8 : w4.cell? ⟨b, 8, none⟩ = some (.int .u32 (e.ml : Int)) := block_cell H4.out.x rfl
        go_wp2_with fail
        refine (K3.out w4 (by trivial)).mono ?_
        rintro r w5 ⟨rfl, hb5⟩
        have H5 : Hid (Eb w b e ao cp w5) := H4.out.on hb5
        clear hb5 p7 p8 K3 H4
        go_wp2_with fail
        go_ret
        exact ⟨by rw [HQ.out, HR1.out, HR2.out, HR3.out]; rfl, H5.out.bel⟩
  · cases q
    · skip
      go_enter Try.func26, Try.ntmps26
      go_wp2_with fail
      refine (h512.out _ (by trivial)).mono ?_
      rintro r wx ⟨rfl, rfl⟩
      go_wp2_with fail
      refine (K1.out W1 (by trivial)).mono ?_
      rintro r w3 ⟨rfl, hb3⟩
      have H3 : Hid (Eb w b e ao cp w3) := H1.out.on hb3
      clear hb3 p3 p4 p5 p6 p7 p8 K1 H1 hb hW1
      cases r1
      · go_wp2_with fail
        go_ret
        exact ⟨by rw [HQ.out, HR1.out]; rfl, H3.out.bel⟩
      · have p5 : w3.cell? ⟨b, 5, none⟩ = some (.int .u64 (e.ap : Int)) := block_cell H3.out.x rfl
        have p6 : w3.cell? ⟨b, 6, none⟩ = some (.int .u32 (e.al : Int)) := block_cell H3.out.x rfl
        go_wp2_with fail
        refine (K2.out w3 (by trivial)).mono ?_
        rintro r w4 ⟨rfl, hb4⟩
        have H4 : Hid (Eb w b e ao cp w4) := H3.out.on hb4
        clear hb4 p5 p6 K2 H3
        cases r2
        · go_wp2_with fail
          go_ret
          exact ⟨by rw [HQ.out, HR1.out, HR2.out]; rfl, H4.out.bel⟩
        · have p7 : w4.cell? ⟨b, 7, none⟩ = some (.int .u64 (e.mp : Int)) := block_cell H4.out.x rfl
          have p8 : w4.cell? ⟨b, 8, none⟩ = some (.int .u32 (e.ml : Int)) := block_cell H4.out.x rfl
          go_wp2_with fail
          refine (K3.out w4 (by trivial)).mono ?_
          rintro r w5 ⟨rfl, hb5⟩
          have H5 : Hid (Eb w b e ao cp w5) := H4.out.on hb5
          clear hb5 p7 p8 K3 H4
          go_wp2_with fail
          go_ret
          exact ⟨by rw [HQ.out, HR1.out, HR2.out, HR3.out]; rfl, H5.out.bel⟩
    · skip
      go_enter Try.func26, Try.ntmps26
      go_wp2_with fail
      refine (h512.out _ (by trivial)).mono ?_
      rintro r wx ⟨rfl, rfl⟩
      go_wp2_with fail
      go_ret
      exact ⟨by rw [HQ.out]; rfl, H1.out.bel⟩
set_option maxHeartbeats 3200000 in
set_option maxRecDepth 100000 in
theorem vd27 (e : En) (ao : Option Addr) (cp : Nat) (w : World) (hws : WsAt w.heap.size (.slice ao e.ws.length cp) e.ws w) :
    Calls Try.prog 27 #[.agg #[.int .i64 e.k, .int .u32 (e.c : Int), .int .u32 (e.n : Int), .int .u64 (e.sp : Int), .int .u32 (e.sl : Int), .int .u64 (e.ap : Int), .int .u32 (e.al : Int), .int .u64 (e.mp : Int), .int .u32 (e.ml : Int), .string (bs e.prim), .int .u8 (e.pt : Int), .bool e.dn, .slice ao e.ws.length cp]] w fun r w' => r = .returned (.bool (!(e.k == 9) || !noneAt e || (e.pt == 0 && !e.dn))) ∧ Below w.heap.size w w' := by
  have H0 : Hid _ := eb_new (e := e) hws
  obtain ⟨W1, hW1⟩ : ∃ W1, w.alloc (.cells #[.int .i64 e.k, .int .u32 (e.c : Int), .int .u32 (e.n : Int), .int .u64 (e.sp : Int), .int .u32 (e.sl : Int), .int .u64 (e.ap : Int), .int .u32 (e.al : Int), .int .u64 (e.mp : Int), .int .u32 (e.ml : Int), .string (bs e.prim), .int .u8 (e.pt : Int), .bool e.dn, .slice ao e.ws.length cp] 30) = W1 := ⟨_, rfl⟩
  obtain ⟨b, hb⟩ : ∃ b, w.heap.size = b := ⟨_, rfl⟩
  have H1 : Hid (Eb w b e ao cp W1) := by rw [← hb, ← hW1]; exact H0.out
  clear H0 hws
  obtain ⟨q, hq⟩ : ∃ q, (e.ap == 0 && e.al == 0) = q := ⟨_, rfl⟩
  have e1 := run_neq27z e.ap e.al
  rw [hq] at e1
  have HQ : Hid (noneAt e = q) := hq
  clear hq
  have p0 : W1.cell? ⟨b, 0, none⟩ = some (.int .i64 e.k) := block_cell H1.out.x rfl
  have p5 : W1.cell? ⟨b, 5, none⟩ = some (.int .u64 (e.ap : Int)) := block_cell H1.out.x rfl
  have p6 : W1.cell? ⟨b, 6, none⟩ = some (.int .u32 (e.al : Int)) := block_cell H1.out.x rfl
  have p10 : W1.cell? ⟨b, 10, none⟩ = some (.int .u8 (e.pt : Int)) := block_cell H1.out.x rfl
  have p11 : W1.cell? ⟨b, 11, none⟩ = some (.bool e.dn) := block_cell H1.out.x rfl
  by_cases hk : e.k = 9
  rotate_left
  · have HK : Hid ((e.k == 9) = false) := by show _ = _; simpa using hk
    go_enter Try.func27, Try.ntmps27
    go_wp2_with fail
    go_ret
    exact ⟨by rw [HK.out]; rfl, H1.out.bel⟩
  have HK : Hid ((e.k == 9) = true) := by show _ = _; simpa using hk
  rw [hk] at p0
  clear hk
  cases q
  · go_enter Try.func27, Try.ntmps27
    go_wp2_with fail
    go_ret
    exact ⟨by rw [HK.out, HQ.out]; rfl, H1.out.bel⟩
  by_cases hpt : e.pt = 0
  rotate_left
  · have HP : Hid ((e.pt == 0) = false) := by show _ = _; simpa using hpt
    go_enter Try.func27, Try.ntmps27
    go_wp2_with fail
    go_ret
    exact ⟨by rw [HK.out, HQ.out, HP.out]; rfl, H1.out.bel⟩
  have HP : Hid ((e.pt == 0) = true) := by show _ = _; simpa using hpt
  have p10' : W1.cell? ⟨b, 10, none⟩ = some (.int .u8 0) := by rw [p10, hpt]; rfl
  clear p10 hpt
  go_enter Try.func27, Try.ntmps27
  go_wp2_with fail
  go_ret
  exact ⟨by rw [HK.out, HQ.out, HP.out]; rfl, H1.out.bel⟩
set_option maxHeartbeats 3200000 in
set_option maxRecDepth 100000 in
theorem aw28_none (m : Nat) (e : En) (ao : Option Addr) (cp : Nat) (w : World) (hws : WsAt w.heap.size (.slice ao e.ws.length cp) e.ws w) (h16 : (∀ W : World, 1 = 1 → Calls Try.prog 41 #[.int .u16 (m : Int), .int .u16 16] W fun r w' => r = .returned (.bool false) ∧ W = w')) (h256 : (∀ W : World, 1 = 1 → Calls Try.prog 41 #[.int .u16 (m : Int), .int .u16 256] W fun r w' => r = .returned (.bool false) ∧ W = w')) (h128 : (∀ W : World, 1 = 1 → Calls Try.prog 41 #[.int .u16 (m : Int), .int .u16 128] W fun r w' => r = .returned (.bool false) ∧ W = w')) :
    Calls Try.prog 28 #[.agg #[.int .i64 e.k, .int .u32 (e.c : Int), .int .u32 (e.n : Int), .int .u64 (e.sp : Int), .int .u32 (e.sl : Int), .int .u64 (e.ap : Int), .int .u32 (e.al : Int), .int .u64 (e.mp : Int), .int .u32 (e.ml : Int), .string (bs e.prim), .int .u8 (e.pt : Int), .bool e.dn, .slice ao e.ws.length cp], .int .u16 (m : Int)] w fun r w' => r = .returned (.bool true) ∧ Below w.heap.size w w' := by
  have H0 : Hid _ := eb_new (e := e) hws
  obtain ⟨W1, hW1⟩ : ∃ W1, w.alloc (.cells #[.int .i64 e.k, .int .u32 (e.c : Int), .int .u32 (e.n : Int), .int .u64 (e.sp : Int), .int .u32 (e.sl : Int), .int .u64 (e.ap : Int), .int .u32 (e.al : Int), .int .u64 (e.mp : Int), .int .u32 (e.ml : Int), .string (bs e.prim), .int .u8 (e.pt : Int), .bool e.dn, .slice ao e.ws.length cp] 30) = W1 := ⟨_, rfl⟩
  obtain ⟨b, hb⟩ : ∃ b, w.heap.size = b := ⟨_, rfl⟩
  have H1 : Hid (Eb w b e ao cp W1) := by rw [← hb, ← hW1]; exact H0.out
  clear H0 hws
  have C1 : Hid _ := h16
  have C2 : Hid _ := h256
  have C3 : Hid _ := h128
  clear h16 h256 h128
  go_enter Try.func28, Try.ntmps28
  go_wp2_with fail
  refine (C1.out _ (by trivial)).mono ?_
  rintro r wx ⟨rfl, rfl⟩
  go_wp2_with fail
  refine (C2.out _ (by trivial)).mono ?_
  rintro r wx ⟨rfl, rfl⟩
  go_wp2_with fail
  refine (C3.out _ (by trivial)).mono ?_
  rintro r wx ⟨rfl, rfl⟩
  go_wp2_with fail
  go_ret
  exact ⟨rfl, H1.out.bel⟩
set_option maxHeartbeats 3200000 in
set_option maxRecDepth 100000 in
theorem aw28_lay (m : Nat) (e : En) (ao : Option Addr) (cp : Nat) (w : World) (hws : WsAt w.heap.size (.slice ao e.ws.length cp) e.ws w) (h16 : (∀ W : World, 1 = 1 → Calls Try.prog 41 #[.int .u16 (m : Int), .int .u16 16] W fun r w' => r = .returned (.bool true) ∧ W = w')) (h256 : (∀ W : World, 1 = 1 → Calls Try.prog 41 #[.int .u16 (m : Int), .int .u16 256] W fun r w' => r = .returned (.bool false) ∧ W = w')) (h128 : (∀ W : World, 1 = 1 → Calls Try.prog 41 #[.int .u16 (m : Int), .int .u16 128] W fun r w' => r = .returned (.bool true) ∧ W = w')) :
    Calls Try.prog 28 #[.agg #[.int .i64 e.k, .int .u32 (e.c : Int), .int .u32 (e.n : Int), .int .u64 (e.sp : Int), .int .u32 (e.sl : Int), .int .u64 (e.ap : Int), .int .u32 (e.al : Int), .int .u64 (e.mp : Int), .int .u32 (e.ml : Int), .string (bs e.prim), .int .u8 (e.pt : Int), .bool e.dn, .slice ao e.ws.length cp], .int .u16 (m : Int)] w fun r w' => r = .returned (.bool (kOk e.prim && rightW e.ws)) ∧ Below w.heap.size w w' := by
  have H0 : Hid _ := eb_new (e := e) hws
  obtain ⟨W1, hW1⟩ : ∃ W1, w.alloc (.cells #[.int .i64 e.k, .int .u32 (e.c : Int), .int .u32 (e.n : Int), .int .u64 (e.sp : Int), .int .u32 (e.sl : Int), .int .u64 (e.ap : Int), .int .u32 (e.al : Int), .int .u64 (e.mp : Int), .int .u32 (e.ml : Int), .string (bs e.prim), .int .u8 (e.pt : Int), .bool e.dn, .slice ao e.ws.length cp] 30) = W1 := ⟨_, rfl⟩
  obtain ⟨b, hb⟩ : ∃ b, w.heap.size = b := ⟨_, rfl⟩
  have H1 : Hid (Eb w b e ao cp W1) := by rw [← hb, ← hW1]; exact H0.out
  clear H0 hws
  have C1 : Hid _ := h16
  have C2 : Hid _ := h256
  have C3 : Hid _ := h128
  have CW : Hid (1 = 1 → Calls Try.prog 50 #[.slice ao e.ws.length cp] W1 fun r w' => r = .returned (.bool (rightW e.ws)) ∧ Below W1.heap.size W1 w') := fun _ => right24 W1.heap.size e.ws _ W1 H1.out.wsx (Nat.le_refl _)
  have hsz : (bs e.prim).size = e.prim.length := bs_size e.prim
  clear h16 h256 h128
  have p9 : W1.cell? ⟨b, 9, none⟩ = some (.string (bs e.prim)) := block_cell H1.out.x rfl
  have p12 : W1.cell? ⟨b, 12, none⟩ = some (.slice ao e.ws.length cp) := block_cell H1.out.x rfl
  by_cases hl : e.prim.length < 1
  · have HK : Hid (kOk e.prim = false) := by show _ = _; unfold kOk; simp only [Bool.and_eq_false_iff, decide_eq_false_iff_not]; omega
    have hl1 : (e.prim.length : Int) < 1 := by omega
    clear hl
    go_enter Try.func28, Try.ntmps28
    go_wp2_with fail
    refine (C1.out _ (by trivial)).mono ?_
    rintro r wx ⟨rfl, rfl⟩
    go_wp2_with fail
    go_ret
    exact ⟨by rw [HK.out]; rfl, H1.out.bel⟩
  have hl1 : ¬ (e.prim.length : Int) < 1 := by omega
  by_cases hg : 32 < e.prim.length
  · have HK : Hid (kOk e.prim = false) := by show _ = _; unfold kOk; simp only [Bool.and_eq_false_iff, decide_eq_false_iff_not]; omega
    have hg1 : (32 : Int) < (e.prim.length : Int) := by omega
    clear hl hg
    go_enter Try.func28, Try.ntmps28
    go_wp2_with fail
    refine (C1.out _ (by trivial)).mono ?_
    rintro r wx ⟨rfl, rfl⟩
    go_wp2_with fail
    go_ret
    exact ⟨by rw [HK.out]; rfl, H1.out.bel⟩
  have hg1 : ¬ (32 : Int) < (e.prim.length : Int) := by omega
  have HK : Hid (kOk e.prim = true) := by show _ = _; unfold kOk; simp only [Bool.and_eq_true, decide_eq_true_eq]; omega
  clear hl hg
  go_enter Try.func28, Try.ntmps28
  go_wp2_with fail
  refine (C1.out _ (by trivial)).mono ?_
  rintro r wx ⟨rfl, rfl⟩
  go_wp2_with fail
  refine (C2.out _ (by trivial)).mono ?_
  rintro r wx ⟨rfl, rfl⟩
  go_wp2_with fail
  refine (C3.out _ (by trivial)).mono ?_
  rintro r wx ⟨rfl, rfl⟩
  go_wp2_with fail
  refine (CW.out (by trivial)).mono ?_
  rintro r w2 ⟨rfl, hb2⟩
  have H2 : Hid (Eb w b e ao cp w2) := H1.out.on hb2
  clear hb2
  go_wp2_with fail
  go_ret
  exact ⟨by rw [HK.out]; rfl, H2.out.bel⟩
set_option maxHeartbeats 3200000 in
set_option maxRecDepth 100000 in
theorem aw28_have (m : Nat) (e : En) (ao : Option Addr) (cp : Nat) (w : World) (hws : WsAt w.heap.size (.slice ao e.ws.length cp) e.ws w) (h16 : (∀ W : World, 1 = 1 → Calls Try.prog 41 #[.int .u16 (m : Int), .int .u16 16] W fun r w' => r = .returned (.bool false) ∧ W = w')) (h256 : (∀ W : World, 1 = 1 → Calls Try.prog 41 #[.int .u16 (m : Int), .int .u16 256] W fun r w' => r = .returned (.bool true) ∧ W = w')) (h128 : (∀ W : World, 1 = 1 → Calls Try.prog 41 #[.int .u16 (m : Int), .int .u16 128] W fun r w' => r = .returned (.bool true) ∧ W = w')) :
    Calls Try.prog 28 #[.agg #[.int .i64 e.k, .int .u32 (e.c : Int), .int .u32 (e.n : Int), .int .u64 (e.sp : Int), .int .u32 (e.sl : Int), .int .u64 (e.ap : Int), .int .u32 (e.al : Int), .int .u64 (e.mp : Int), .int .u32 (e.ml : Int), .string (bs e.prim), .int .u8 (e.pt : Int), .bool e.dn, .slice ao e.ws.length cp], .int .u16 (m : Int)] w fun r w' => r = .returned (.bool (e.ws.length == 1 && rightW e.ws)) ∧ Below w.heap.size w w' := by
  have H0 : Hid _ := eb_new (e := e) hws
  obtain ⟨W1, hW1⟩ : ∃ W1, w.alloc (.cells #[.int .i64 e.k, .int .u32 (e.c : Int), .int .u32 (e.n : Int), .int .u64 (e.sp : Int), .int .u32 (e.sl : Int), .int .u64 (e.ap : Int), .int .u32 (e.al : Int), .int .u64 (e.mp : Int), .int .u32 (e.ml : Int), .string (bs e.prim), .int .u8 (e.pt : Int), .bool e.dn, .slice ao e.ws.length cp] 30) = W1 := ⟨_, rfl⟩
  obtain ⟨b, hb⟩ : ∃ b, w.heap.size = b := ⟨_, rfl⟩
  have H1 : Hid (Eb w b e ao cp W1) := by rw [← hb, ← hW1]; exact H0.out
  clear H0 hws
  have C1 : Hid _ := h16
  have C2 : Hid _ := h256
  have C3 : Hid _ := h128
  have CW : Hid (1 = 1 → Calls Try.prog 50 #[.slice ao e.ws.length cp] W1 fun r w' => r = .returned (.bool (rightW e.ws)) ∧ Below W1.heap.size W1 w') := fun _ => right24 W1.heap.size e.ws _ W1 H1.out.wsx (Nat.le_refl _)
  clear h16 h256 h128
  have p12 : W1.cell? ⟨b, 12, none⟩ = some (.slice ao e.ws.length cp) := block_cell H1.out.x rfl
  by_cases hl : e.ws.length = 1
  rotate_left
  · have HK : Hid ((e.ws.length == 1) = false) := by show _ = _; simpa using hl
    have hl1 : ¬ (e.ws.length : Int) = 1 := by omega
    go_enter Try.func28, Try.ntmps28
    go_wp2_with fail
    refine (C1.out _ (by trivial)).mono ?_
    rintro r wx ⟨rfl, rfl⟩
    go_wp2_with fail
    refine (C2.out _ (by trivial)).mono ?_
    rintro r wx ⟨rfl, rfl⟩
    go_wp2_with fail
    go_ret
    exact ⟨by rw [HK.out]; rfl, H1.out.bel⟩
  have HK : Hid ((e.ws.length == 1) = true) := by show _ = _; simpa using hl
  have p12' : W1.cell? ⟨b, 12, none⟩ = some (.slice ao 1 cp) := by rw [p12, hl]
  have CW' : Hid (1 = 1 → Calls Try.prog 50 #[.slice ao 1 cp] W1 fun r w' => r = .returned (.bool (rightW e.ws)) ∧ Below W1.heap.size W1 w') := by
    have := CW.out
    rw [hl] at this
    exact this
  clear hl p12 CW
  go_enter Try.func28, Try.ntmps28
  go_wp2_with fail
  refine (C1.out _ (by trivial)).mono ?_
  rintro r wx ⟨rfl, rfl⟩
  go_wp2_with fail
  refine (C2.out _ (by trivial)).mono ?_
  rintro r wx ⟨rfl, rfl⟩
  go_wp2_with fail
  refine (C3.out _ (by trivial)).mono ?_
  rintro r wx ⟨rfl, rfl⟩
  go_wp2_with fail
  refine (CW'.out (by trivial)).mono ?_
  rintro r w2 ⟨rfl, hb2⟩
  have H2 : Hid (Eb w b e ao cp w2) := H1.out.on hb2
  clear hb2
  go_wp2_with fail
  go_ret
  exact ⟨by rw [HK.out]; rfl, H2.out.bel⟩
end Go.Proofs.Ytmgjlpgjjeknpaa
