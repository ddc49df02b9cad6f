import Derived.Test.YtajjnmdomabmkaaGreatWav
set_option maxHeartbeats 4000000
set_option maxRecDepth 100000
set_option linter.unusedVariables false
namespace Go.Proofs.YtajjnmdomabmkaaGreat.Ent
open Go.RowKit Go.Sort
theorem run_neq27z (p l : Nat) (w : World) : (binOp .neq 32 (.agg #[.int .u64 (p : Int), .int .u32 (l : Int)]) (.agg #[.int .u64 0, .int .u32 0])).run Tryz.prog w = .ok (.bool (!(p == 0 && l == 0))) w := by
 rw [← nat_beq p 0, ← nat_beq l 0]
 generalize (p : Int) = p
 generalize (l : Int) = l
 by_cases h : p = 0 <;> by_cases h2 : l = 0 <;> simp [go_sem, h, h2]
theorem st26 (m : Nat) (sm : Bool) (e : En) (ao : Option Addr) (cp : Nat) (w : World) (hws : WsAt w.heap.size (.slice ao e.ws.length cp) e.ws w) (h41 : (∀ W : World, 1 = 1 → Calls Tryz.prog 155 #[.int .u16 (m : Int), .int .u16 512] W fun r w' => r = .returned (.bool sm) ∧ W = w')) :
  Calls Tryz.prog 162 #[.agg #[.int .i64 e.k, .int .u32 (e.c : Int), .int .u32 (e.n : Int), .int .u64 (e.sp : Int), .int .u32 (e.sl : Int), .int .u64 (e.ap : Int), .int .u32 (e.al : Int), .int .u64 (e.mp : Int), .int .u32 (e.ml : Int), .string (bs e.prim), .int .u8 (e.pt : Int), .bool e.dn, .slice ao e.ws.length cp], .int .u16 (m : Int)] w fun r w' => r = .returned (.bool (!(sm && noneAt e) && (rightS e.sp e.sl && rightS e.ap e.al && rightS e.mp e.ml))) ∧ Below w.heap.size w w' := by
 have H0 : Hid _ := eb_new (e := e) hws
 obtain ⟨W1, hW1⟩ : ∃ W1, w.alloc (.cells #[.int .i64 e.k, .int .u32 (e.c : Int), .int .u32 (e.n : Int), .int .u64 (e.sp : Int), .int .u32 (e.sl : Int), .int .u64 (e.ap : Int), .int .u32 (e.al : Int), .int .u64 (e.mp : Int), .int .u32 (e.ml : Int), .string (bs e.prim), .int .u8 (e.pt : Int), .bool e.dn, .slice ao e.ws.length cp] 124) = W1 := ⟨_, rfl⟩
 obtain ⟨b, hb⟩ : ∃ b, w.heap.size = b := ⟨_, rfl⟩
 have H1 : Hid (Eb w b e ao cp W1) := by rw [← hb, ← hW1]; exact H0.out
 clear H0 hws
 have h512 : Hid _ := h41
 obtain ⟨r1, hr1⟩ : ∃ r1, rightS e.sp e.sl = r1 := ⟨_, rfl⟩
 obtain ⟨r2, hr2⟩ : ∃ r1, rightS e.ap e.al = r1 := ⟨_, rfl⟩
 obtain ⟨r3, hr3⟩ : ∃ r1, rightS e.mp e.ml = r1 := ⟨_, rfl⟩
 have K1 : Hid (∀ W, 1 = 1 → Calls Tryz.prog 166 #[.agg #[.int .u64 (e.sp : Int), .int .u32 (e.sl : Int)]] W fun r w' => r = .returned (.bool r1) ∧ Below W.heap.size W w') := fun W _ => by rw [← hr1, ← rightB_S]; exact rightP e.sp e.sl W
 have K2 : Hid (∀ W, 1 = 1 → Calls Tryz.prog 166 #[.agg #[.int .u64 (e.ap : Int), .int .u32 (e.al : Int)]] W fun r w' => r = .returned (.bool r2) ∧ Below W.heap.size W w') := fun W _ => by rw [← hr2, ← rightB_S]; exact rightP e.ap e.al W
 have K3 : Hid (∀ W, 1 = 1 → Calls Tryz.prog 166 #[.agg #[.int .u64 (e.mp : Int), .int .u32 (e.ml : Int)]] W fun r w' => r = .returned (.bool r3) ∧ Below W.heap.size W w') := fun W _ => by rw [← hr3, ← rightB_S]; exact rightP e.mp e.ml W
 have HR1 : Hid (rightS e.sp e.sl = r1) := hr1
 have HR2 : Hid (rightS e.ap e.al = r2) := hr2
 have HR3 : Hid (rightS e.mp e.ml = r3) := hr3
 clear h41 hr1 hr2 hr3
 obtain ⟨q, hq⟩ : ∃ q, (e.ap == 0 && e.al == 0) = q := ⟨_, rfl⟩
 have e1 := run_eql27z e.ap e.al
 rw [hq] at e1
 have HQ : Hid (noneAt e = q) := hq
 clear hq
 have p3 := block_cell (j := 3) H1.out.x rfl
 have p4 := block_cell (j := 4) H1.out.x rfl
 have p5 := block_cell (j := 5) H1.out.x rfl
 have p6 := block_cell (j := 6) H1.out.x rfl
 have p7 := block_cell (j := 7) H1.out.x rfl
 have p8 := block_cell (j := 8) H1.out.x rfl
 cases sm
 ·skip
  go_enter Tryz.func162, Tryz.ntmps162
  go_wp2_with fail
  refine (h512.out _ (by trivial)).mono ?_
  rintro r wx ⟨rfl, rfl⟩
  go_wp2_with fail
  refine (K1.out W1 (by trivial)).mono ?_
  rintro r w3 ⟨rfl, hb3⟩
  have H3 : Hid (Eb w b e ao cp w3) := H1.out.on hb3
  clear hb3 p3 p4 p5 p6 p7 p8 K1 H1 hb hW1
  cases r1
  ·go_wp2_with fail
   go_ret
   exact ⟨by rw [HQ.out, HR1.out]; rfl, H3.out.bel⟩
  ·have p5 := block_cell (j := 5) H3.out.x rfl
   have p6 := block_cell (j := 6) H3.out.x rfl
   go_wp2_with fail
   refine (K2.out w3 (by trivial)).mono ?_
   rintro r w4 ⟨rfl, hb4⟩
   have H4 : Hid (Eb w b e ao cp w4) := H3.out.on hb4
   clear hb4 p5 p6 K2 H3
   cases r2
   ·go_wp2_with fail
    go_ret
    exact ⟨by rw [HQ.out, HR1.out, HR2.out]; rfl, H4.out.bel⟩
   ·have p7 := block_cell (j := 7) H4.out.x rfl
    have p8 := block_cell (j := 8) H4.out.x rfl
    go_wp2_with fail
    refine (K3.out w4 (by trivial)).mono ?_
    rintro r w5 ⟨rfl, hb5⟩
    have H5 : Hid (Eb w b e ao cp w5) := H4.out.on hb5
    clear hb5 p7 p8 K3 H4
    go_wp2_with fail
    go_ret
    exact ⟨by rw [HQ.out, HR1.out, HR2.out, HR3.out]; rfl, H5.out.bel⟩
 ·cases q
  ·skip
   go_enter Tryz.func162, Tryz.ntmps162
   go_wp2_with fail
   refine (h512.out _ (by trivial)).mono ?_
   rintro r wx ⟨rfl, rfl⟩
   go_wp2_with fail
   refine (K1.out W1 (by trivial)).mono ?_
   rintro r w3 ⟨rfl, hb3⟩
   have H3 : Hid (Eb w b e ao cp w3) := H1.out.on hb3
   clear hb3 p3 p4 p5 p6 p7 p8 K1 H1 hb hW1
   cases r1
   ·go_wp2_with fail
    go_ret
    exact ⟨by rw [HQ.out, HR1.out]; rfl, H3.out.bel⟩
   ·have p5 := block_cell (j := 5) H3.out.x rfl
    have p6 := block_cell (j := 6) H3.out.x rfl
    go_wp2_with fail
    refine (K2.out w3 (by trivial)).mono ?_
    rintro r w4 ⟨rfl, hb4⟩
    have H4 : Hid (Eb w b e ao cp w4) := H3.out.on hb4
    clear hb4 p5 p6 K2 H3
    cases r2
    ·go_wp2_with fail
     go_ret
     exact ⟨by rw [HQ.out, HR1.out, HR2.out]; rfl, H4.out.bel⟩
    ·have p7 := block_cell (j := 7) H4.out.x rfl
     have p8 := block_cell (j := 8) H4.out.x rfl
     go_wp2_with fail
     refine (K3.out w4 (by trivial)).mono ?_
     rintro r w5 ⟨rfl, hb5⟩
     have H5 : Hid (Eb w b e ao cp w5) := H4.out.on hb5
     clear hb5 p7 p8 K3 H4
     go_wp2_with fail
     go_ret
     exact ⟨by rw [HQ.out, HR1.out, HR2.out, HR3.out]; rfl, H5.out.bel⟩
  ·skip
   go_enter Tryz.func162, Tryz.ntmps162
   go_wp2_with fail
   refine (h512.out _ (by trivial)).mono ?_
   rintro r wx ⟨rfl, rfl⟩
   go_wp2_with fail
   go_ret
   exact ⟨by rw [HQ.out]; rfl, H1.out.bel⟩
theorem vd27 (e : En) (ao : Option Addr) (cp : Nat) (w : World) (hws : WsAt w.heap.size (.slice ao e.ws.length cp) e.ws w) :
  Calls Tryz.prog 163 #[.agg #[.int .i64 e.k, .int .u32 (e.c : Int), .int .u32 (e.n : Int), .int .u64 (e.sp : Int), .int .u32 (e.sl : Int), .int .u64 (e.ap : Int), .int .u32 (e.al : Int), .int .u64 (e.mp : Int), .int .u32 (e.ml : Int), .string (bs e.prim), .int .u8 (e.pt : Int), .bool e.dn, .slice ao e.ws.length cp]] w fun r w' => r = .returned (.bool (!(e.k == 9) || !noneAt e || (e.pt == 0 && !e.dn))) ∧ Below w.heap.size w w' := by
 have H0 : Hid _ := eb_new (e := e) hws
 obtain ⟨W1, hW1⟩ : ∃ W1, w.alloc (.cells #[.int .i64 e.k, .int .u32 (e.c : Int), .int .u32 (e.n : Int), .int .u64 (e.sp : Int), .int .u32 (e.sl : Int), .int .u64 (e.ap : Int), .int .u32 (e.al : Int), .int .u64 (e.mp : Int), .int .u32 (e.ml : Int), .string (bs e.prim), .int .u8 (e.pt : Int), .bool e.dn, .slice ao e.ws.length cp] 124) = W1 := ⟨_, rfl⟩
 obtain ⟨b, hb⟩ : ∃ b, w.heap.size = b := ⟨_, rfl⟩
 have H1 : Hid (Eb w b e ao cp W1) := by rw [← hb, ← hW1]; exact H0.out
 clear H0 hws
 obtain ⟨q, hq⟩ : ∃ q, (e.ap == 0 && e.al == 0) = q := ⟨_, rfl⟩
 have e1 := run_neq27z e.ap e.al
 rw [hq] at e1
 have HQ : Hid (noneAt e = q) := hq
 clear hq
 have p0 := block_cell (j := 0) H1.out.x rfl
 have p5 := block_cell (j := 5) H1.out.x rfl
 have p6 := block_cell (j := 6) H1.out.x rfl
 have p10 := block_cell (j := 10) H1.out.x rfl
 have p11 := block_cell (j := 11) H1.out.x rfl
 by_cases hk : e.k = 9
 rotate_left
 ·have HK : Hid ((e.k == 9) = false) := by show _ = _; simpa using hk
  go_enter Tryz.func163, Tryz.ntmps163
  go_wp2_with fail
  go_ret
  exact ⟨by rw [HK.out]; rfl, H1.out.bel⟩
 have HK : Hid ((e.k == 9) = true) := by show _ = _; simpa using hk
 rw [hk] at p0
 clear hk
 cases q
 ·go_enter Tryz.func163, Tryz.ntmps163
  go_wp2_with fail
  go_ret
  exact ⟨by rw [HK.out, HQ.out]; rfl, H1.out.bel⟩
 by_cases hpt : e.pt = 0
 rotate_left
 ·have HP : Hid ((e.pt == 0) = false) := by show _ = _; simpa using hpt
  go_enter Tryz.func163, Tryz.ntmps163
  go_wp2_with fail
  go_ret
  exact ⟨by rw [HK.out, HQ.out, HP.out]; rfl, H1.out.bel⟩
 have HP : Hid ((e.pt == 0) = true) := by show _ = _; simpa using hpt
 have p10' : W1.cell? ⟨b, 10, none⟩ = some (.int .u8 0) := by rw [p10, hpt]; rfl
 clear p10 hpt
 go_enter Tryz.func163, Tryz.ntmps163
 go_wp2_with fail
 go_ret
 exact ⟨by rw [HK.out, HQ.out, HP.out]; rfl, H1.out.bel⟩
theorem aw28_none (m : Nat) (e : En) (ao : Option Addr) (cp : Nat) (w : World) (hws : WsAt w.heap.size (.slice ao e.ws.length cp) e.ws w) (h16 : (∀ W : World, 1 = 1 → Calls Tryz.prog 155 #[.int .u16 (m : Int), .int .u16 16] W fun r w' => r = .returned (.bool false) ∧ W = w')) (h256 : (∀ W : World, 1 = 1 → Calls Tryz.prog 155 #[.int .u16 (m : Int), .int .u16 256] W fun r w' => r = .returned (.bool false) ∧ W = w')) (h128 : (∀ W : World, 1 = 1 → Calls Tryz.prog 155 #[.int .u16 (m : Int), .int .u16 128] W fun r w' => r = .returned (.bool false) ∧ W = w')) :
  Calls Tryz.prog 164 #[.agg #[.int .i64 e.k, .int .u32 (e.c : Int), .int .u32 (e.n : Int), .int .u64 (e.sp : Int), .int .u32 (e.sl : Int), .int .u64 (e.ap : Int), .int .u32 (e.al : Int), .int .u64 (e.mp : Int), .int .u32 (e.ml : Int), .string (bs e.prim), .int .u8 (e.pt : Int), .bool e.dn, .slice ao e.ws.length cp], .int .u16 (m : Int)] w fun r w' => r = .returned (.bool true) ∧ Below w.heap.size w w' := by
 have H0 : Hid _ := eb_new (e := e) hws
 obtain ⟨W1, hW1⟩ : ∃ W1, w.alloc (.cells #[.int .i64 e.k, .int .u32 (e.c : Int), .int .u32 (e.n : Int), .int .u64 (e.sp : Int), .int .u32 (e.sl : Int), .int .u64 (e.ap : Int), .int .u32 (e.al : Int), .int .u64 (e.mp : Int), .int .u32 (e.ml : Int), .string (bs e.prim), .int .u8 (e.pt : Int), .bool e.dn, .slice ao e.ws.length cp] 124) = W1 := ⟨_, rfl⟩
 obtain ⟨b, hb⟩ : ∃ b, w.heap.size = b := ⟨_, rfl⟩
 have H1 : Hid (Eb w b e ao cp W1) := by rw [← hb, ← hW1]; exact H0.out
 clear H0 hws
 have C1 : Hid _ := h16
 have C2 : Hid _ := h256
 have C3 : Hid _ := h128
 clear h16 h256 h128
 go_enter Tryz.func164, Tryz.ntmps164
 go_wp2_with fail
 refine (C1.out _ (by trivial)).mono ?_
 rintro r wx ⟨rfl, rfl⟩
 go_wp2_with fail
 refine (C2.out _ (by trivial)).mono ?_
 rintro r wx ⟨rfl, rfl⟩
 go_wp2_with fail
 refine (C3.out _ (by trivial)).mono ?_
 rintro r wx ⟨rfl, rfl⟩
 go_wp2_with fail
 go_ret
 exact ⟨rfl, H1.out.bel⟩
theorem aw28_lay (m : Nat) (e : En) (ao : Option Addr) (cp : Nat) (w : World) (hws : WsAt w.heap.size (.slice ao e.ws.length cp) e.ws w) (h16 : (∀ W : World, 1 = 1 → Calls Tryz.prog 155 #[.int .u16 (m : Int), .int .u16 16] W fun r w' => r = .returned (.bool true) ∧ W = w')) (h256 : (∀ W : World, 1 = 1 → Calls Tryz.prog 155 #[.int .u16 (m : Int), .int .u16 256] W fun r w' => r = .returned (.bool false) ∧ W = w')) (h128 : (∀ W : World, 1 = 1 → Calls Tryz.prog 155 #[.int .u16 (m : Int), .int .u16 128] W fun r w' => r = .returned (.bool true) ∧ W = w')) :
  Calls Tryz.prog 164 #[.agg #[.int .i64 e.k, .int .u32 (e.c : Int), .int .u32 (e.n : Int), .int .u64 (e.sp : Int), .int .u32 (e.sl : Int), .int .u64 (e.ap : Int), .int .u32 (e.al : Int), .int .u64 (e.mp : Int), .int .u32 (e.ml : Int), .string (bs e.prim), .int .u8 (e.pt : Int), .bool e.dn, .slice ao e.ws.length cp], .int .u16 (m : Int)] w fun r w' => r = .returned (.bool (kOk e.prim && rightW e.ws)) ∧ Below w.heap.size w w' := by
 have H0 : Hid _ := eb_new (e := e) hws
 obtain ⟨W1, hW1⟩ : ∃ W1, w.alloc (.cells #[.int .i64 e.k, .int .u32 (e.c : Int), .int .u32 (e.n : Int), .int .u64 (e.sp : Int), .int .u32 (e.sl : Int), .int .u64 (e.ap : Int), .int .u32 (e.al : Int), .int .u64 (e.mp : Int), .int .u32 (e.ml : Int), .string (bs e.prim), .int .u8 (e.pt : Int), .bool e.dn, .slice ao e.ws.length cp] 124) = W1 := ⟨_, rfl⟩
 obtain ⟨b, hb⟩ : ∃ b, w.heap.size = b := ⟨_, rfl⟩
 have H1 : Hid (Eb w b e ao cp W1) := by rw [← hb, ← hW1]; exact H0.out
 clear H0 hws
 have C1 : Hid _ := h16
 have C2 : Hid _ := h256
 have C3 : Hid _ := h128
 have CW : Hid (1 = 1 → Calls Tryz.prog 165 #[.slice ao e.ws.length cp] W1 fun r w' => r = .returned (.bool (rightW e.ws)) ∧ Below W1.heap.size W1 w') := fun _ => right24 W1.heap.size e.ws _ W1 H1.out.wsx (Nat.le_refl _)
 have hsz : (bs e.prim).size = e.prim.length := bs_size e.prim
 clear h16 h256 h128
 have p9 := block_cell (j := 9) H1.out.x rfl
 have p12 := block_cell (j := 12) H1.out.x rfl
 by_cases hl : e.prim.length < 1
 ·have HK : Hid (kOk e.prim = false) := by show _ = _; unfold kOk; simp only [Bool.and_eq_false_iff, decide_eq_false_iff_not]; omega
  have hl1 : (e.prim.length : Int) < 1 := by omega
  clear hl
  go_enter Tryz.func164, Tryz.ntmps164
  go_wp2_with fail
  refine (C1.out _ (by trivial)).mono ?_
  rintro r wx ⟨rfl, rfl⟩
  go_wp2_with fail
  go_ret
  exact ⟨by rw [HK.out]; rfl, H1.out.bel⟩
 have hl1 : ¬ (e.prim.length : Int) < 1 := by omega
 by_cases hg : 32 < e.prim.length
 ·have HK : Hid (kOk e.prim = false) := by show _ = _; unfold kOk; simp only [Bool.and_eq_false_iff, decide_eq_false_iff_not]; omega
  have hg1 : (32 : Int) < (e.prim.length : Int) := by omega
  clear hl hg
  go_enter Tryz.func164, Tryz.ntmps164
  go_wp2_with fail
  refine (C1.out _ (by trivial)).mono ?_
  rintro r wx ⟨rfl, rfl⟩
  go_wp2_with fail
  go_ret
  exact ⟨by rw [HK.out]; rfl, H1.out.bel⟩
 have hg1 : ¬ (32 : Int) < (e.prim.length : Int) := by omega
 have HK : Hid (kOk e.prim = true) := by show _ = _; unfold kOk; simp only [Bool.and_eq_true, decide_eq_true_eq]; omega
 clear hl hg
 go_enter Tryz.func164, Tryz.ntmps164
 go_wp2_with fail
 refine (C1.out _ (by trivial)).mono ?_
 rintro r wx ⟨rfl, rfl⟩
 go_wp2_with fail
 refine (C2.out _ (by trivial)).mono ?_
 rintro r wx ⟨rfl, rfl⟩
 go_wp2_with fail
 refine (C3.out _ (by trivial)).mono ?_
 rintro r wx ⟨rfl, rfl⟩
 go_wp2_with fail
 refine (CW.out (by trivial)).mono ?_
 rintro r w2 ⟨rfl, hb2⟩
 have H2 : Hid (Eb w b e ao cp w2) := H1.out.on hb2
 clear hb2
 go_wp2_with fail
 go_ret
 exact ⟨by rw [HK.out]; rfl, H2.out.bel⟩
end Go.Proofs.YtajjnmdomabmkaaGreat.Ent
namespace Go.Proofs.YtajjnmdomabmkaaGreat.Ent
open Go.RowKit Go.Sort
theorem tf_len {s : List UInt8} (h : s.length ≤ 1000) : (textForm s).length ≤ 1009 := by
 have := nf_len (n := s.length) (by omega)
 unfold textForm
 rw [List.length_append]
 omega
theorem ff_len (b : Bool) : (flagForm b).length = 1 := rfl
end Go.Proofs.YtajjnmdomabmkaaGreat.Ent
namespace Go.Proofs.YtajjnmdomabmkaaGreat.Ent
open Go.RowKit Go.Sort
structure Wk (c n sp sq ap aq mp mq : Nat) (prim : List UInt8) (pt : Nat) (ws : List Wr) : Prop where
 c : c < 4294967296
 n : n < 4294967296
 sp : sp ≤ 281474976710656
 sq : sq ≤ 4095
 ap : ap ≤ 281474976710656
 aq : aq ≤ 4095
 mp : mp ≤ 281474976710656
 mq : mq ≤ 4095
 prim : prim.length ≤ 1000
 pt : pt < 256
 len : ws.length ≤ 16
 ws : ∀ w ∈ ws, wOk w = true
theorem u64w {n : Nat} (h : n < 9223372036854775808) : IntKind.u64.wrap (n : Int) = n := by
 simp [IntKind.wrap, IntKind.signed, IntKind.bits]
 omega
theorem stf_len {p q : Nat} (hp : p ≤ 281474976710656) (hq : q ≤ 4095) : (stampForm p q).length ≤ 18 := by
 have := nf_len (n := p) (by omega)
 have := nf_len (n := q) (by omega)
 unfold stampForm
 rw [List.length_append]
 omega
theorem take_form {ws : List Wr} {m : Nat} (h : m < ws.length) : wsForm (ws.take (m + 1)) = wsForm (ws.take m) ++ wrForm (ws.getD m dw) := by
 rw [List.take_succ_eq_append_getElem h, ws_snoc, show ws.getD m dw = ws[m] from by simp [List.getD, h]]
end Go.Proofs.YtajjnmdomabmkaaGreat.Ent
namespace Go.Proofs.YtajjnmdomabmkaaGreat.Ent
open Go.RowKit Go.Sort
theorem wk_of {e : En} (h : rightE e = true) (hr : RgE e) : Wk e.c e.n e.sp e.sl e.ap e.al e.mp e.ml e.prim e.pt e.ws := by
 obtain ⟨⟨hk1, hk9⟩, hb, ⟨hs1, hs2, hs3⟩, hk⟩ := rightE_iff h
 obtain ⟨hw1, hw2, _⟩ := right_ws h
 have hp : e.prim.length ≤ 1000 := by
  by_cases h2 : e.k = 2
  ·unfold kindOk at hk
   rw [if_pos h2] at hk
   simp only [Bool.and_eq_true, kOk_iff] at hk
   omega
  ·have : e.prim = [] := by have := congrArg En.prim hb; rw [bareE] at this; simpa [h2] using this
   rw [this]
   simp
 exact ⟨hr.c, hr.n, (rightS_iff.1 hs1).1, (rightS_iff.1 hs1).2, (rightS_iff.1 hs2).1, (rightS_iff.1 hs2).2, (rightS_iff.1 hs3).1, (rightS_iff.1 hs3).2, hp, hr.pt, hw2, hw1⟩
end Go.Proofs.YtajjnmdomabmkaaGreat.Ent
namespace Go.Proofs.YtajjnmdomabmkaaGreat.Ent
open Go.RowKit Go.Sort
structure EnOk (e : En) : Prop where
 rg : RgE e
 k : -9223372036854775808 ≤ e.k ∧ e.k ≤ 9223372036854775807
 sp : e.sp < 18446744073709551616 ∧ e.sl < 4294967296
 ap : e.ap < 18446744073709551616 ∧ e.al < 4294967296
 mp : e.mp < 18446744073709551616 ∧ e.ml < 4294967296
 prim : e.prim.length ≤ 140737488351232
 wl : e.ws.length ≤ 140737488351232
 ws : ∀ w ∈ e.ws, w.key.length ≤ 140737488351232 ∧ w.val.length ≤ 140737488351232
structure Ife : Prop where
 wr : ∀ (e : En) (ao : Option Addr) (cp : Nat) (w : World), (e.k = 1 ∨ e.k = 2 ∨ e.k = 3) → EnOk e → e.ws.length ≤ 100 → WsAt w.heap.size (.slice ao e.ws.length cp) e.ws w → Calls Tryz.prog 50 #[.agg #[.int .i64 e.k, .int .u32 (e.c : Int), .int .u32 (e.n : Int), .int .u64 (e.sp : Int), .int .u32 (e.sl : Int), .int .u64 (e.ap : Int), .int .u32 (e.al : Int), .int .u64 (e.mp : Int), .int .u32 (e.ml : Int), .string (bs e.prim), .int .u8 (e.pt : Int), .bool e.dn, .slice ao e.ws.length cp]] w fun r w' => r = .returned (.tuple #[.string (bs (writeE e).1), .int .i64 (writeE e).2]) ∧ Below w.heap.size w w'
end Go.Proofs.YtajjnmdomabmkaaGreat.Ent
namespace Go.Proofs.YtajjnmdomabmkaaGreat.Ent
open Go.RowKit Go.Sort
structure Wz (w : World) (b pb : Nat) (e : En) (ao : Option Addr) (cp : Nat) (L : List UInt8) (W : World) : Prop where
 eb : Eb w b e ao cp W
 wr : WrAt pb L W
 lt : b < pb
 le : w.heap.size ≤ pb
variable {w W W' : World} {b pb : Nat} {e : En} {ao : Option Addr} {cp : Nat} {L L' : List UInt8}
theorem wz_new (h : Eb w b e ao cp W) : Wz w b W.heap.size e ao cp [] (W.alloc (.cells #[.slice none 0 0] 200)) :=
 ⟨h.on (al _), ⟨.slice none 0 0, heap_alloc_new W _, own_nil _ _ _ _⟩, (Array.getElem?_eq_some_iff.1 h.x).1, h.bel.size⟩
theorem Wz.go (h : Wz w b pb e ao cp L W) (hw : WrAt pb L' W') (hk : KeptW pb W W') : Wz w b pb e ao cp L' W' :=
 ⟨⟨h.eb.bel.trans (hk.below.mono h.le), by rw [hk.below.block b h.lt]; exact h.eb.x, h.eb.ws.on (hk.below.mono h.le)⟩, hw, h.lt, h.le⟩
variable {bw : Nat} {x : Wr}
theorem text19 (pb : Nat) (l s : List UInt8) (w : World) (hw : WrAt pb l w) (hl : l.length + 9 + s.length ≤ 140737488355328) : Calls Tryz.prog 205 #[.pointer (some ⟨pb, 0, none⟩), .string (bs s)] w fun e w' => e = .returned (.tuple #[]) ∧ WrAt pb (l ++ textForm s) w' ∧ KeptW pb w w' := by
 have := text12 pb l (bs s) w hw (by rw [bs_size]; exact hl)
 rw [bs_size, bs_data] at this
 exact this
end Go.Proofs.YtajjnmdomabmkaaGreat.Ent
namespace Go.Proofs.YtajjnmdomabmkaaGreat.Ent
open Go.RowKit Go.Sort
structure Pz (w : World) (B b pb : Nat) (e : En) (ao : Option Addr) (cp : Nat) (L : List UInt8) (W : World) : Prop where
 x : W.heap[b]? = some (.cells #[.int .i64 e.k, .int .u32 (e.c : Int), .int .u32 (e.n : Int), .int .u64 (e.sp : Int), .int .u32 (e.sl : Int), .int .u64 (e.ap : Int), .int .u32 (e.al : Int), .int .u64 (e.mp : Int), .int .u32 (e.ml : Int), .string (bs e.prim), .int .u8 (e.pt : Int), .bool e.dn, .slice ao e.ws.length cp] 124 (0, 0))
 wr : WrAt pb L W
 ne : b ≠ pb
 k : KeptW pb w W
 ws : WsAt B (.slice ao e.ws.length cp) e.ws W
 hB : B ≤ pb
variable {w W W' : World} {B b pb : Nat} {e : En} {ao : Option Addr} {cp : Nat} {L L' : List UInt8}
theorem pz_new (hw : WrAt pb L w) (hws : WsAt B (.slice ao e.ws.length cp) e.ws w) (hB : B ≤ pb) : Pz w B w.heap.size pb e ao cp L (w.alloc (.cells #[.int .i64 e.k, .int .u32 (e.c : Int), .int .u32 (e.n : Int), .int .u64 (e.sp : Int), .int .u32 (e.sl : Int), .int .u64 (e.ap : Int), .int .u32 (e.al : Int), .int .u64 (e.mp : Int), .int .u32 (e.ml : Int), .string (bs e.prim), .int .u8 (e.pt : Int), .bool e.dn, .slice ao e.ws.length cp] 124)) := by
 obtain ⟨v, h1, h2⟩ := hw
 have hlt := (Array.getElem?_eq_some_iff.1 h1).1
 exact ⟨heap_alloc_new w _, WrAt.alloc ⟨v, h1, h2⟩ _, by omega, (KeptW.refl pb w).alloc (Nat.le_of_lt hlt) _, hws.on ((al _).mono (by omega)), hB⟩
theorem Pz.go (h : Pz w B b pb e ao cp L W) (hw : WrAt pb L' W') (hk : KeptW pb W W') : Pz w B b pb e ao cp L' W' :=
 ⟨hk.other b _ h.x h.ne (fun cs fz hh => by injection hh with _ h2 _; exact absurd h2 (by decide)), hw, h.ne, h.k.trans hk, h.ws.on (hk.below.mono h.hB), h.hB⟩
structure Pb (w : World) (B b pb bw : Nat) (e : En) (ao : Option Addr) (cp : Nat) (L : List UInt8) (x : Wr) (W : World) : Prop where
 z : Pz w B b pb e ao cp L W
 bx : W.heap[bw]? = some (.cells #[.string (bs x.key), .string (bs x.val), .bool x.dead] 144 (0, 0))
 ne : bw ≠ pb
variable {bw : Nat} {x : Wr}
theorem Pz.box (h : Pz w B b pb e ao cp L W) (x : Wr) : Pb w B b pb W.heap.size e ao cp L x (W.alloc (.cells #[.string (bs x.key), .string (bs x.val), .bool x.dead] 144)) := by
 obtain ⟨v, h1, h2⟩ := h.wr
 have hlt := (Array.getElem?_eq_some_iff.1 h1).1
 have hlb := h.hB
 exact ⟨⟨by rw [(al (W := W) _).block b (Array.getElem?_eq_some_iff.1 h.x).1]; exact h.x, h.wr.alloc _, h.ne, h.k.alloc (Nat.le_of_lt hlt) _, h.ws.on ((al _).mono (by omega)), h.hB⟩, heap_alloc_new W _, by omega⟩
theorem Pb.go (h : Pb w B b pb bw e ao cp L x W) (hw : WrAt pb L' W') (hk : KeptW pb W W') : Pb w B b pb bw e ao cp L' x W' :=
 ⟨h.z.go hw hk, hk.other bw _ h.bx h.ne (fun cs fz hh => by injection hh with _ h2 _; exact absurd h2 (by decide)), h.ne⟩
end Go.Proofs.YtajjnmdomabmkaaGreat.Ent
namespace Go.Proofs.YtajjnmdomabmkaaGreat.Ent
open Go.RowKit Go.Sort
theorem ph16_1 (k : Int) (c n sp sq ap aq mp mq : Nat) (prim : List UInt8) (pt : Nat) (dn : Bool) (ws : List Wr) (ao : Option Addr) (cp : Nat) (w : World) (B pb : Nat) (L : List UInt8) (hk : Wk c n sp sq ap aq mp mq prim pt ws) (hws : WsAt B (.slice ao ws.length cp) ws w) (hB : B ≤ pb) (hw : WrAt pb L w) (hL : L.length ≤ 200) :
  Calls Tryz.prog 104 #[.pointer (some ⟨pb, 0, none⟩), .agg #[.int .i64 k, .int .u32 (c : Int), .int .u32 (n : Int), .int .u64 (sp : Int), .int .u32 (sq : Int), .int .u64 (ap : Int), .int .u32 (aq : Int), .int .u64 (mp : Int), .int .u32 (mq : Int), .string (bs prim), .int .u8 (pt : Int), .bool dn, .slice ao ws.length cp], .int .u16 1] w fun r w' => r = .returned (.tuple #[]) ∧ WrAt pb (L ++ ((numForm c ++ numForm n))) w' ∧ KeptW pb w w' := by
 have H0 : Hid _ := pz_new (e := (En.mk k c n sp sq ap aq mp mq prim pt dn ws)) hw hws hB
 obtain ⟨ao', cap, he, hla, hma⟩ := hws.shape
 simp only [Value.slice.injEq, true_and] at he
 obtain ⟨rfl, rfl⟩ := he
 have hL1 : ws.length < 9223372036854775808 := by omega
 obtain ⟨W1, hW1⟩ : ∃ W1, w.alloc (.cells #[.int .i64 k, .int .u32 (c : Int), .int .u32 (n : Int), .int .u64 (sp : Int), .int .u32 (sq : Int), .int .u64 (ap : Int), .int .u32 (aq : Int), .int .u64 (mp : Int), .int .u32 (mq : Int), .string (bs prim), .int .u8 (pt : Int), .bool dn, .slice ao ws.length cp] 124) = W1 := ⟨_, rfl⟩
 obtain ⟨b, hb⟩ : ∃ b, w.heap.size = b := ⟨_, rfl⟩
 have HZ0 : Hid (Pz w B b pb (En.mk k c n sp sq ap aq mp mq prim pt dn ws) ao cp L W1) := by rw [← hb, ← hW1]; exact H0.out
 have HK : Hid _ := hk
 clear H0 hws hla hma hk hw hB
 go_enter Tryz.func104, Tryz.ntmps104
 go_upto_region 1 with fail
 clear hb hW1
 obtain ⟨M0, hM0⟩ : ∃ M0 : List UInt8, L = M0 := ⟨_, rfl⟩
 have HM0 : Hid (L = M0) := hM0
 have lm0 : M0.length ≤ 200 := by rw [← hM0]; exact hL
 rw [hM0] at HZ0
 clear hM0 hL
 have C : Hid (∀ W : World, 1 = 1 → Calls Tryz.prog 155 #[.int .u16 1, .int .u16 1] W fun r w' => r = .returned (.bool true) ∧ W = w') := fun W _ => has41 1 1 W (by omega) (by omega)
 go_wp2_with fail
 refine (C.out _ (by trivial)).mono ?_
 rintro r wx ⟨rfl, rfl⟩
 clear C
 have C : Hid (1 = 1 → Calls Tryz.prog 103 #[.pointer (some ⟨pb, 0, none⟩), .int .u64 (c : Int)] W1 fun r w' => r = .returned (.tuple #[]) ∧ WrAt pb (M0 ++ numForm c) w' ∧ KeptW pb W1 w') := fun _ => num10 pb M0 c W1 (by have := HK.out.c; omega) HZ0.out.wr (by omega)
 have p1 := block_cell (j := 1) HZ0.out.x rfl
 have x1 := u64w (n := c) (by have := HK.out.c; omega)
 go_wp2_with fail
 refine (C.out (by simp)).mono ?_
 rintro r y1 ⟨rfl, hw, hk⟩
 have HX : Hid (Pz w B b pb (En.mk k c n sp sq ap aq mp mq prim pt dn ws) ao cp (M0 ++ numForm c) y1) := HZ0.out.go hw hk
 have lf : (numForm c).length ≤ 9 := nf_len (by have := HK.out.c; omega)
 obtain ⟨M1, hL⟩ : ∃ q, M0 ++ numForm c = q := ⟨_, rfl⟩
 have lm1 : M1.length ≤ 209 := by rw [← hL, List.length_append]; omega
 have HM1 : Hid (M0 ++ numForm c = M1) := hL
 rw [hL] at HX
 have HZ1 : Hid (Pz w B b pb (En.mk k c n sp sq ap aq mp mq prim pt dn ws) ao cp M1 y1) := HX.out
 clear hw hk HX C lf hL HZ0 lm0 p1  x1
 have C : Hid (1 = 1 → Calls Tryz.prog 103 #[.pointer (some ⟨pb, 0, none⟩), .int .u64 (n : Int)] y1 fun r w' => r = .returned (.tuple #[]) ∧ WrAt pb (M1 ++ numForm n) w' ∧ KeptW pb y1 w') := fun _ => num10 pb M1 n y1 (by have := HK.out.n; omega) HZ1.out.wr (by omega)
 have p2 := block_cell (j := 2) HZ1.out.x rfl
 have x1 := u64w (n := n) (by have := HK.out.n; omega)
 go_wp2_with fail
 refine (C.out (by simp)).mono ?_
 rintro r y2 ⟨rfl, hw, hk⟩
 have HX : Hid (Pz w B b pb (En.mk k c n sp sq ap aq mp mq prim pt dn ws) ao cp (M1 ++ numForm n) y2) := HZ1.out.go hw hk
 have lf : (numForm n).length ≤ 9 := nf_len (by have := HK.out.n; omega)
 obtain ⟨M2, hL⟩ : ∃ q, M1 ++ numForm n = q := ⟨_, rfl⟩
 have lm2 : M2.length ≤ 218 := by rw [← hL, List.length_append]; omega
 have HM2 : Hid (M1 ++ numForm n = M2) := hL
 rw [hL] at HX
 have HZ2 : Hid (Pz w B b pb (En.mk k c n sp sq ap aq mp mq prim pt dn ws) ao cp M2 y2) := HX.out
 clear hw hk HX C lf hL HZ1 lm1 p2  x1
 have C : Hid (∀ W : World, 1 = 1 → Calls Tryz.prog 155 #[.int .u16 1, .int .u16 2] W fun r w' => r = .returned (.bool false) ∧ W = w') := fun W _ => has41 1 2 W (by omega) (by omega)
 go_wp2_with fail
 refine (C.out _ (by trivial)).mono ?_
 rintro r wx ⟨rfl, rfl⟩
 clear C
 have C : Hid (∀ W : World, 1 = 1 → Calls Tryz.prog 155 #[.int .u16 1, .int .u16 4] W fun r w' => r = .returned (.bool false) ∧ W = w') := fun W _ => has41 1 4 W (by omega) (by omega)
 go_wp2_with fail
 refine (C.out _ (by trivial)).mono ?_
 rintro r wx ⟨rfl, rfl⟩
 clear C
 have C : Hid (∀ W : World, 1 = 1 → Calls Tryz.prog 155 #[.int .u16 1, .int .u16 8] W fun r w' => r = .returned (.bool false) ∧ W = w') := fun W _ => has41 1 8 W (by omega) (by omega)
 go_wp2_with fail
 refine (C.out _ (by trivial)).mono ?_
 rintro r wx ⟨rfl, rfl⟩
 clear C
 have HF : Hid (L ++ ((numForm c ++ numForm n)) = M2) := by
  show _ = _
  rw [← HM2.out]
  rw [← HM1.out]
  rw [← HM0.out]
  try simp [List.append_assoc]
 go_wp2_with fail
 go_end0
 exact ⟨rfl, (by have h := HZ2.out.wr; rw [← HF.out] at h; first | exact h | simpa only [List.append_assoc] using h), HZ2.out.k⟩
theorem ph16_3 (k : Int) (c n sp sq ap aq mp mq : Nat) (prim : List UInt8) (pt : Nat) (dn : Bool) (ws : List Wr) (ao : Option Addr) (cp : Nat) (w : World) (B pb : Nat) (L : List UInt8) (hk : Wk c n sp sq ap aq mp mq prim pt ws) (hws : WsAt B (.slice ao ws.length cp) ws w) (hB : B ≤ pb) (hw : WrAt pb L w) (hL : L.length ≤ 200) :
  Calls Tryz.prog 104 #[.pointer (some ⟨pb, 0, none⟩), .agg #[.int .i64 k, .int .u32 (c : Int), .int .u32 (n : Int), .int .u64 (sp : Int), .int .u32 (sq : Int), .int .u64 (ap : Int), .int .u32 (aq : Int), .int .u64 (mp : Int), .int .u32 (mq : Int), .string (bs prim), .int .u8 (pt : Int), .bool dn, .slice ao ws.length cp], .int .u16 3] w fun r w' => r = .returned (.tuple #[]) ∧ WrAt pb (L ++ ((numForm c ++ numForm n) ++ stampForm sp sq)) w' ∧ KeptW pb w w' := by
 have H0 : Hid _ := pz_new (e := (En.mk k c n sp sq ap aq mp mq prim pt dn ws)) hw hws hB
 obtain ⟨ao', cap, he, hla, hma⟩ := hws.shape
 simp only [Value.slice.injEq, true_and] at he
 obtain ⟨rfl, rfl⟩ := he
 have hL1 : ws.length < 9223372036854775808 := by omega
 obtain ⟨W1, hW1⟩ : ∃ W1, w.alloc (.cells #[.int .i64 k, .int .u32 (c : Int), .int .u32 (n : Int), .int .u64 (sp : Int), .int .u32 (sq : Int), .int .u64 (ap : Int), .int .u32 (aq : Int), .int .u64 (mp : Int), .int .u32 (mq : Int), .string (bs prim), .int .u8 (pt : Int), .bool dn, .slice ao ws.length cp] 124) = W1 := ⟨_, rfl⟩
 obtain ⟨b, hb⟩ : ∃ b, w.heap.size = b := ⟨_, rfl⟩
 have HZ0 : Hid (Pz w B b pb (En.mk k c n sp sq ap aq mp mq prim pt dn ws) ao cp L W1) := by rw [← hb, ← hW1]; exact H0.out
 have HK : Hid _ := hk
 clear H0 hws hla hma hk hw hB
 go_enter Tryz.func104, Tryz.ntmps104
 go_upto_region 1 with fail
 clear hb hW1
 obtain ⟨M0, hM0⟩ : ∃ M0 : List UInt8, L = M0 := ⟨_, rfl⟩
 have HM0 : Hid (L = M0) := hM0
 have lm0 : M0.length ≤ 200 := by rw [← hM0]; exact hL
 rw [hM0] at HZ0
 clear hM0 hL
 have C : Hid (∀ W : World, 1 = 1 → Calls Tryz.prog 155 #[.int .u16 3, .int .u16 1] W fun r w' => r = .returned (.bool true) ∧ W = w') := fun W _ => has41 3 1 W (by omega) (by omega)
 go_wp2_with fail
 refine (C.out _ (by trivial)).mono ?_
 rintro r wx ⟨rfl, rfl⟩
 clear C
 have C : Hid (1 = 1 → Calls Tryz.prog 103 #[.pointer (some ⟨pb, 0, none⟩), .int .u64 (c : Int)] W1 fun r w' => r = .returned (.tuple #[]) ∧ WrAt pb (M0 ++ numForm c) w' ∧ KeptW pb W1 w') := fun _ => num10 pb M0 c W1 (by have := HK.out.c; omega) HZ0.out.wr (by omega)
 have p1 := block_cell (j := 1) HZ0.out.x rfl
 have x1 := u64w (n := c) (by have := HK.out.c; omega)
 go_wp2_with fail
 refine (C.out (by simp)).mono ?_
 rintro r y1 ⟨rfl, hw, hk⟩
 have HX : Hid (Pz w B b pb (En.mk k c n sp sq ap aq mp mq prim pt dn ws) ao cp (M0 ++ numForm c) y1) := HZ0.out.go hw hk
 have lf : (numForm c).length ≤ 9 := nf_len (by have := HK.out.c; omega)
 obtain ⟨M1, hL⟩ : ∃ q, M0 ++ numForm c = q := ⟨_, rfl⟩
 have lm1 : M1.length ≤ 209 := by rw [← hL, List.length_append]; omega
 have HM1 : Hid (M0 ++ numForm c = M1) := hL
 rw [hL] at HX
 have HZ1 : Hid (Pz w B b pb (En.mk k c n sp sq ap aq mp mq prim pt dn ws) ao cp M1 y1) := HX.out
 clear hw hk HX C lf hL HZ0 lm0 p1  x1
 have C : Hid (1 = 1 → Calls Tryz.prog 103 #[.pointer (some ⟨pb, 0, none⟩), .int .u64 (n : Int)] y1 fun r w' => r = .returned (.tuple #[]) ∧ WrAt pb (M1 ++ numForm n) w' ∧ KeptW pb y1 w') := fun _ => num10 pb M1 n y1 (by have := HK.out.n; omega) HZ1.out.wr (by omega)
 have p2 := block_cell (j := 2) HZ1.out.x rfl
 have x1 := u64w (n := n) (by have := HK.out.n; omega)
 go_wp2_with fail
 refine (C.out (by simp)).mono ?_
 rintro r y2 ⟨rfl, hw, hk⟩
 have HX : Hid (Pz w B b pb (En.mk k c n sp sq ap aq mp mq prim pt dn ws) ao cp (M1 ++ numForm n) y2) := HZ1.out.go hw hk
 have lf : (numForm n).length ≤ 9 := nf_len (by have := HK.out.n; omega)
 obtain ⟨M2, hL⟩ : ∃ q, M1 ++ numForm n = q := ⟨_, rfl⟩
 have lm2 : M2.length ≤ 218 := by rw [← hL, List.length_append]; omega
 have HM2 : Hid (M1 ++ numForm n = M2) := hL
 rw [hL] at HX
 have HZ2 : Hid (Pz w B b pb (En.mk k c n sp sq ap aq mp mq prim pt dn ws) ao cp M2 y2) := HX.out
 clear hw hk HX C lf hL HZ1 lm1 p2  x1
 have C : Hid (∀ W : World, 1 = 1 → Calls Tryz.prog 155 #[.int .u16 3, .int .u16 2] W fun r w' => r = .returned (.bool true) ∧ W = w') := fun W _ => has41 3 2 W (by omega) (by omega)
 go_wp2_with fail
 refine (C.out _ (by trivial)).mono ?_
 rintro r wx ⟨rfl, rfl⟩
 clear C
 have C : Hid (1 = 1 → Calls Tryz.prog 204 #[.pointer (some ⟨pb, 0, none⟩), .agg #[.int .u64 (sp : Int), .int .u32 (sq : Int)]] y2 fun r w' => r = .returned (.tuple #[]) ∧ WrAt pb (M2 ++ stampForm sp sq) w' ∧ KeptW pb y2 w') := fun _ => stamp16 pb M2 sp sq y2 (by have := HK.out.sp; omega) (by have := HK.out.sq; omega) HZ2.out.wr (by omega)
 have p3 := block_cell (j := 3) HZ2.out.x rfl
 have p4 := block_cell (j := 4) HZ2.out.x rfl
 go_wp2_with fail
 refine (C.out (by simp)).mono ?_
 rintro r y3 ⟨rfl, hw, hk⟩
 have HX : Hid (Pz w B b pb (En.mk k c n sp sq ap aq mp mq prim pt dn ws) ao cp (M2 ++ stampForm sp sq) y3) := HZ2.out.go hw hk
 have lf : (stampForm sp sq).length ≤ 18 := stf_len HK.out.sp HK.out.sq
 obtain ⟨M3, hL⟩ : ∃ q, M2 ++ stampForm sp sq = q := ⟨_, rfl⟩
 have lm3 : M3.length ≤ 236 := by rw [← hL, List.length_append]; omega
 have HM3 : Hid (M2 ++ stampForm sp sq = M3) := hL
 rw [hL] at HX
 have HZ3 : Hid (Pz w B b pb (En.mk k c n sp sq ap aq mp mq prim pt dn ws) ao cp M3 y3) := HX.out
 clear hw hk HX C lf hL HZ2 lm2 p3 p4  
 have C : Hid (∀ W : World, 1 = 1 → Calls Tryz.prog 155 #[.int .u16 3, .int .u16 4] W fun r w' => r = .returned (.bool false) ∧ W = w') := fun W _ => has41 3 4 W (by omega) (by omega)
 go_wp2_with fail
 refine (C.out _ (by trivial)).mono ?_
 rintro r wx ⟨rfl, rfl⟩
 clear C
 have C : Hid (∀ W : World, 1 = 1 → Calls Tryz.prog 155 #[.int .u16 3, .int .u16 8] W fun r w' => r = .returned (.bool false) ∧ W = w') := fun W _ => has41 3 8 W (by omega) (by omega)
 go_wp2_with fail
 refine (C.out _ (by trivial)).mono ?_
 rintro r wx ⟨rfl, rfl⟩
 clear C
 have HF : Hid (L ++ ((numForm c ++ numForm n) ++ stampForm sp sq) = M3) := by
  show _ = _
  rw [← HM3.out]
  rw [← HM2.out]
  rw [← HM1.out]
  rw [← HM0.out]
  try simp [List.append_assoc]
 go_wp2_with fail
 go_end0
 exact ⟨rfl, (by have h := HZ3.out.wr; rw [← HF.out] at h; first | exact h | simpa only [List.append_assoc] using h), HZ3.out.k⟩
theorem ph16_4 (k : Int) (c n sp sq ap aq mp mq : Nat) (prim : List UInt8) (pt : Nat) (dn : Bool) (ws : List Wr) (ao : Option Addr) (cp : Nat) (w : World) (B pb : Nat) (L : List UInt8) (hk : Wk c n sp sq ap aq mp mq prim pt ws) (hws : WsAt B (.slice ao ws.length cp) ws w) (hB : B ≤ pb) (hw : WrAt pb L w) (hL : L.length ≤ 200) :
  Calls Tryz.prog 104 #[.pointer (some ⟨pb, 0, none⟩), .agg #[.int .i64 k, .int .u32 (c : Int), .int .u32 (n : Int), .int .u64 (sp : Int), .int .u32 (sq : Int), .int .u64 (ap : Int), .int .u32 (aq : Int), .int .u64 (mp : Int), .int .u32 (mq : Int), .string (bs prim), .int .u8 (pt : Int), .bool dn, .slice ao ws.length cp], .int .u16 4] w fun r w' => r = .returned (.tuple #[]) ∧ WrAt pb (L ++ (stampForm ap aq)) w' ∧ KeptW pb w w' := by
 have H0 : Hid _ := pz_new (e := (En.mk k c n sp sq ap aq mp mq prim pt dn ws)) hw hws hB
 obtain ⟨ao', cap, he, hla, hma⟩ := hws.shape
 simp only [Value.slice.injEq, true_and] at he
 obtain ⟨rfl, rfl⟩ := he
 have hL1 : ws.length < 9223372036854775808 := by omega
 obtain ⟨W1, hW1⟩ : ∃ W1, w.alloc (.cells #[.int .i64 k, .int .u32 (c : Int), .int .u32 (n : Int), .int .u64 (sp : Int), .int .u32 (sq : Int), .int .u64 (ap : Int), .int .u32 (aq : Int), .int .u64 (mp : Int), .int .u32 (mq : Int), .string (bs prim), .int .u8 (pt : Int), .bool dn, .slice ao ws.length cp] 124) = W1 := ⟨_, rfl⟩
 obtain ⟨b, hb⟩ : ∃ b, w.heap.size = b := ⟨_, rfl⟩
 have HZ0 : Hid (Pz w B b pb (En.mk k c n sp sq ap aq mp mq prim pt dn ws) ao cp L W1) := by rw [← hb, ← hW1]; exact H0.out
 have HK : Hid _ := hk
 clear H0 hws hla hma hk hw hB
 go_enter Tryz.func104, Tryz.ntmps104
 go_upto_region 1 with fail
 clear hb hW1
 obtain ⟨M0, hM0⟩ : ∃ M0 : List UInt8, L = M0 := ⟨_, rfl⟩
 have HM0 : Hid (L = M0) := hM0
 have lm0 : M0.length ≤ 200 := by rw [← hM0]; exact hL
 rw [hM0] at HZ0
 clear hM0 hL
 have C : Hid (∀ W : World, 1 = 1 → Calls Tryz.prog 155 #[.int .u16 4, .int .u16 1] W fun r w' => r = .returned (.bool false) ∧ W = w') := fun W _ => has41 4 1 W (by omega) (by omega)
 go_wp2_with fail
 refine (C.out _ (by trivial)).mono ?_
 rintro r wx ⟨rfl, rfl⟩
 clear C
 have C : Hid (∀ W : World, 1 = 1 → Calls Tryz.prog 155 #[.int .u16 4, .int .u16 2] W fun r w' => r = .returned (.bool false) ∧ W = w') := fun W _ => has41 4 2 W (by omega) (by omega)
 go_wp2_with fail
 refine (C.out _ (by trivial)).mono ?_
 rintro r wx ⟨rfl, rfl⟩
 clear C
 have C : Hid (∀ W : World, 1 = 1 → Calls Tryz.prog 155 #[.int .u16 4, .int .u16 4] W fun r w' => r = .returned (.bool true) ∧ W = w') := fun W _ => has41 4 4 W (by omega) (by omega)
 go_wp2_with fail
 refine (C.out _ (by trivial)).mono ?_
 rintro r wx ⟨rfl, rfl⟩
 clear C
 have C : Hid (1 = 1 → Calls Tryz.prog 204 #[.pointer (some ⟨pb, 0, none⟩), .agg #[.int .u64 (ap : Int), .int .u32 (aq : Int)]] W1 fun r w' => r = .returned (.tuple #[]) ∧ WrAt pb (M0 ++ stampForm ap aq) w' ∧ KeptW pb W1 w') := fun _ => stamp16 pb M0 ap aq W1 (by have := HK.out.ap; omega) (by have := HK.out.aq; omega) HZ0.out.wr (by omega)
 have p5 := block_cell (j := 5) HZ0.out.x rfl
 have p6 := block_cell (j := 6) HZ0.out.x rfl
 go_wp2_with fail
 refine (C.out (by simp)).mono ?_
 rintro r y1 ⟨rfl, hw, hk⟩
 have HX : Hid (Pz w B b pb (En.mk k c n sp sq ap aq mp mq prim pt dn ws) ao cp (M0 ++ stampForm ap aq) y1) := HZ0.out.go hw hk
 have lf : (stampForm ap aq).length ≤ 18 := stf_len HK.out.ap HK.out.aq
 obtain ⟨M1, hL⟩ : ∃ q, M0 ++ stampForm ap aq = q := ⟨_, rfl⟩
 have lm1 : M1.length ≤ 218 := by rw [← hL, List.length_append]; omega
 have HM1 : Hid (M0 ++ stampForm ap aq = M1) := hL
 rw [hL] at HX
 have HZ1 : Hid (Pz w B b pb (En.mk k c n sp sq ap aq mp mq prim pt dn ws) ao cp M1 y1) := HX.out
 clear hw hk HX C lf hL HZ0 lm0 p5 p6  
 have C : Hid (∀ W : World, 1 = 1 → Calls Tryz.prog 155 #[.int .u16 4, .int .u16 8] W fun r w' => r = .returned (.bool false) ∧ W = w') := fun W _ => has41 4 8 W (by omega) (by omega)
 go_wp2_with fail
 refine (C.out _ (by trivial)).mono ?_
 rintro r wx ⟨rfl, rfl⟩
 clear C
 have HF : Hid (L ++ (stampForm ap aq) = M1) := by
  show _ = _
  rw [← HM1.out]
  rw [← HM0.out]
  try simp [List.append_assoc]
 go_wp2_with fail
 go_end0
 exact ⟨rfl, (by have h := HZ1.out.wr; rw [← HF.out] at h; first | exact h | simpa only [List.append_assoc] using h), HZ1.out.k⟩
end Go.Proofs.YtajjnmdomabmkaaGreat.Ent
