/-
  The document's Write, kind by kind: the first ones.
-/
import Derived.Test.YtmgjlpgjjeknpaaWg
namespace Go.Proofs.Ytmgjlpgjjeknpaa
open Go.RowKit Go.Sort

set_option maxHeartbeats 3200000 in
set_option maxRecDepth 100000 in
theorem wr9_7 (c n sp sq ap aq mp mq : Nat) (prim : List UInt8) (pt : Nat) (dn : Bool) (ws : List Wr) (ao : Option Addr) (cp : Nat) (w : World) (hr : rightE (En.mk 7 c n sp sq ap aq mp mq prim pt dn ws) = true) (hk : Wk c n sp sq ap aq mp mq prim pt ws) (hws : WsAt w.heap.size (.slice ao ws.length cp) ws w) :
    Calls Try.prog 9 #[.agg #[.int .i64 7, .int .u32 (c : Int), .int .u32 (n : Int), .int .u64 (sp : Int), .int .u32 (sq : Int), .int .u64 (ap : Int), .int .u32 (aq : Int), .int .u64 (mp : Int), .int .u32 (mq : Int), .string (bs prim), .int .u8 (pt : Int), .bool dn, .slice ao ws.length cp]] w fun r w' => r = .returned (.tuple #[.string (bs (formE (En.mk 7 c n sp sq ap aq mp mq prim pt dn ws))), .int .i64 0]) ∧ Below w.heap.size w w' := by
  have H0 : Hid _ := eb_new (e := (En.mk 7 c n sp sq ap aq mp mq prim pt dn ws)) hws
  obtain ⟨ao', cap, he, hla, hma⟩ := hws.shape
  simp only [Value.slice.injEq, true_and] at he
  obtain ⟨rfl, rfl⟩ := he
  have hL1 : ws.length < 9223372036854775808 := by omega
  obtain ⟨W1, hW1⟩ : ∃ W1, w.alloc (.cells #[.int .i64 7, .int .u32 (c : Int), .int .u32 (n : Int), .int .u64 (sp : Int), .int .u32 (sq : Int), .int .u64 (ap : Int), .int .u32 (aq : Int), .int .u64 (mp : Int), .int .u32 (mq : Int), .string (bs prim), .int .u8 (pt : Int), .bool dn, .slice ao ws.length cp] 30) = W1 := ⟨_, rfl⟩
  obtain ⟨b, hb⟩ : ∃ b, w.heap.size = b := ⟨_, rfl⟩
  have H1 : Hid (Eb w b (En.mk 7 c n sp sq ap aq mp mq prim pt dn ws) ao cp W1) := by rw [← hb, ← hW1]; exact H0.out
  have HK : Hid _ := hk
  have CR : Hid (1 = 1 → Calls Try.prog 19 #[.agg #[.int .i64 7, .int .u32 (c : Int), .int .u32 (n : Int), .int .u64 (sp : Int), .int .u32 (sq : Int), .int .u64 (ap : Int), .int .u32 (aq : Int), .int .u64 (mp : Int), .int .u32 (mq : Int), .string (bs prim), .int .u8 (pt : Int), .bool dn, .slice ao ws.length cp]] W1 fun r w' => r = .returned (.bool true) ∧ Below W1.heap.size W1 w') := fun _ => by
    have := right22 (En.mk 7 c n sp sq ap aq mp mq prim pt dn ws) ao cp W1 H1.out.wsx
    rw [hr] at this
    exact this
  have p0 : W1.cell? ⟨b, 0, none⟩ = some (.int .i64 7) := block_cell H1.out.x rfl
  have p1 : W1.cell? ⟨b, 1, none⟩ = some (.int .u32 (c : Int)) := block_cell H1.out.x rfl
  have p2 : W1.cell? ⟨b, 2, none⟩ = some (.int .u32 (n : Int)) := block_cell H1.out.x rfl
  have p3 : W1.cell? ⟨b, 3, none⟩ = some (.int .u64 (sp : Int)) := block_cell H1.out.x rfl
  have p4 : W1.cell? ⟨b, 4, none⟩ = some (.int .u32 (sq : Int)) := block_cell H1.out.x rfl
  have p5 : W1.cell? ⟨b, 5, none⟩ = some (.int .u64 (ap : Int)) := block_cell H1.out.x rfl
  have p6 : W1.cell? ⟨b, 6, none⟩ = some (.int .u32 (aq : Int)) := block_cell H1.out.x rfl
  have p7 : W1.cell? ⟨b, 7, none⟩ = some (.int .u64 (mp : Int)) := block_cell H1.out.x rfl
  have p8 : W1.cell? ⟨b, 8, none⟩ = some (.int .u32 (mq : Int)) := block_cell H1.out.x rfl
  have p9 : W1.cell? ⟨b, 9, none⟩ = some (.string (bs prim)) := block_cell H1.out.x rfl
  have p10 : W1.cell? ⟨b, 10, none⟩ = some (.int .u8 (pt : Int)) := block_cell H1.out.x rfl
  have p11 : W1.cell? ⟨b, 11, none⟩ = some (.bool dn) := block_cell H1.out.x rfl
  have p12 : W1.cell? ⟨b, 12, none⟩ = some (.slice ao ws.length cp) := block_cell H1.out.x rfl
  clear H0 hws hla hma hr hk
  go_enter Try.func9, Try.ntmps9
  go_wp2_with fail
  refine (CR.out (by simp)).mono ?_
  rintro r w1 ⟨rfl, hb1⟩
  have Ha : Hid (Eb w b (En.mk 7 c n sp sq ap aq mp mq prim pt dn ws) ao cp w1) := H1.out.on hb1
  clear p0 p1 p2 p3 p4 p5 p6 p7 p8 p9 p10 p11 p12 hb1 hb hW1 CR H1
  have p0 : w1.cell? ⟨b, 0, none⟩ = some (.int .i64 7) := block_cell Ha.out.x rfl
  have c0 : Hid (1 = 1 → Calls Try.prog 20 #[.int .u64 7] w1 fun r w' => r = .returned (.string (bs (numForm 7))) ∧ Below w1.heap.size w1 w') := fun _ => refNum11 7 w1 (by omega)
  go_wp2_with fail
  refine (c0.out (by simp)).mono ?_
  rintro r w2 ⟨rfl, hb2⟩
  have Hb : Hid (Eb w b (En.mk 7 c n sp sq ap aq mp mq prim pt dn ws) ao cp w2) := Ha.out.on hb2
  clear p0 hb2 c0 Ha
  obtain ⟨L0, hL0⟩ : ∃ L0, numForm 7 = L0 := ⟨_, rfl⟩
  have ll0 : L0.length ≤ 9 := by rw [← hL0]; exact nf_len (by omega)
  have HL0 : Hid (numForm 7 = L0) := hL0
  rw [hL0]
  clear hL0
  have lf1 : (numForm c).length ≤ 9 := nf_len (by have := HK.out.c; omega)
  obtain ⟨a1, n1⟩ := add_two L0 (numForm c) (by omega)
  obtain ⟨L1, hL1⟩ : ∃ L1, L0 ++ numForm c = L1 := ⟨_, rfl⟩
  have ll1 : L1.length ≤ 18 := by rw [← hL1, List.length_append]; omega
  rw [hL1] at a1
  have HL1 : Hid (L0 ++ numForm c = L1) := hL1
  clear hL1 lf1 ll0
  have lf2 : (numForm n).length ≤ 9 := nf_len (by have := HK.out.n; omega)
  obtain ⟨a2, n2⟩ := add_two L1 (numForm n) (by omega)
  obtain ⟨L2, hL2⟩ : ∃ L2, L1 ++ numForm n = L2 := ⟨_, rfl⟩
  have ll2 : L2.length ≤ 27 := by rw [← hL2, List.length_append]; omega
  rw [hL2] at a2
  have HL2 : Hid (L1 ++ numForm n = L2) := hL2
  clear hL2 lf2 ll1
  have p0 : w2.cell? ⟨b, 0, none⟩ = some (.int .i64 7) := block_cell Hb.out.x rfl
  have x1 := u64w (n := c) (by have := HK.out.c; omega)
  have x2 := u64w (n := n) (by have := HK.out.n; omega)
  have cA : Hid (∀ d os, Calls Try.prog 20 #[.int .u64 (c : Int)] (grow (redrawn w2 d) os) fun r w'' => r = .returned (.string (bs (numForm c))) ∧ ∃ p : Regrown, w'' = grow (redrawn w2 p.d) p.os) := fun d os => Calls.regrown_of (refNum11 c _ (by have := HK.out.c; omega))
  have cB : Hid (∀ d os, Calls Try.prog 20 #[.int .u64 (n : Int)] (grow (redrawn w2 d) os) fun r w'' => r = .returned (.string (bs (numForm n))) ∧ ∃ p : Regrown, w'' = grow (redrawn w2 p.d) p.os) := fun d os => Calls.regrown_of (refNum11 n _ (by have := HK.out.n; omega))
  have g1 := cell_regrown (show w2.cell? ⟨b, 1, none⟩ = some (.int .u32 (c : Int)) from block_cell Hb.out.x rfl)
  have g2 := cell_regrown (show w2.cell? ⟨b, 2, none⟩ = some (.int .u32 (n : Int)) from block_cell Hb.out.x rfl)
  generalize hFc : numForm c = Fc at *
  have HFc : Hid (numForm c = Fc) := hFc
  clear hFc
  generalize hFn : numForm n = Fn at *
  have HFn : Hid (numForm n = Fn) := hFn
  clear hFn
  go_wp2_with fail
  clear p0
  refine wp_region_quiet_below (by kernel_rfl) (by kernel_rfl) (Veil.out ?_)
  repeat (refine vq_step (fun K hK => ?_); go_simp; refine hK _ ?_; clear hK K)
  (refine vq_step (fun K hK => ?_); go_simp; apply Exists.intro; refine ⟨fun _ => ?_, hK _ ?_⟩; exact cA.out _ _; clear hK K)
  repeat (refine vq_step (fun K hK => ?_); go_simp; refine hK _ ?_; clear hK K)
  (refine vq_step (fun K hK => ?_); go_simp; apply Exists.intro; refine ⟨fun _ => ?_, hK _ ?_⟩; exact cB.out _ _; clear hK K)
  repeat (refine vq_step (fun K hK => ?_); go_simp; refine hK _ ?_; clear hK K)
  refine vq_nil ?_
  intro _ hw'
  obtain ⟨⟨dq, osq⟩, hw''⟩ := hw'
  subst hw''
  have Hx : Hid (Eb w b (En.mk 7 c n sp sq ap aq mp mq prim pt dn ws) ao cp (grow (redrawn w2 dq) osq)) := Hb.out.on (below_regrown w2 dq osq)
  obtain ⟨w3, hw2⟩ : ∃ w3, grow (redrawn w2 dq) osq = w3 := ⟨_, rfl⟩
  rw [hw2] at Hx ⊢
  have Hc : Hid (Eb w b (En.mk 7 c n sp sq ap aq mp mq prim pt dn ws) ao cp w3) := Hx.out
  clear hw2 Hx cA cB g1 g2 x1 x2 a1 n1 a2 n2 Hb
  have p0 : w3.cell? ⟨b, 0, none⟩ = some (.int .i64 7) := block_cell Hc.out.x rfl
  go_wp2_with fail
  clear p0
  obtain ⟨LK, hLK⟩ : ∃ LK, L2 = LK := ⟨_, rfl⟩
  have HLK : Hid _ := hLK
  have llk : LK.length ≤ 27 := by rw [← hLK]; exact ll2
  rw [hLK]
  clear hLK ll2
  have HW0 : Hid (LK ++ wsForm (ws.take 0) = LK) := by show _ = _; simp [wsForm]
  go_loopw [4, 5] (fun sv i wr => ∃ m : Nat, m ≤ ws.length ∧ i = .int .i64 m ∧ Hid (sv = .string (bs (LK ++ wsForm (ws.take m))) ∧ Eb w b (En.mk 7 c n sp sq ap aq mp mq prim pt dn ws) ao cp wr)) (fun _ i _ => ws.length - (intOf i).toNat)
  case atStart => exact ⟨0, Nat.zero_le _, rfl, by rw [HW0.out], Hc.out⟩
  case round =>
    obtain ⟨m, hm, rfl, HR⟩ := hrel
    obtain ⟨hsv, hE⟩ := HR.out
    subst hsv
    have HE : Hid (Eb w b (En.mk 7 c n sp sq ap aq mp mq prim pt dn ws) ao cp wr) := hE
    clear hE HR
    have p12 : wr.cell? ⟨b, 12, none⟩ = some (.slice ao ws.length cp) := block_cell HE.out.x rfl
    by_cases hml : m < ws.length
    · obtain ⟨c1, o1, rfl, d0, d1, d2⟩ := HE.out.wsx.el hml
      have hml1 : (m : Int) < ws.length := by omega
      have HX : Hid (wOk (ws.getD m dw) = true) := HK.out.ws _ (getD_memW hml)
      have CW : Hid (1 = 1 → Calls Try.prog 23 #[.agg #[.string (bs (ws.getD m dw).key), .string (bs (ws.getD m dw).val), .bool (ws.getD m dw).dead]] wr fun r w' => r = .returned (.string (bs (wrForm (ws.getD m dw)))) ∧ Below wr.heap.size wr w') := fun _ => write26 _ wr HX.out
      have lt1 : (wsForm (ws.take m)).length ≤ 307 * 16 := by
        have h1 := ws_len (ws := ws.take m) (fun x hx => HK.out.ws x (List.mem_of_mem_take hx))
        have h2 : (ws.take m).length ≤ 16 := by have := HK.out.len; rw [List.length_take]; omega
        omega
      have lt2 := wf_len HX.out
      obtain ⟨a1, n1⟩ := add_two (LK ++ wsForm (ws.take m)) (wrForm (ws.getD m dw)) (by rw [List.length_append]; omega)
      have HT : Hid (bs (LK ++ wsForm (ws.take m) ++ wrForm (ws.getD m dw)) = bs (LK ++ wsForm (ws.take (m + 1)))) := by show _ = _; rw [take_form hml, List.append_assoc]
      have HQ : Hid (m + 1 ≤ ws.length) := hml
      generalize LK ++ wsForm (ws.take m) = LM at *
      generalize ws.getD m dw = x at *
      generalize wrForm x = Fx at *
      clear lt1 lt2 llk
      go_wp2_with fail
      refine (CW.out (by simp)).mono ?_
      rintro r w9 ⟨rfl, hb9⟩
      have H9 : Hid (Eb w b (En.mk 7 c n sp sq ap aq mp mq prim pt dn ws) (some ⟨c1, o1, none⟩) cp w9) := HE.out.on hb9
      clear hb9 CW p12 d0 d1 d2 HE
      go_wp2_with fail
      go_roundw
      case rel => exact ⟨m + 1, HQ.out, by go_num, by rw [HT.out], H9.out⟩
      case measure => simp [intOf]; omega
    · have hml1 : ¬ (m : Int) < ws.length := by omega
      have HTW : Hid (ws.take m = ws) := List.take_of_length_le (by omega)
      rw [HTW.out]
      have lt1 : (wsForm ws).length ≤ 307 * 16 := by
        have h1 := ws_len HK.out.ws
        have h2 := HK.out.len
        omega
      obtain ⟨LW, hLW⟩ : ∃ LW, LK ++ wsForm ws = LW := ⟨_, rfl⟩
      have llw : LW.length ≤ 4939 := by rw [← hLW, List.length_append]; omega
      have HLW : Hid (LK ++ wsForm ws = LW) := hLW
      rw [hLW]
      clear hLW lt1 llk
      have p0 : wr.cell? ⟨b, 0, none⟩ = some (.int .i64 7) := block_cell HE.out.x rfl
      have HF : Hid (formE (En.mk 7 c n sp sq ap aq mp mq prim pt dn ws) = LW) := by
        show _ = _
        rw [← HLW.out]
        rw [← HLK.out]
        rw [← HL2.out]
        rw [← HL1.out]
        rw [← HL0.out]
        rw [← HFc.out]
        rw [← HFn.out]
        simp [formE, byForm, stForm, midForm, ptForm, dnForm, hasBy, hasSt, hasAt, hasPt, List.append_assoc]
      go_wp2_with fail
      go_ret2
      exact ⟨by rw [HF.out]; rfl, HE.out.bel⟩
end Go.Proofs.Ytmgjlpgjjeknpaa

namespace Go.Proofs.Ytmgjlpgjjeknpaa
open Go.RowKit Go.Sort

set_option maxHeartbeats 3200000 in
set_option maxRecDepth 100000 in
theorem wr9_1 (c n sp sq ap aq mp mq : Nat) (prim : List UInt8) (pt : Nat) (dn : Bool) (ws : List Wr) (ao : Option Addr) (cp : Nat) (w : World) (hr : rightE (En.mk 1 c n sp sq ap aq mp mq prim pt dn ws) = true) (hk : Wk c n sp sq ap aq mp mq prim pt ws) (hws : WsAt w.heap.size (.slice ao ws.length cp) ws w) :
    Calls Try.prog 9 #[.agg #[.int .i64 1, .int .u32 (c : Int), .int .u32 (n : Int), .int .u64 (sp : Int), .int .u32 (sq : Int), .int .u64 (ap : Int), .int .u32 (aq : Int), .int .u64 (mp : Int), .int .u32 (mq : Int), .string (bs prim), .int .u8 (pt : Int), .bool dn, .slice ao ws.length cp]] w fun r w' => r = .returned (.tuple #[.string (bs (formE (En.mk 1 c n sp sq ap aq mp mq prim pt dn ws))), .int .i64 0]) ∧ Below w.heap.size w w' := by
  have H0 : Hid _ := eb_new (e := (En.mk 1 c n sp sq ap aq mp mq prim pt dn ws)) hws
  obtain ⟨ao', cap, he, hla, hma⟩ := hws.shape
  simp only [Value.slice.injEq, true_and] at he
  obtain ⟨rfl, rfl⟩ := he
  have hL1 : ws.length < 9223372036854775808 := by omega
  obtain ⟨W1, hW1⟩ : ∃ W1, w.alloc (.cells #[.int .i64 1, .int .u32 (c : Int), .int .u32 (n : Int), .int .u64 (sp : Int), .int .u32 (sq : Int), .int .u64 (ap : Int), .int .u32 (aq : Int), .int .u64 (mp : Int), .int .u32 (mq : Int), .string (bs prim), .int .u8 (pt : Int), .bool dn, .slice ao ws.length cp] 30) = W1 := ⟨_, rfl⟩
  obtain ⟨b, hb⟩ : ∃ b, w.heap.size = b := ⟨_, rfl⟩
  have H1 : Hid (Eb w b (En.mk 1 c n sp sq ap aq mp mq prim pt dn ws) ao cp W1) := by rw [← hb, ← hW1]; exact H0.out
  have HK : Hid _ := hk
  have CR : Hid (1 = 1 → Calls Try.prog 19 #[.agg #[.int .i64 1, .int .u32 (c : Int), .int .u32 (n : Int), .int .u64 (sp : Int), .int .u32 (sq : Int), .int .u64 (ap : Int), .int .u32 (aq : Int), .int .u64 (mp : Int), .int .u32 (mq : Int), .string (bs prim), .int .u8 (pt : Int), .bool dn, .slice ao ws.length cp]] W1 fun r w' => r = .returned (.bool true) ∧ Below W1.heap.size W1 w') := fun _ => by
    have := right22 (En.mk 1 c n sp sq ap aq mp mq prim pt dn ws) ao cp W1 H1.out.wsx
    rw [hr] at this
    exact this
  have p0 : W1.cell? ⟨b, 0, none⟩ = some (.int .i64 1) := block_cell H1.out.x rfl
  have p1 : W1.cell? ⟨b, 1, none⟩ = some (.int .u32 (c : Int)) := block_cell H1.out.x rfl
  have p2 : W1.cell? ⟨b, 2, none⟩ = some (.int .u32 (n : Int)) := block_cell H1.out.x rfl
  have p3 : W1.cell? ⟨b, 3, none⟩ = some (.int .u64 (sp : Int)) := block_cell H1.out.x rfl
  have p4 : W1.cell? ⟨b, 4, none⟩ = some (.int .u32 (sq : Int)) := block_cell H1.out.x rfl
  have p5 : W1.cell? ⟨b, 5, none⟩ = some (.int .u64 (ap : Int)) := block_cell H1.out.x rfl
  have p6 : W1.cell? ⟨b, 6, none⟩ = some (.int .u32 (aq : Int)) := block_cell H1.out.x rfl
  have p7 : W1.cell? ⟨b, 7, none⟩ = some (.int .u64 (mp : Int)) := block_cell H1.out.x rfl
  have p8 : W1.cell? ⟨b, 8, none⟩ = some (.int .u32 (mq : Int)) := block_cell H1.out.x rfl
  have p9 : W1.cell? ⟨b, 9, none⟩ = some (.string (bs prim)) := block_cell H1.out.x rfl
  have p10 : W1.cell? ⟨b, 10, none⟩ = some (.int .u8 (pt : Int)) := block_cell H1.out.x rfl
  have p11 : W1.cell? ⟨b, 11, none⟩ = some (.bool dn) := block_cell H1.out.x rfl
  have p12 : W1.cell? ⟨b, 12, none⟩ = some (.slice ao ws.length cp) := block_cell H1.out.x rfl
  clear H0 hws hla hma hr hk
  go_enter Try.func9, Try.ntmps9
  go_wp2_with fail
  refine (CR.out (by simp)).mono ?_
  rintro r w1 ⟨rfl, hb1⟩
  have Ha : Hid (Eb w b (En.mk 1 c n sp sq ap aq mp mq prim pt dn ws) ao cp w1) := H1.out.on hb1
  clear p0 p1 p2 p3 p4 p5 p6 p7 p8 p9 p10 p11 p12 hb1 hb hW1 CR H1
  have p0 : w1.cell? ⟨b, 0, none⟩ = some (.int .i64 1) := block_cell Ha.out.x rfl
  have c0 : Hid (1 = 1 → Calls Try.prog 20 #[.int .u64 1] w1 fun r w' => r = .returned (.string (bs (numForm 1))) ∧ Below w1.heap.size w1 w') := fun _ => refNum11 1 w1 (by omega)
  go_wp2_with fail
  refine (c0.out (by simp)).mono ?_
  rintro r w2 ⟨rfl, hb2⟩
  have Hb : Hid (Eb w b (En.mk 1 c n sp sq ap aq mp mq prim pt dn ws) ao cp w2) := Ha.out.on hb2
  clear p0 hb2 c0 Ha
  obtain ⟨L0, hL0⟩ : ∃ L0, numForm 1 = L0 := ⟨_, rfl⟩
  have ll0 : L0.length ≤ 9 := by rw [← hL0]; exact nf_len (by omega)
  have HL0 : Hid (numForm 1 = L0) := hL0
  rw [hL0]
  clear hL0
  have lf1 : (stampForm ap aq).length ≤ 18 := stf_len HK.out.ap HK.out.aq
  obtain ⟨a1, n1⟩ := add_two L0 (stampForm ap aq) (by omega)
  obtain ⟨L1, hL1⟩ : ∃ L1, L0 ++ stampForm ap aq = L1 := ⟨_, rfl⟩
  have ll1 : L1.length ≤ 27 := by rw [← hL1, List.length_append]; omega
  rw [hL1] at a1
  have HL1 : Hid (L0 ++ stampForm ap aq = L1) := hL1
  clear hL1 lf1 ll0
  have p0 : w2.cell? ⟨b, 0, none⟩ = some (.int .i64 1) := block_cell Hb.out.x rfl
  have p5 : w2.cell? ⟨b, 5, none⟩ = some (.int .u64 (ap : Int)) := block_cell Hb.out.x rfl
  have p6 : w2.cell? ⟨b, 6, none⟩ = some (.int .u32 (aq : Int)) := block_cell Hb.out.x rfl
  have c1 : Hid (1 = 1 → Calls Try.prog 21 #[.agg #[.int .u64 (ap : Int), .int .u32 (aq : Int)]] w2 fun r w' => r = .returned (.string (bs (stampForm ap aq))) ∧ Below w2.heap.size w2 w') := fun _ => refStamp17 ap aq w2 (by have := HK.out.ap; omega) (by have := HK.out.aq; omega)
  generalize hFa : stampForm ap aq = Fa at *
  have HFa : Hid (stampForm ap aq = Fa) := hFa
  clear hFa
  go_wp2_with fail
  refine (c1.out (by simp)).mono ?_
  rintro r w3 ⟨rfl, hb2⟩
  have Ha : Hid (Eb w b (En.mk 1 c n sp sq ap aq mp mq prim pt dn ws) ao cp w3) := Hb.out.on hb2
  clear p0 p5 p6 c1 hb2 Hb
  have p0 : w3.cell? ⟨b, 0, none⟩ = some (.int .i64 1) := block_cell Ha.out.x rfl
  go_wp2_with fail
  clear p0
  obtain ⟨LK, hLK⟩ : ∃ LK, L1 = LK := ⟨_, rfl⟩
  have HLK : Hid _ := hLK
  have llk : LK.length ≤ 27 := by rw [← hLK]; exact ll1
  rw [hLK]
  clear hLK ll1
  have HW0 : Hid (LK ++ wsForm (ws.take 0) = LK) := by show _ = _; simp [wsForm]
  go_loopw [4, 5] (fun sv i wr => ∃ m : Nat, m ≤ ws.length ∧ i = .int .i64 m ∧ Hid (sv = .string (bs (LK ++ wsForm (ws.take m))) ∧ Eb w b (En.mk 1 c n sp sq ap aq mp mq prim pt dn ws) ao cp wr)) (fun _ i _ => ws.length - (intOf i).toNat)
  case atStart => exact ⟨0, Nat.zero_le _, rfl, by rw [HW0.out], Ha.out⟩
  case round =>
    obtain ⟨m, hm, rfl, HR⟩ := hrel
    obtain ⟨hsv, hE⟩ := HR.out
    subst hsv
    have HE : Hid (Eb w b (En.mk 1 c n sp sq ap aq mp mq prim pt dn ws) ao cp wr) := hE
    clear hE HR
    have p12 : wr.cell? ⟨b, 12, none⟩ = some (.slice ao ws.length cp) := block_cell HE.out.x rfl
    by_cases hml : m < ws.length
    · obtain ⟨c1, o1, rfl, d0, d1, d2⟩ := HE.out.wsx.el hml
      have hml1 : (m : Int) < ws.length := by omega
      have HX : Hid (wOk (ws.getD m dw) = true) := HK.out.ws _ (getD_memW hml)
      have CW : Hid (1 = 1 → Calls Try.prog 23 #[.agg #[.string (bs (ws.getD m dw).key), .string (bs (ws.getD m dw).val), .bool (ws.getD m dw).dead]] wr fun r w' => r = .returned (.string (bs (wrForm (ws.getD m dw)))) ∧ Below wr.heap.size wr w') := fun _ => write26 _ wr HX.out
      have lt1 : (wsForm (ws.take m)).length ≤ 307 * 16 := by
        have h1 := ws_len (ws := ws.take m) (fun x hx => HK.out.ws x (List.mem_of_mem_take hx))
        have h2 : (ws.take m).length ≤ 16 := by have := HK.out.len; rw [List.length_take]; omega
        omega
      have lt2 := wf_len HX.out
      obtain ⟨a1, n1⟩ := add_two (LK ++ wsForm (ws.take m)) (wrForm (ws.getD m dw)) (by rw [List.length_append]; omega)
      have HT : Hid (bs (LK ++ wsForm (ws.take m) ++ wrForm (ws.getD m dw)) = bs (LK ++ wsForm (ws.take (m + 1)))) := by show _ = _; rw [take_form hml, List.append_assoc]
      have HQ : Hid (m + 1 ≤ ws.length) := hml
      generalize LK ++ wsForm (ws.take m) = LM at *
      generalize ws.getD m dw = x at *
      generalize wrForm x = Fx at *
      clear lt1 lt2 llk
      go_wp2_with fail
      refine (CW.out (by simp)).mono ?_
      rintro r w9 ⟨rfl, hb9⟩
      have H9 : Hid (Eb w b (En.mk 1 c n sp sq ap aq mp mq prim pt dn ws) (some ⟨c1, o1, none⟩) cp w9) := HE.out.on hb9
      clear hb9 CW p12 d0 d1 d2 HE
      go_wp2_with fail
      go_roundw
      case rel => exact ⟨m + 1, HQ.out, by go_num, by rw [HT.out], H9.out⟩
      case measure => simp [intOf]; omega
    · have hml1 : ¬ (m : Int) < ws.length := by omega
      have HTW : Hid (ws.take m = ws) := List.take_of_length_le (by omega)
      rw [HTW.out]
      have lt1 : (wsForm ws).length ≤ 307 * 16 := by
        have h1 := ws_len HK.out.ws
        have h2 := HK.out.len
        omega
      obtain ⟨LW, hLW⟩ : ∃ LW, LK ++ wsForm ws = LW := ⟨_, rfl⟩
      have llw : LW.length ≤ 4939 := by rw [← hLW, List.length_append]; omega
      have HLW : Hid (LK ++ wsForm ws = LW) := hLW
      rw [hLW]
      clear hLW lt1 llk
      have p0 : wr.cell? ⟨b, 0, none⟩ = some (.int .i64 1) := block_cell HE.out.x rfl
      have HF : Hid (formE (En.mk 1 c n sp sq ap aq mp mq prim pt dn ws) = LW) := by
        show _ = _
        rw [← HLW.out]
        rw [← HLK.out]
        rw [← HL1.out]
        rw [← HL0.out]
        rw [← HFa.out]
        simp [formE, byForm, stForm, midForm, ptForm, dnForm, hasBy, hasSt, hasAt, hasPt, List.append_assoc]
      go_wp2_with fail
      go_ret2
      exact ⟨by rw [HF.out]; rfl, HE.out.bel⟩
set_option maxHeartbeats 3200000 in
set_option maxRecDepth 100000 in
theorem wr9_6 (c n sp sq ap aq mp mq : Nat) (prim : List UInt8) (pt : Nat) (dn : Bool) (ws : List Wr) (ao : Option Addr) (cp : Nat) (w : World) (hr : rightE (En.mk 6 c n sp sq ap aq mp mq prim pt dn ws) = true) (hk : Wk c n sp sq ap aq mp mq prim pt ws) (hws : WsAt w.heap.size (.slice ao ws.length cp) ws w) :
    Calls Try.prog 9 #[.agg #[.int .i64 6, .int .u32 (c : Int), .int .u32 (n : Int), .int .u64 (sp : Int), .int .u32 (sq : Int), .int .u64 (ap : Int), .int .u32 (aq : Int), .int .u64 (mp : Int), .int .u32 (mq : Int), .string (bs prim), .int .u8 (pt : Int), .bool dn, .slice ao ws.length cp]] w fun r w' => r = .returned (.tuple #[.string (bs (formE (En.mk 6 c n sp sq ap aq mp mq prim pt dn ws))), .int .i64 0]) ∧ Below w.heap.size w w' := by
  have H0 : Hid _ := eb_new (e := (En.mk 6 c n sp sq ap aq mp mq prim pt dn ws)) hws
  obtain ⟨ao', cap, he, hla, hma⟩ := hws.shape
  simp only [Value.slice.injEq, true_and] at he
  obtain ⟨rfl, rfl⟩ := he
  have hL1 : ws.length < 9223372036854775808 := by omega
  obtain ⟨W1, hW1⟩ : ∃ W1, w.alloc (.cells #[.int .i64 6, .int .u32 (c : Int), .int .u32 (n : Int), .int .u64 (sp : Int), .int .u32 (sq : Int), .int .u64 (ap : Int), .int .u32 (aq : Int), .int .u64 (mp : Int), .int .u32 (mq : Int), .string (bs prim), .int .u8 (pt : Int), .bool dn, .slice ao ws.length cp] 30) = W1 := ⟨_, rfl⟩
  obtain ⟨b, hb⟩ : ∃ b, w.heap.size = b := ⟨_, rfl⟩
  have H1 : Hid (Eb w b (En.mk 6 c n sp sq ap aq mp mq prim pt dn ws) ao cp W1) := by rw [← hb, ← hW1]; exact H0.out
  have HK : Hid _ := hk
  have CR : Hid (1 = 1 → Calls Try.prog 19 #[.agg #[.int .i64 6, .int .u32 (c : Int), .int .u32 (n : Int), .int .u64 (sp : Int), .int .u32 (sq : Int), .int .u64 (ap : Int), .int .u32 (aq : Int), .int .u64 (mp : Int), .int .u32 (mq : Int), .string (bs prim), .int .u8 (pt : Int), .bool dn, .slice ao ws.length cp]] W1 fun r w' => r = .returned (.bool true) ∧ Below W1.heap.size W1 w') := fun _ => by
    have := right22 (En.mk 6 c n sp sq ap aq mp mq prim pt dn ws) ao cp W1 H1.out.wsx
    rw [hr] at this
    exact this
  have p0 : W1.cell? ⟨b, 0, none⟩ = some (.int .i64 6) := block_cell H1.out.x rfl
  have p1 : W1.cell? ⟨b, 1, none⟩ = some (.int .u32 (c : Int)) := block_cell H1.out.x rfl
  have p2 : W1.cell? ⟨b, 2, none⟩ = some (.int .u32 (n : Int)) := block_cell H1.out.x rfl
  have p3 : W1.cell? ⟨b, 3, none⟩ = some (.int .u64 (sp : Int)) := block_cell H1.out.x rfl
  have p4 : W1.cell? ⟨b, 4, none⟩ = some (.int .u32 (sq : Int)) := block_cell H1.out.x rfl
  have p5 : W1.cell? ⟨b, 5, none⟩ = some (.int .u64 (ap : Int)) := block_cell H1.out.x rfl
  have p6 : W1.cell? ⟨b, 6, none⟩ = some (.int .u32 (aq : Int)) := block_cell H1.out.x rfl
  have p7 : W1.cell? ⟨b, 7, none⟩ = some (.int .u64 (mp : Int)) := block_cell H1.out.x rfl
  have p8 : W1.cell? ⟨b, 8, none⟩ = some (.int .u32 (mq : Int)) := block_cell H1.out.x rfl
  have p9 : W1.cell? ⟨b, 9, none⟩ = some (.string (bs prim)) := block_cell H1.out.x rfl
  have p10 : W1.cell? ⟨b, 10, none⟩ = some (.int .u8 (pt : Int)) := block_cell H1.out.x rfl
  have p11 : W1.cell? ⟨b, 11, none⟩ = some (.bool dn) := block_cell H1.out.x rfl
  have p12 : W1.cell? ⟨b, 12, none⟩ = some (.slice ao ws.length cp) := block_cell H1.out.x rfl
  clear H0 hws hla hma hr hk
  go_enter Try.func9, Try.ntmps9
  go_wp2_with fail
  refine (CR.out (by simp)).mono ?_
  rintro r w1 ⟨rfl, hb1⟩
  have Ha : Hid (Eb w b (En.mk 6 c n sp sq ap aq mp mq prim pt dn ws) ao cp w1) := H1.out.on hb1
  clear p0 p1 p2 p3 p4 p5 p6 p7 p8 p9 p10 p11 p12 hb1 hb hW1 CR H1
  have p0 : w1.cell? ⟨b, 0, none⟩ = some (.int .i64 6) := block_cell Ha.out.x rfl
  have c0 : Hid (1 = 1 → Calls Try.prog 20 #[.int .u64 6] w1 fun r w' => r = .returned (.string (bs (numForm 6))) ∧ Below w1.heap.size w1 w') := fun _ => refNum11 6 w1 (by omega)
  go_wp2_with fail
  refine (c0.out (by simp)).mono ?_
  rintro r w2 ⟨rfl, hb2⟩
  have Hb : Hid (Eb w b (En.mk 6 c n sp sq ap aq mp mq prim pt dn ws) ao cp w2) := Ha.out.on hb2
  clear p0 hb2 c0 Ha
  obtain ⟨L0, hL0⟩ : ∃ L0, numForm 6 = L0 := ⟨_, rfl⟩
  have ll0 : L0.length ≤ 9 := by rw [← hL0]; exact nf_len (by omega)
  have HL0 : Hid (numForm 6 = L0) := hL0
  rw [hL0]
  clear hL0
  have lf1 : (stampForm ap aq).length ≤ 18 := stf_len HK.out.ap HK.out.aq
  obtain ⟨a1, n1⟩ := add_two L0 (stampForm ap aq) (by omega)
  obtain ⟨L1, hL1⟩ : ∃ L1, L0 ++ stampForm ap aq = L1 := ⟨_, rfl⟩
  have ll1 : L1.length ≤ 27 := by rw [← hL1, List.length_append]; omega
  rw [hL1] at a1
  have HL1 : Hid (L0 ++ stampForm ap aq = L1) := hL1
  clear hL1 lf1 ll0
  have p0 : w2.cell? ⟨b, 0, none⟩ = some (.int .i64 6) := block_cell Hb.out.x rfl
  have p5 : w2.cell? ⟨b, 5, none⟩ = some (.int .u64 (ap : Int)) := block_cell Hb.out.x rfl
  have p6 : w2.cell? ⟨b, 6, none⟩ = some (.int .u32 (aq : Int)) := block_cell Hb.out.x rfl
  have c1 : Hid (1 = 1 → Calls Try.prog 21 #[.agg #[.int .u64 (ap : Int), .int .u32 (aq : Int)]] w2 fun r w' => r = .returned (.string (bs (stampForm ap aq))) ∧ Below w2.heap.size w2 w') := fun _ => refStamp17 ap aq w2 (by have := HK.out.ap; omega) (by have := HK.out.aq; omega)
  generalize hFa : stampForm ap aq = Fa at *
  have HFa : Hid (stampForm ap aq = Fa) := hFa
  clear hFa
  go_wp2_with fail
  refine (c1.out (by simp)).mono ?_
  rintro r w3 ⟨rfl, hb2⟩
  have Ha : Hid (Eb w b (En.mk 6 c n sp sq ap aq mp mq prim pt dn ws) ao cp w3) := Hb.out.on hb2
  clear p0 p5 p6 c1 hb2 Hb
  have p0 : w3.cell? ⟨b, 0, none⟩ = some (.int .i64 6) := block_cell Ha.out.x rfl
  go_wp2_with fail
  clear p0
  obtain ⟨LK, hLK⟩ : ∃ LK, L1 = LK := ⟨_, rfl⟩
  have HLK : Hid _ := hLK
  have llk : LK.length ≤ 27 := by rw [← hLK]; exact ll1
  rw [hLK]
  clear hLK ll1
  have HW0 : Hid (LK ++ wsForm (ws.take 0) = LK) := by show _ = _; simp [wsForm]
  go_loopw [4, 5] (fun sv i wr => ∃ m : Nat, m ≤ ws.length ∧ i = .int .i64 m ∧ Hid (sv = .string (bs (LK ++ wsForm (ws.take m))) ∧ Eb w b (En.mk 6 c n sp sq ap aq mp mq prim pt dn ws) ao cp wr)) (fun _ i _ => ws.length - (intOf i).toNat)
  case atStart => exact ⟨0, Nat.zero_le _, rfl, by rw [HW0.out], Ha.out⟩
  case round =>
    obtain ⟨m, hm, rfl, HR⟩ := hrel
    obtain ⟨hsv, hE⟩ := HR.out
    subst hsv
    have HE : Hid (Eb w b (En.mk 6 c n sp sq ap aq mp mq prim pt dn ws) ao cp wr) := hE
    clear hE HR
    have p12 : wr.cell? ⟨b, 12, none⟩ = some (.slice ao ws.length cp) := block_cell HE.out.x rfl
    by_cases hml : m < ws.length
    · obtain ⟨c1, o1, rfl, d0, d1, d2⟩ := HE.out.wsx.el hml
      have hml1 : (m : Int) < ws.length := by omega
      have HX : Hid (wOk (ws.getD m dw) = true) := HK.out.ws _ (getD_memW hml)
      have CW : Hid (1 = 1 → Calls Try.prog 23 #[.agg #[.string (bs (ws.getD m dw).key), .string (bs (ws.getD m dw).val), .bool (ws.getD m dw).dead]] wr fun r w' => r = .returned (.string (bs (wrForm (ws.getD m dw)))) ∧ Below wr.heap.size wr w') := fun _ => write26 _ wr HX.out
      have lt1 : (wsForm (ws.take m)).length ≤ 307 * 16 := by
        have h1 := ws_len (ws := ws.take m) (fun x hx => HK.out.ws x (List.mem_of_mem_take hx))
        have h2 : (ws.take m).length ≤ 16 := by have := HK.out.len; rw [List.length_take]; omega
        omega
      have lt2 := wf_len HX.out
      obtain ⟨a1, n1⟩ := add_two (LK ++ wsForm (ws.take m)) (wrForm (ws.getD m dw)) (by rw [List.length_append]; omega)
      have HT : Hid (bs (LK ++ wsForm (ws.take m) ++ wrForm (ws.getD m dw)) = bs (LK ++ wsForm (ws.take (m + 1)))) := by show _ = _; rw [take_form hml, List.append_assoc]
      have HQ : Hid (m + 1 ≤ ws.length) := hml
      generalize LK ++ wsForm (ws.take m) = LM at *
      generalize ws.getD m dw = x at *
      generalize wrForm x = Fx at *
      clear lt1 lt2 llk
      go_wp2_with fail
      refine (CW.out (by simp)).mono ?_
      rintro r w9 ⟨rfl, hb9⟩
      have H9 : Hid (Eb w b (En.mk 6 c n sp sq ap aq mp mq prim pt dn ws) (some ⟨c1, o1, none⟩) cp w9) := HE.out.on hb9
      clear hb9 CW p12 d0 d1 d2 HE
      go_wp2_with fail
      go_roundw
      case rel => exact ⟨m + 1, HQ.out, by go_num, by rw [HT.out], H9.out⟩
      case measure => simp [intOf]; omega
    · have hml1 : ¬ (m : Int) < ws.length := by omega
      have HTW : Hid (ws.take m = ws) := List.take_of_length_le (by omega)
      rw [HTW.out]
      have lt1 : (wsForm ws).length ≤ 307 * 16 := by
        have h1 := ws_len HK.out.ws
        have h2 := HK.out.len
        omega
      obtain ⟨LW, hLW⟩ : ∃ LW, LK ++ wsForm ws = LW := ⟨_, rfl⟩
      have llw : LW.length ≤ 4939 := by rw [← hLW, List.length_append]; omega
      have HLW : Hid (LK ++ wsForm ws = LW) := hLW
      rw [hLW]
      clear hLW lt1 llk
      have p0 : wr.cell? ⟨b, 0, none⟩ = some (.int .i64 6) := block_cell HE.out.x rfl
      have HF : Hid (formE (En.mk 6 c n sp sq ap aq mp mq prim pt dn ws) = LW) := by
        show _ = _
        rw [← HLW.out]
        rw [← HLK.out]
        rw [← HL1.out]
        rw [← HL0.out]
        rw [← HFa.out]
        simp [formE, byForm, stForm, midForm, ptForm, dnForm, hasBy, hasSt, hasAt, hasPt, List.append_assoc]
      go_wp2_with fail
      go_ret2
      exact ⟨by rw [HF.out]; rfl, HE.out.bel⟩
set_option maxHeartbeats 3200000 in
set_option maxRecDepth 100000 in
theorem wr9_4 (c n sp sq ap aq mp mq : Nat) (prim : List UInt8) (pt : Nat) (dn : Bool) (ws : List Wr) (ao : Option Addr) (cp : Nat) (w : World) (hr : rightE (En.mk 4 c n sp sq ap aq mp mq prim pt dn ws) = true) (hk : Wk c n sp sq ap aq mp mq prim pt ws) (hws : WsAt w.heap.size (.slice ao ws.length cp) ws w) :
    Calls Try.prog 9 #[.agg #[.int .i64 4, .int .u32 (c : Int), .int .u32 (n : Int), .int .u64 (sp : Int), .int .u32 (sq : Int), .int .u64 (ap : Int), .int .u32 (aq : Int), .int .u64 (mp : Int), .int .u32 (mq : Int), .string (bs prim), .int .u8 (pt : Int), .bool dn, .slice ao ws.length cp]] w fun r w' => r = .returned (.tuple #[.string (bs (formE (En.mk 4 c n sp sq ap aq mp mq prim pt dn ws))), .int .i64 0]) ∧ Below w.heap.size w w' := by
  have H0 : Hid _ := eb_new (e := (En.mk 4 c n sp sq ap aq mp mq prim pt dn ws)) hws
  obtain ⟨ao', cap, he, hla, hma⟩ := hws.shape
  simp only [Value.slice.injEq, true_and] at he
  obtain ⟨rfl, rfl⟩ := he
  have hL1 : ws.length < 9223372036854775808 := by omega
  obtain ⟨W1, hW1⟩ : ∃ W1, w.alloc (.cells #[.int .i64 4, .int .u32 (c : Int), .int .u32 (n : Int), .int .u64 (sp : Int), .int .u32 (sq : Int), .int .u64 (ap : Int), .int .u32 (aq : Int), .int .u64 (mp : Int), .int .u32 (mq : Int), .string (bs prim), .int .u8 (pt : Int), .bool dn, .slice ao ws.length cp] 30) = W1 := ⟨_, rfl⟩
  obtain ⟨b, hb⟩ : ∃ b, w.heap.size = b := ⟨_, rfl⟩
  have H1 : Hid (Eb w b (En.mk 4 c n sp sq ap aq mp mq prim pt dn ws) ao cp W1) := by rw [← hb, ← hW1]; exact H0.out
  have HK : Hid _ := hk
  have CR : Hid (1 = 1 → Calls Try.prog 19 #[.agg #[.int .i64 4, .int .u32 (c : Int), .int .u32 (n : Int), .int .u64 (sp : Int), .int .u32 (sq : Int), .int .u64 (ap : Int), .int .u32 (aq : Int), .int .u64 (mp : Int), .int .u32 (mq : Int), .string (bs prim), .int .u8 (pt : Int), .bool dn, .slice ao ws.length cp]] W1 fun r w' => r = .returned (.bool true) ∧ Below W1.heap.size W1 w') := fun _ => by
    have := right22 (En.mk 4 c n sp sq ap aq mp mq prim pt dn ws) ao cp W1 H1.out.wsx
    rw [hr] at this
    exact this
  have p0 : W1.cell? ⟨b, 0, none⟩ = some (.int .i64 4) := block_cell H1.out.x rfl
  have p1 : W1.cell? ⟨b, 1, none⟩ = some (.int .u32 (c : Int)) := block_cell H1.out.x rfl
  have p2 : W1.cell? ⟨b, 2, none⟩ = some (.int .u32 (n : Int)) := block_cell H1.out.x rfl
  have p3 : W1.cell? ⟨b, 3, none⟩ = some (.int .u64 (sp : Int)) := block_cell H1.out.x rfl
  have p4 : W1.cell? ⟨b, 4, none⟩ = some (.int .u32 (sq : Int)) := block_cell H1.out.x rfl
  have p5 : W1.cell? ⟨b, 5, none⟩ = some (.int .u64 (ap : Int)) := block_cell H1.out.x rfl
  have p6 : W1.cell? ⟨b, 6, none⟩ = some (.int .u32 (aq : Int)) := block_cell H1.out.x rfl
  have p7 : W1.cell? ⟨b, 7, none⟩ = some (.int .u64 (mp : Int)) := block_cell H1.out.x rfl
  have p8 : W1.cell? ⟨b, 8, none⟩ = some (.int .u32 (mq : Int)) := block_cell H1.out.x rfl
  have p9 : W1.cell? ⟨b, 9, none⟩ = some (.string (bs prim)) := block_cell H1.out.x rfl
  have p10 : W1.cell? ⟨b, 10, none⟩ = some (.int .u8 (pt : Int)) := block_cell H1.out.x rfl
  have p11 : W1.cell? ⟨b, 11, none⟩ = some (.bool dn) := block_cell H1.out.x rfl
  have p12 : W1.cell? ⟨b, 12, none⟩ = some (.slice ao ws.length cp) := block_cell H1.out.x rfl
  clear H0 hws hla hma hr hk
  go_enter Try.func9, Try.ntmps9
  go_wp2_with fail
  refine (CR.out (by simp)).mono ?_
  rintro r w1 ⟨rfl, hb1⟩
  have Ha : Hid (Eb w b (En.mk 4 c n sp sq ap aq mp mq prim pt dn ws) ao cp w1) := H1.out.on hb1
  clear p0 p1 p2 p3 p4 p5 p6 p7 p8 p9 p10 p11 p12 hb1 hb hW1 CR H1
  have p0 : w1.cell? ⟨b, 0, none⟩ = some (.int .i64 4) := block_cell Ha.out.x rfl
  have c0 : Hid (1 = 1 → Calls Try.prog 20 #[.int .u64 4] w1 fun r w' => r = .returned (.string (bs (numForm 4))) ∧ Below w1.heap.size w1 w') := fun _ => refNum11 4 w1 (by omega)
  go_wp2_with fail
  refine (c0.out (by simp)).mono ?_
  rintro r w2 ⟨rfl, hb2⟩
  have Hb : Hid (Eb w b (En.mk 4 c n sp sq ap aq mp mq prim pt dn ws) ao cp w2) := Ha.out.on hb2
  clear p0 hb2 c0 Ha
  obtain ⟨L0, hL0⟩ : ∃ L0, numForm 4 = L0 := ⟨_, rfl⟩
  have ll0 : L0.length ≤ 9 := by rw [← hL0]; exact nf_len (by omega)
  have HL0 : Hid (numForm 4 = L0) := hL0
  rw [hL0]
  clear hL0
  have lf1 : (numForm c).length ≤ 9 := nf_len (by have := HK.out.c; omega)
  obtain ⟨a1, n1⟩ := add_two L0 (numForm c) (by omega)
  obtain ⟨L1, hL1⟩ : ∃ L1, L0 ++ numForm c = L1 := ⟨_, rfl⟩
  have ll1 : L1.length ≤ 18 := by rw [← hL1, List.length_append]; omega
  rw [hL1] at a1
  have HL1 : Hid (L0 ++ numForm c = L1) := hL1
  clear hL1 lf1 ll0
  have lf2 : (numForm n).length ≤ 9 := nf_len (by have := HK.out.n; omega)
  obtain ⟨a2, n2⟩ := add_two L1 (numForm n) (by omega)
  obtain ⟨L2, hL2⟩ : ∃ L2, L1 ++ numForm n = L2 := ⟨_, rfl⟩
  have ll2 : L2.length ≤ 27 := by rw [← hL2, List.length_append]; omega
  rw [hL2] at a2
  have HL2 : Hid (L1 ++ numForm n = L2) := hL2
  clear hL2 lf2 ll1
  have p0 : w2.cell? ⟨b, 0, none⟩ = some (.int .i64 4) := block_cell Hb.out.x rfl
  have x1 := u64w (n := c) (by have := HK.out.c; omega)
  have x2 := u64w (n := n) (by have := HK.out.n; omega)
  have cA : Hid (∀ d os, Calls Try.prog 20 #[.int .u64 (c : Int)] (grow (redrawn w2 d) os) fun r w'' => r = .returned (.string (bs (numForm c))) ∧ ∃ p : Regrown, w'' = grow (redrawn w2 p.d) p.os) := fun d os => Calls.regrown_of (refNum11 c _ (by have := HK.out.c; omega))
  have cB : Hid (∀ d os, Calls Try.prog 20 #[.int .u64 (n : Int)] (grow (redrawn w2 d) os) fun r w'' => r = .returned (.string (bs (numForm n))) ∧ ∃ p : Regrown, w'' = grow (redrawn w2 p.d) p.os) := fun d os => Calls.regrown_of (refNum11 n _ (by have := HK.out.n; omega))
  have g1 := cell_regrown (show w2.cell? ⟨b, 1, none⟩ = some (.int .u32 (c : Int)) from block_cell Hb.out.x rfl)
  have g2 := cell_regrown (show w2.cell? ⟨b, 2, none⟩ = some (.int .u32 (n : Int)) from block_cell Hb.out.x rfl)
  generalize hFc : numForm c = Fc at *
  have HFc : Hid (numForm c = Fc) := hFc
  clear hFc
  generalize hFn : numForm n = Fn at *
  have HFn : Hid (numForm n = Fn) := hFn
  clear hFn
  go_wp2_with fail
  clear p0
  refine wp_region_quiet_below (by kernel_rfl) (by kernel_rfl) (Veil.out ?_)
  repeat (refine vq_step (fun K hK => ?_); go_simp; refine hK _ ?_; clear hK K)
  (refine vq_step (fun K hK => ?_); go_simp; apply Exists.intro; refine ⟨fun _ => ?_, hK _ ?_⟩; exact cA.out _ _; clear hK K)
  repeat (refine vq_step (fun K hK => ?_); go_simp; refine hK _ ?_; clear hK K)
  (refine vq_step (fun K hK => ?_); go_simp; apply Exists.intro; refine ⟨fun _ => ?_, hK _ ?_⟩; exact cB.out _ _; clear hK K)
  repeat (refine vq_step (fun K hK => ?_); go_simp; refine hK _ ?_; clear hK K)
  refine vq_nil ?_
  intro _ hw'
  obtain ⟨⟨dq, osq⟩, hw''⟩ := hw'
  subst hw''
  have Hx : Hid (Eb w b (En.mk 4 c n sp sq ap aq mp mq prim pt dn ws) ao cp (grow (redrawn w2 dq) osq)) := Hb.out.on (below_regrown w2 dq osq)
  obtain ⟨w3, hw2⟩ : ∃ w3, grow (redrawn w2 dq) osq = w3 := ⟨_, rfl⟩
  rw [hw2] at Hx ⊢
  have Hc : Hid (Eb w b (En.mk 4 c n sp sq ap aq mp mq prim pt dn ws) ao cp w3) := Hx.out
  clear hw2 Hx cA cB g1 g2 x1 x2 a1 n1 a2 n2 Hb
  have lf3 : (stampForm ap aq).length ≤ 18 := stf_len HK.out.ap HK.out.aq
  obtain ⟨a3, n3⟩ := add_two L2 (stampForm ap aq) (by omega)
  obtain ⟨L3, hL3⟩ : ∃ L3, L2 ++ stampForm ap aq = L3 := ⟨_, rfl⟩
  have ll3 : L3.length ≤ 45 := by rw [← hL3, List.length_append]; omega
  rw [hL3] at a3
  have HL3 : Hid (L2 ++ stampForm ap aq = L3) := hL3
  clear hL3 lf3 ll2
  have p0 : w3.cell? ⟨b, 0, none⟩ = some (.int .i64 4) := block_cell Hc.out.x rfl
  have p5 : w3.cell? ⟨b, 5, none⟩ = some (.int .u64 (ap : Int)) := block_cell Hc.out.x rfl
  have p6 : w3.cell? ⟨b, 6, none⟩ = some (.int .u32 (aq : Int)) := block_cell Hc.out.x rfl
  have c1 : Hid (1 = 1 → Calls Try.prog 21 #[.agg #[.int .u64 (ap : Int), .int .u32 (aq : Int)]] w3 fun r w' => r = .returned (.string (bs (stampForm ap aq))) ∧ Below w3.heap.size w3 w') := fun _ => refStamp17 ap aq w3 (by have := HK.out.ap; omega) (by have := HK.out.aq; omega)
  generalize hFa : stampForm ap aq = Fa at *
  have HFa : Hid (stampForm ap aq = Fa) := hFa
  clear hFa
  go_wp2_with fail
  refine (c1.out (by simp)).mono ?_
  rintro r w4 ⟨rfl, hb2⟩
  have Ha : Hid (Eb w b (En.mk 4 c n sp sq ap aq mp mq prim pt dn ws) ao cp w4) := Hc.out.on hb2
  clear p0 p5 p6 c1 hb2 Hc
  have p0 : w4.cell? ⟨b, 0, none⟩ = some (.int .i64 4) := block_cell Ha.out.x rfl
  go_wp2_with fail
  clear p0
  obtain ⟨LK, hLK⟩ : ∃ LK, L3 = LK := ⟨_, rfl⟩
  have HLK : Hid _ := hLK
  have llk : LK.length ≤ 45 := by rw [← hLK]; exact ll3
  rw [hLK]
  clear hLK ll3
  have HW0 : Hid (LK ++ wsForm (ws.take 0) = LK) := by show _ = _; simp [wsForm]
  go_loopw [4, 5] (fun sv i wr => ∃ m : Nat, m ≤ ws.length ∧ i = .int .i64 m ∧ Hid (sv = .string (bs (LK ++ wsForm (ws.take m))) ∧ Eb w b (En.mk 4 c n sp sq ap aq mp mq prim pt dn ws) ao cp wr)) (fun _ i _ => ws.length - (intOf i).toNat)
  case atStart => exact ⟨0, Nat.zero_le _, rfl, by rw [HW0.out], Ha.out⟩
  case round =>
    obtain ⟨m, hm, rfl, HR⟩ := hrel
    obtain ⟨hsv, hE⟩ := HR.out
    subst hsv
    have HE : Hid (Eb w b (En.mk 4 c n sp sq ap aq mp mq prim pt dn ws) ao cp wr) := hE
    clear hE HR
    have p12 : wr.cell? ⟨b, 12, none⟩ = some (.slice ao ws.length cp) := block_cell HE.out.x rfl
    by_cases hml : m < ws.length
    · obtain ⟨c1, o1, rfl, d0, d1, d2⟩ := HE.out.wsx.el hml
      have hml1 : (m : Int) < ws.length := by omega
      have HX : Hid (wOk (ws.getD m dw) = true) := HK.out.ws _ (getD_memW hml)
      have CW : Hid (1 = 1 → Calls Try.prog 23 #[.agg #[.string (bs (ws.getD m dw).key), .string (bs (ws.getD m dw).val), .bool (ws.getD m dw).dead]] wr fun r w' => r = .returned (.string (bs (wrForm (ws.getD m dw)))) ∧ Below wr.heap.size wr w') := fun _ => write26 _ wr HX.out
      have lt1 : (wsForm (ws.take m)).length ≤ 307 * 16 := by
        have h1 := ws_len (ws := ws.take m) (fun x hx => HK.out.ws x (List.mem_of_mem_take hx))
        have h2 : (ws.take m).length ≤ 16 := by have := HK.out.len; rw [List.length_take]; omega
        omega
      have lt2 := wf_len HX.out
      obtain ⟨a1, n1⟩ := add_two (LK ++ wsForm (ws.take m)) (wrForm (ws.getD m dw)) (by rw [List.length_append]; omega)
      have HT : Hid (bs (LK ++ wsForm (ws.take m) ++ wrForm (ws.getD m dw)) = bs (LK ++ wsForm (ws.take (m + 1)))) := by show _ = _; rw [take_form hml, List.append_assoc]
      have HQ : Hid (m + 1 ≤ ws.length) := hml
      generalize LK ++ wsForm (ws.take m) = LM at *
      generalize ws.getD m dw = x at *
      generalize wrForm x = Fx at *
      clear lt1 lt2 llk
      go_wp2_with fail
      refine (CW.out (by simp)).mono ?_
      rintro r w9 ⟨rfl, hb9⟩
      have H9 : Hid (Eb w b (En.mk 4 c n sp sq ap aq mp mq prim pt dn ws) (some ⟨c1, o1, none⟩) cp w9) := HE.out.on hb9
      clear hb9 CW p12 d0 d1 d2 HE
      go_wp2_with fail
      go_roundw
      case rel => exact ⟨m + 1, HQ.out, by go_num, by rw [HT.out], H9.out⟩
      case measure => simp [intOf]; omega
    · have hml1 : ¬ (m : Int) < ws.length := by omega
      have HTW : Hid (ws.take m = ws) := List.take_of_length_le (by omega)
      rw [HTW.out]
      have lt1 : (wsForm ws).length ≤ 307 * 16 := by
        have h1 := ws_len HK.out.ws
        have h2 := HK.out.len
        omega
      obtain ⟨LW, hLW⟩ : ∃ LW, LK ++ wsForm ws = LW := ⟨_, rfl⟩
      have llw : LW.length ≤ 4957 := by rw [← hLW, List.length_append]; omega
      have HLW : Hid (LK ++ wsForm ws = LW) := hLW
      rw [hLW]
      clear hLW lt1 llk
      have p0 : wr.cell? ⟨b, 0, none⟩ = some (.int .i64 4) := block_cell HE.out.x rfl
      have HF : Hid (formE (En.mk 4 c n sp sq ap aq mp mq prim pt dn ws) = LW) := by
        show _ = _
        rw [← HLW.out]
        rw [← HLK.out]
        rw [← HL3.out]
        rw [← HL2.out]
        rw [← HL1.out]
        rw [← HL0.out]
        rw [← HFc.out]
        rw [← HFn.out]
        rw [← HFa.out]
        simp [formE, byForm, stForm, midForm, ptForm, dnForm, hasBy, hasSt, hasAt, hasPt, List.append_assoc]
      go_wp2_with fail
      go_ret2
      exact ⟨by rw [HF.out]; rfl, HE.out.bel⟩
end Go.Proofs.Ytmgjlpgjjeknpaa

namespace Go.Proofs.Ytmgjlpgjjeknpaa
open Go.RowKit Go.Sort

set_option maxHeartbeats 3200000 in
set_option maxRecDepth 100000 in
theorem wr9_5 (c n sp sq ap aq mp mq : Nat) (prim : List UInt8) (pt : Nat) (dn : Bool) (ws : List Wr) (ao : Option Addr) (cp : Nat) (w : World) (hr : rightE (En.mk 5 c n sp sq ap aq mp mq prim pt dn ws) = true) (hk : Wk c n sp sq ap aq mp mq prim pt ws) (hws : WsAt w.heap.size (.slice ao ws.length cp) ws w) :
    Calls Try.prog 9 #[.agg #[.int .i64 5, .int .u32 (c : Int), .int .u32 (n : Int), .int .u64 (sp : Int), .int .u32 (sq : Int), .int .u64 (ap : Int), .int .u32 (aq : Int), .int .u64 (mp : Int), .int .u32 (mq : Int), .string (bs prim), .int .u8 (pt : Int), .bool dn, .slice ao ws.length cp]] w fun r w' => r = .returned (.tuple #[.string (bs (formE (En.mk 5 c n sp sq ap aq mp mq prim pt dn ws))), .int .i64 0]) ∧ Below w.heap.size w w' := by
  have H0 : Hid _ := eb_new (e := (En.mk 5 c n sp sq ap aq mp mq prim pt dn ws)) hws
  obtain ⟨ao', cap, he, hla, hma⟩ := hws.shape
  simp only [Value.slice.injEq, true_and] at he
  obtain ⟨rfl, rfl⟩ := he
  have hL1 : ws.length < 9223372036854775808 := by omega
  obtain ⟨W1, hW1⟩ : ∃ W1, w.alloc (.cells #[.int .i64 5, .int .u32 (c : Int), .int .u32 (n : Int), .int .u64 (sp : Int), .int .u32 (sq : Int), .int .u64 (ap : Int), .int .u32 (aq : Int), .int .u64 (mp : Int), .int .u32 (mq : Int), .string (bs prim), .int .u8 (pt : Int), .bool dn, .slice ao ws.length cp] 30) = W1 := ⟨_, rfl⟩
  obtain ⟨b, hb⟩ : ∃ b, w.heap.size = b := ⟨_, rfl⟩
  have H1 : Hid (Eb w b (En.mk 5 c n sp sq ap aq mp mq prim pt dn ws) ao cp W1) := by rw [← hb, ← hW1]; exact H0.out
  have HK : Hid _ := hk
  have CR : Hid (1 = 1 → Calls Try.prog 19 #[.agg #[.int .i64 5, .int .u32 (c : Int), .int .u32 (n : Int), .int .u64 (sp : Int), .int .u32 (sq : Int), .int .u64 (ap : Int), .int .u32 (aq : Int), .int .u64 (mp : Int), .int .u32 (mq : Int), .string (bs prim), .int .u8 (pt : Int), .bool dn, .slice ao ws.length cp]] W1 fun r w' => r = .returned (.bool true) ∧ Below W1.heap.size W1 w') := fun _ => by
    have := right22 (En.mk 5 c n sp sq ap aq mp mq prim pt dn ws) ao cp W1 H1.out.wsx
    rw [hr] at this
    exact this
  have p0 : W1.cell? ⟨b, 0, none⟩ = some (.int .i64 5) := block_cell H1.out.x rfl
  have p1 : W1.cell? ⟨b, 1, none⟩ = some (.int .u32 (c : Int)) := block_cell H1.out.x rfl
  have p2 : W1.cell? ⟨b, 2, none⟩ = some (.int .u32 (n : Int)) := block_cell H1.out.x rfl
  have p3 : W1.cell? ⟨b, 3, none⟩ = some (.int .u64 (sp : Int)) := block_cell H1.out.x rfl
  have p4 : W1.cell? ⟨b, 4, none⟩ = some (.int .u32 (sq : Int)) := block_cell H1.out.x rfl
  have p5 : W1.cell? ⟨b, 5, none⟩ = some (.int .u64 (ap : Int)) := block_cell H1.out.x rfl
  have p6 : W1.cell? ⟨b, 6, none⟩ = some (.int .u32 (aq : Int)) := block_cell H1.out.x rfl
  have p7 : W1.cell? ⟨b, 7, none⟩ = some (.int .u64 (mp : Int)) := block_cell H1.out.x rfl
  have p8 : W1.cell? ⟨b, 8, none⟩ = some (.int .u32 (mq : Int)) := block_cell H1.out.x rfl
  have p9 : W1.cell? ⟨b, 9, none⟩ = some (.string (bs prim)) := block_cell H1.out.x rfl
  have p10 : W1.cell? ⟨b, 10, none⟩ = some (.int .u8 (pt : Int)) := block_cell H1.out.x rfl
  have p11 : W1.cell? ⟨b, 11, none⟩ = some (.bool dn) := block_cell H1.out.x rfl
  have p12 : W1.cell? ⟨b, 12, none⟩ = some (.slice ao ws.length cp) := block_cell H1.out.x rfl
  clear H0 hws hla hma hr hk
  go_enter Try.func9, Try.ntmps9
  go_wp2_with fail
  refine (CR.out (by simp)).mono ?_
  rintro r w1 ⟨rfl, hb1⟩
  have Ha : Hid (Eb w b (En.mk 5 c n sp sq ap aq mp mq prim pt dn ws) ao cp w1) := H1.out.on hb1
  clear p0 p1 p2 p3 p4 p5 p6 p7 p8 p9 p10 p11 p12 hb1 hb hW1 CR H1
  have p0 : w1.cell? ⟨b, 0, none⟩ = some (.int .i64 5) := block_cell Ha.out.x rfl
  have c0 : Hid (1 = 1 → Calls Try.prog 20 #[.int .u64 5] w1 fun r w' => r = .returned (.string (bs (numForm 5))) ∧ Below w1.heap.size w1 w') := fun _ => refNum11 5 w1 (by omega)
  go_wp2_with fail
  refine (c0.out (by simp)).mono ?_
  rintro r w2 ⟨rfl, hb2⟩
  have Hb : Hid (Eb w b (En.mk 5 c n sp sq ap aq mp mq prim pt dn ws) ao cp w2) := Ha.out.on hb2
  clear p0 hb2 c0 Ha
  obtain ⟨L0, hL0⟩ : ∃ L0, numForm 5 = L0 := ⟨_, rfl⟩
  have ll0 : L0.length ≤ 9 := by rw [← hL0]; exact nf_len (by omega)
  have HL0 : Hid (numForm 5 = L0) := hL0
  rw [hL0]
  clear hL0
  have lf1 : (numForm c).length ≤ 9 := nf_len (by have := HK.out.c; omega)
  obtain ⟨a1, n1⟩ := add_two L0 (numForm c) (by omega)
  obtain ⟨L1, hL1⟩ : ∃ L1, L0 ++ numForm c = L1 := ⟨_, rfl⟩
  have ll1 : L1.length ≤ 18 := by rw [← hL1, List.length_append]; omega
  rw [hL1] at a1
  have HL1 : Hid (L0 ++ numForm c = L1) := hL1
  clear hL1 lf1 ll0
  have lf2 : (numForm n).length ≤ 9 := nf_len (by have := HK.out.n; omega)
  obtain ⟨a2, n2⟩ := add_two L1 (numForm n) (by omega)
  obtain ⟨L2, hL2⟩ : ∃ L2, L1 ++ numForm n = L2 := ⟨_, rfl⟩
  have ll2 : L2.length ≤ 27 := by rw [← hL2, List.length_append]; omega
  rw [hL2] at a2
  have HL2 : Hid (L1 ++ numForm n = L2) := hL2
  clear hL2 lf2 ll1
  have p0 : w2.cell? ⟨b, 0, none⟩ = some (.int .i64 5) := block_cell Hb.out.x rfl
  have x1 := u64w (n := c) (by have := HK.out.c; omega)
  have x2 := u64w (n := n) (by have := HK.out.n; omega)
  have cA : Hid (∀ d os, Calls Try.prog 20 #[.int .u64 (c : Int)] (grow (redrawn w2 d) os) fun r w'' => r = .returned (.string (bs (numForm c))) ∧ ∃ p : Regrown, w'' = grow (redrawn w2 p.d) p.os) := fun d os => Calls.regrown_of (refNum11 c _ (by have := HK.out.c; omega))
  have cB : Hid (∀ d os, Calls Try.prog 20 #[.int .u64 (n : Int)] (grow (redrawn w2 d) os) fun r w'' => r = .returned (.string (bs (numForm n))) ∧ ∃ p : Regrown, w'' = grow (redrawn w2 p.d) p.os) := fun d os => Calls.regrown_of (refNum11 n _ (by have := HK.out.n; omega))
  have g1 := cell_regrown (show w2.cell? ⟨b, 1, none⟩ = some (.int .u32 (c : Int)) from block_cell Hb.out.x rfl)
  have g2 := cell_regrown (show w2.cell? ⟨b, 2, none⟩ = some (.int .u32 (n : Int)) from block_cell Hb.out.x rfl)
  generalize hFc : numForm c = Fc at *
  have HFc : Hid (numForm c = Fc) := hFc
  clear hFc
  generalize hFn : numForm n = Fn at *
  have HFn : Hid (numForm n = Fn) := hFn
  clear hFn
  go_wp2_with fail
  clear p0
  refine wp_region_quiet_below (by kernel_rfl) (by kernel_rfl) (Veil.out ?_)
  repeat (refine vq_step (fun K hK => ?_); go_simp; refine hK _ ?_; clear hK K)
  (refine vq_step (fun K hK => ?_); go_simp; apply Exists.intro; refine ⟨fun _ => ?_, hK _ ?_⟩; exact cA.out _ _; clear hK K)
  repeat (refine vq_step (fun K hK => ?_); go_simp; refine hK _ ?_; clear hK K)
  (refine vq_step (fun K hK => ?_); go_simp; apply Exists.intro; refine ⟨fun _ => ?_, hK _ ?_⟩; exact cB.out _ _; clear hK K)
  repeat (refine vq_step (fun K hK => ?_); go_simp; refine hK _ ?_; clear hK K)
  refine vq_nil ?_
  intro _ hw'
  obtain ⟨⟨dq, osq⟩, hw''⟩ := hw'
  subst hw''
  have Hx : Hid (Eb w b (En.mk 5 c n sp sq ap aq mp mq prim pt dn ws) ao cp (grow (redrawn w2 dq) osq)) := Hb.out.on (below_regrown w2 dq osq)
  obtain ⟨w3, hw2⟩ : ∃ w3, grow (redrawn w2 dq) osq = w3 := ⟨_, rfl⟩
  rw [hw2] at Hx ⊢
  have Hc : Hid (Eb w b (En.mk 5 c n sp sq ap aq mp mq prim pt dn ws) ao cp w3) := Hx.out
  clear hw2 Hx cA cB g1 g2 x1 x2 a1 n1 a2 n2 Hb
  have lf3 : (stampForm sp sq).length ≤ 18 := stf_len HK.out.sp HK.out.sq
  obtain ⟨a3, n3⟩ := add_two L2 (stampForm sp sq) (by omega)
  obtain ⟨L3, hL3⟩ : ∃ L3, L2 ++ stampForm sp sq = L3 := ⟨_, rfl⟩
  have ll3 : L3.length ≤ 45 := by rw [← hL3, List.length_append]; omega
  rw [hL3] at a3
  have HL3 : Hid (L2 ++ stampForm sp sq = L3) := hL3
  clear hL3 lf3 ll2
  have p0 : w3.cell? ⟨b, 0, none⟩ = some (.int .i64 5) := block_cell Hc.out.x rfl
  have p3 : w3.cell? ⟨b, 3, none⟩ = some (.int .u64 (sp : Int)) := block_cell Hc.out.x rfl
  have p4 : w3.cell? ⟨b, 4, none⟩ = some (.int .u32 (sq : Int)) := block_cell Hc.out.x rfl
  have c1 : Hid (1 = 1 → Calls Try.prog 21 #[.agg #[.int .u64 (sp : Int), .int .u32 (sq : Int)]] w3 fun r w' => r = .returned (.string (bs (stampForm sp sq))) ∧ Below w3.heap.size w3 w') := fun _ => refStamp17 sp sq w3 (by have := HK.out.sp; omega) (by have := HK.out.sq; omega)
  generalize hFs : stampForm sp sq = Fs at *
  have HFs : Hid (stampForm sp sq = Fs) := hFs
  clear hFs
  go_wp2_with fail
  refine (c1.out (by simp)).mono ?_
  rintro r w4 ⟨rfl, hb2⟩
  have Hs : Hid (Eb w b (En.mk 5 c n sp sq ap aq mp mq prim pt dn ws) ao cp w4) := Hc.out.on hb2
  clear p0 p3 p4 c1 hb2 Hc
  have p0 : w4.cell? ⟨b, 0, none⟩ = some (.int .i64 5) := block_cell Hs.out.x rfl
  go_wp2_with fail
  clear p0
  obtain ⟨LK, hLK⟩ : ∃ LK, L3 = LK := ⟨_, rfl⟩
  have HLK : Hid _ := hLK
  have llk : LK.length ≤ 45 := by rw [← hLK]; exact ll3
  rw [hLK]
  clear hLK ll3
  have HW0 : Hid (LK ++ wsForm (ws.take 0) = LK) := by show _ = _; simp [wsForm]
  go_loopw [4, 5] (fun sv i wr => ∃ m : Nat, m ≤ ws.length ∧ i = .int .i64 m ∧ Hid (sv = .string (bs (LK ++ wsForm (ws.take m))) ∧ Eb w b (En.mk 5 c n sp sq ap aq mp mq prim pt dn ws) ao cp wr)) (fun _ i _ => ws.length - (intOf i).toNat)
  case atStart => exact ⟨0, Nat.zero_le _, rfl, by rw [HW0.out], Hs.out⟩
  case round =>
    obtain ⟨m, hm, rfl, HR⟩ := hrel
    obtain ⟨hsv, hE⟩ := HR.out
    subst hsv
    have HE : Hid (Eb w b (En.mk 5 c n sp sq ap aq mp mq prim pt dn ws) ao cp wr) := hE
    clear hE HR
    have p12 : wr.cell? ⟨b, 12, none⟩ = some (.slice ao ws.length cp) := block_cell HE.out.x rfl
    by_cases hml : m < ws.length
    · obtain ⟨c1, o1, rfl, d0, d1, d2⟩ := HE.out.wsx.el hml
      have hml1 : (m : Int) < ws.length := by omega
      have HX : Hid (wOk (ws.getD m dw) = true) := HK.out.ws _ (getD_memW hml)
      have CW : Hid (1 = 1 → Calls Try.prog 23 #[.agg #[.string (bs (ws.getD m dw).key), .string (bs (ws.getD m dw).val), .bool (ws.getD m dw).dead]] wr fun r w' => r = .returned (.string (bs (wrForm (ws.getD m dw)))) ∧ Below wr.heap.size wr w') := fun _ => write26 _ wr HX.out
      have lt1 : (wsForm (ws.take m)).length ≤ 307 * 16 := by
        have h1 := ws_len (ws := ws.take m) (fun x hx => HK.out.ws x (List.mem_of_mem_take hx))
        have h2 : (ws.take m).length ≤ 16 := by have := HK.out.len; rw [List.length_take]; omega
        omega
      have lt2 := wf_len HX.out
      obtain ⟨a1, n1⟩ := add_two (LK ++ wsForm (ws.take m)) (wrForm (ws.getD m dw)) (by rw [List.length_append]; omega)
      have HT : Hid (bs (LK ++ wsForm (ws.take m) ++ wrForm (ws.getD m dw)) = bs (LK ++ wsForm (ws.take (m + 1)))) := by show _ = _; rw [take_form hml, List.append_assoc]
      have HQ : Hid (m + 1 ≤ ws.length) := hml
      generalize LK ++ wsForm (ws.take m) = LM at *
      generalize ws.getD m dw = x at *
      generalize wrForm x = Fx at *
      clear lt1 lt2 llk
      go_wp2_with fail
      refine (CW.out (by simp)).mono ?_
      rintro r w9 ⟨rfl, hb9⟩
      have H9 : Hid (Eb w b (En.mk 5 c n sp sq ap aq mp mq prim pt dn ws) (some ⟨c1, o1, none⟩) cp w9) := HE.out.on hb9
      clear hb9 CW p12 d0 d1 d2 HE
      go_wp2_with fail
      go_roundw
      case rel => exact ⟨m + 1, HQ.out, by go_num, by rw [HT.out], H9.out⟩
      case measure => simp [intOf]; omega
    · have hml1 : ¬ (m : Int) < ws.length := by omega
      have HTW : Hid (ws.take m = ws) := List.take_of_length_le (by omega)
      rw [HTW.out]
      have lt1 : (wsForm ws).length ≤ 307 * 16 := by
        have h1 := ws_len HK.out.ws
        have h2 := HK.out.len
        omega
      obtain ⟨LW, hLW⟩ : ∃ LW, LK ++ wsForm ws = LW := ⟨_, rfl⟩
      have llw : LW.length ≤ 4957 := by rw [← hLW, List.length_append]; omega
      have HLW : Hid (LK ++ wsForm ws = LW) := hLW
      rw [hLW]
      clear hLW lt1 llk
      have p0 : wr.cell? ⟨b, 0, none⟩ = some (.int .i64 5) := block_cell HE.out.x rfl
      have HF : Hid (formE (En.mk 5 c n sp sq ap aq mp mq prim pt dn ws) = LW) := by
        show _ = _
        rw [← HLW.out]
        rw [← HLK.out]
        rw [← HL3.out]
        rw [← HL2.out]
        rw [← HL1.out]
        rw [← HL0.out]
        rw [← HFc.out]
        rw [← HFn.out]
        rw [← HFs.out]
        simp [formE, byForm, stForm, midForm, ptForm, dnForm, hasBy, hasSt, hasAt, hasPt, List.append_assoc]
      go_wp2_with fail
      go_ret2
      exact ⟨by rw [HF.out]; rfl, HE.out.bel⟩
set_option maxHeartbeats 3200000 in
set_option maxRecDepth 100000 in
theorem wr9_3 (c n sp sq ap aq mp mq : Nat) (prim : List UInt8) (pt : Nat) (dn : Bool) (ws : List Wr) (ao : Option Addr) (cp : Nat) (w : World) (hr : rightE (En.mk 3 c n sp sq ap aq mp mq prim pt dn ws) = true) (hk : Wk c n sp sq ap aq mp mq prim pt ws) (hws : WsAt w.heap.size (.slice ao ws.length cp) ws w) :
    Calls Try.prog 9 #[.agg #[.int .i64 3, .int .u32 (c : Int), .int .u32 (n : Int), .int .u64 (sp : Int), .int .u32 (sq : Int), .int .u64 (ap : Int), .int .u32 (aq : Int), .int .u64 (mp : Int), .int .u32 (mq : Int), .string (bs prim), .int .u8 (pt : Int), .bool dn, .slice ao ws.length cp]] w fun r w' => r = .returned (.tuple #[.string (bs (formE (En.mk 3 c n sp sq ap aq mp mq prim pt dn ws))), .int .i64 0]) ∧ Below w.heap.size w w' := by
  have H0 : Hid _ := eb_new (e := (En.mk 3 c n sp sq ap aq mp mq prim pt dn ws)) hws
  obtain ⟨ao', cap, he, hla, hma⟩ := hws.shape
  simp only [Value.slice.injEq, true_and] at he
  obtain ⟨rfl, rfl⟩ := he
  have hL1 : ws.length < 9223372036854775808 := by omega
  obtain ⟨W1, hW1⟩ : ∃ W1, w.alloc (.cells #[.int .i64 3, .int .u32 (c : Int), .int .u32 (n : Int), .int .u64 (sp : Int), .int .u32 (sq : Int), .int .u64 (ap : Int), .int .u32 (aq : Int), .int .u64 (mp : Int), .int .u32 (mq : Int), .string (bs prim), .int .u8 (pt : Int), .bool dn, .slice ao ws.length cp] 30) = W1 := ⟨_, rfl⟩
  obtain ⟨b, hb⟩ : ∃ b, w.heap.size = b := ⟨_, rfl⟩
  have H1 : Hid (Eb w b (En.mk 3 c n sp sq ap aq mp mq prim pt dn ws) ao cp W1) := by rw [← hb, ← hW1]; exact H0.out
  have HK : Hid _ := hk
  have CR : Hid (1 = 1 → Calls Try.prog 19 #[.agg #[.int .i64 3, .int .u32 (c : Int), .int .u32 (n : Int), .int .u64 (sp : Int), .int .u32 (sq : Int), .int .u64 (ap : Int), .int .u32 (aq : Int), .int .u64 (mp : Int), .int .u32 (mq : Int), .string (bs prim), .int .u8 (pt : Int), .bool dn, .slice ao ws.length cp]] W1 fun r w' => r = .returned (.bool true) ∧ Below W1.heap.size W1 w') := fun _ => by
    have := right22 (En.mk 3 c n sp sq ap aq mp mq prim pt dn ws) ao cp W1 H1.out.wsx
    rw [hr] at this
    exact this
  have p0 : W1.cell? ⟨b, 0, none⟩ = some (.int .i64 3) := block_cell H1.out.x rfl
  have p1 : W1.cell? ⟨b, 1, none⟩ = some (.int .u32 (c : Int)) := block_cell H1.out.x rfl
  have p2 : W1.cell? ⟨b, 2, none⟩ = some (.int .u32 (n : Int)) := block_cell H1.out.x rfl
  have p3 : W1.cell? ⟨b, 3, none⟩ = some (.int .u64 (sp : Int)) := block_cell H1.out.x rfl
  have p4 : W1.cell? ⟨b, 4, none⟩ = some (.int .u32 (sq : Int)) := block_cell H1.out.x rfl
  have p5 : W1.cell? ⟨b, 5, none⟩ = some (.int .u64 (ap : Int)) := block_cell H1.out.x rfl
  have p6 : W1.cell? ⟨b, 6, none⟩ = some (.int .u32 (aq : Int)) := block_cell H1.out.x rfl
  have p7 : W1.cell? ⟨b, 7, none⟩ = some (.int .u64 (mp : Int)) := block_cell H1.out.x rfl
  have p8 : W1.cell? ⟨b, 8, none⟩ = some (.int .u32 (mq : Int)) := block_cell H1.out.x rfl
  have p9 : W1.cell? ⟨b, 9, none⟩ = some (.string (bs prim)) := block_cell H1.out.x rfl
  have p10 : W1.cell? ⟨b, 10, none⟩ = some (.int .u8 (pt : Int)) := block_cell H1.out.x rfl
  have p11 : W1.cell? ⟨b, 11, none⟩ = some (.bool dn) := block_cell H1.out.x rfl
  have p12 : W1.cell? ⟨b, 12, none⟩ = some (.slice ao ws.length cp) := block_cell H1.out.x rfl
  clear H0 hws hla hma hr hk
  go_enter Try.func9, Try.ntmps9
  go_wp2_with fail
  refine (CR.out (by simp)).mono ?_
  rintro r w1 ⟨rfl, hb1⟩
  have Ha : Hid (Eb w b (En.mk 3 c n sp sq ap aq mp mq prim pt dn ws) ao cp w1) := H1.out.on hb1
  clear p0 p1 p2 p3 p4 p5 p6 p7 p8 p9 p10 p11 p12 hb1 hb hW1 CR H1
  have p0 : w1.cell? ⟨b, 0, none⟩ = some (.int .i64 3) := block_cell Ha.out.x rfl
  have c0 : Hid (1 = 1 → Calls Try.prog 20 #[.int .u64 3] w1 fun r w' => r = .returned (.string (bs (numForm 3))) ∧ Below w1.heap.size w1 w') := fun _ => refNum11 3 w1 (by omega)
  go_wp2_with fail
  refine (c0.out (by simp)).mono ?_
  rintro r w2 ⟨rfl, hb2⟩
  have Hb : Hid (Eb w b (En.mk 3 c n sp sq ap aq mp mq prim pt dn ws) ao cp w2) := Ha.out.on hb2
  clear p0 hb2 c0 Ha
  obtain ⟨L0, hL0⟩ : ∃ L0, numForm 3 = L0 := ⟨_, rfl⟩
  have ll0 : L0.length ≤ 9 := by rw [← hL0]; exact nf_len (by omega)
  have HL0 : Hid (numForm 3 = L0) := hL0
  rw [hL0]
  clear hL0
  have lf1 : (numForm c).length ≤ 9 := nf_len (by have := HK.out.c; omega)
  obtain ⟨a1, n1⟩ := add_two L0 (numForm c) (by omega)
  obtain ⟨L1, hL1⟩ : ∃ L1, L0 ++ numForm c = L1 := ⟨_, rfl⟩
  have ll1 : L1.length ≤ 18 := by rw [← hL1, List.length_append]; omega
  rw [hL1] at a1
  have HL1 : Hid (L0 ++ numForm c = L1) := hL1
  clear hL1 lf1 ll0
  have lf2 : (numForm n).length ≤ 9 := nf_len (by have := HK.out.n; omega)
  obtain ⟨a2, n2⟩ := add_two L1 (numForm n) (by omega)
  obtain ⟨L2, hL2⟩ : ∃ L2, L1 ++ numForm n = L2 := ⟨_, rfl⟩
  have ll2 : L2.length ≤ 27 := by rw [← hL2, List.length_append]; omega
  rw [hL2] at a2
  have HL2 : Hid (L1 ++ numForm n = L2) := hL2
  clear hL2 lf2 ll1
  have p0 : w2.cell? ⟨b, 0, none⟩ = some (.int .i64 3) := block_cell Hb.out.x rfl
  have x1 := u64w (n := c) (by have := HK.out.c; omega)
  have x2 := u64w (n := n) (by have := HK.out.n; omega)
  have cA : Hid (∀ d os, Calls Try.prog 20 #[.int .u64 (c : Int)] (grow (redrawn w2 d) os) fun r w'' => r = .returned (.string (bs (numForm c))) ∧ ∃ p : Regrown, w'' = grow (redrawn w2 p.d) p.os) := fun d os => Calls.regrown_of (refNum11 c _ (by have := HK.out.c; omega))
  have cB : Hid (∀ d os, Calls Try.prog 20 #[.int .u64 (n : Int)] (grow (redrawn w2 d) os) fun r w'' => r = .returned (.string (bs (numForm n))) ∧ ∃ p : Regrown, w'' = grow (redrawn w2 p.d) p.os) := fun d os => Calls.regrown_of (refNum11 n _ (by have := HK.out.n; omega))
  have g1 := cell_regrown (show w2.cell? ⟨b, 1, none⟩ = some (.int .u32 (c : Int)) from block_cell Hb.out.x rfl)
  have g2 := cell_regrown (show w2.cell? ⟨b, 2, none⟩ = some (.int .u32 (n : Int)) from block_cell Hb.out.x rfl)
  generalize hFc : numForm c = Fc at *
  have HFc : Hid (numForm c = Fc) := hFc
  clear hFc
  generalize hFn : numForm n = Fn at *
  have HFn : Hid (numForm n = Fn) := hFn
  clear hFn
  go_wp2_with fail
  clear p0
  refine wp_region_quiet_below (by kernel_rfl) (by kernel_rfl) (Veil.out ?_)
  repeat (refine vq_step (fun K hK => ?_); go_simp; refine hK _ ?_; clear hK K)
  (refine vq_step (fun K hK => ?_); go_simp; apply Exists.intro; refine ⟨fun _ => ?_, hK _ ?_⟩; exact cA.out _ _; clear hK K)
  repeat (refine vq_step (fun K hK => ?_); go_simp; refine hK _ ?_; clear hK K)
  (refine vq_step (fun K hK => ?_); go_simp; apply Exists.intro; refine ⟨fun _ => ?_, hK _ ?_⟩; exact cB.out _ _; clear hK K)
  repeat (refine vq_step (fun K hK => ?_); go_simp; refine hK _ ?_; clear hK K)
  refine vq_nil ?_
  intro _ hw'
  obtain ⟨⟨dq, osq⟩, hw''⟩ := hw'
  subst hw''
  have Hx : Hid (Eb w b (En.mk 3 c n sp sq ap aq mp mq prim pt dn ws) ao cp (grow (redrawn w2 dq) osq)) := Hb.out.on (below_regrown w2 dq osq)
  obtain ⟨w3, hw2⟩ : ∃ w3, grow (redrawn w2 dq) osq = w3 := ⟨_, rfl⟩
  rw [hw2] at Hx ⊢
  have Hc : Hid (Eb w b (En.mk 3 c n sp sq ap aq mp mq prim pt dn ws) ao cp w3) := Hx.out
  clear hw2 Hx cA cB g1 g2 x1 x2 a1 n1 a2 n2 Hb
  have lf3 : (stampForm sp sq).length ≤ 18 := stf_len HK.out.sp HK.out.sq
  obtain ⟨a3, n3⟩ := add_two L2 (stampForm sp sq) (by omega)
  obtain ⟨L3, hL3⟩ : ∃ L3, L2 ++ stampForm sp sq = L3 := ⟨_, rfl⟩
  have ll3 : L3.length ≤ 45 := by rw [← hL3, List.length_append]; omega
  rw [hL3] at a3
  have HL3 : Hid (L2 ++ stampForm sp sq = L3) := hL3
  clear hL3 lf3 ll2
  have p0 : w3.cell? ⟨b, 0, none⟩ = some (.int .i64 3) := block_cell Hc.out.x rfl
  have p3 : w3.cell? ⟨b, 3, none⟩ = some (.int .u64 (sp : Int)) := block_cell Hc.out.x rfl
  have p4 : w3.cell? ⟨b, 4, none⟩ = some (.int .u32 (sq : Int)) := block_cell Hc.out.x rfl
  have c1 : Hid (1 = 1 → Calls Try.prog 21 #[.agg #[.int .u64 (sp : Int), .int .u32 (sq : Int)]] w3 fun r w' => r = .returned (.string (bs (stampForm sp sq))) ∧ Below w3.heap.size w3 w') := fun _ => refStamp17 sp sq w3 (by have := HK.out.sp; omega) (by have := HK.out.sq; omega)
  generalize hFs : stampForm sp sq = Fs at *
  have HFs : Hid (stampForm sp sq = Fs) := hFs
  clear hFs
  go_wp2_with fail
  refine (c1.out (by simp)).mono ?_
  rintro r w4 ⟨rfl, hb2⟩
  have Hs : Hid (Eb w b (En.mk 3 c n sp sq ap aq mp mq prim pt dn ws) ao cp w4) := Hc.out.on hb2
  clear p0 p3 p4 c1 hb2 Hc
  have lf4 : (stampForm ap aq).length ≤ 18 := stf_len HK.out.ap HK.out.aq
  obtain ⟨a4, n4⟩ := add_two L3 (stampForm ap aq) (by omega)
  obtain ⟨L4, hL4⟩ : ∃ L4, L3 ++ stampForm ap aq = L4 := ⟨_, rfl⟩
  have ll4 : L4.length ≤ 63 := by rw [← hL4, List.length_append]; omega
  rw [hL4] at a4
  have HL4 : Hid (L3 ++ stampForm ap aq = L4) := hL4
  clear hL4 lf4 ll3
  have p0 : w4.cell? ⟨b, 0, none⟩ = some (.int .i64 3) := block_cell Hs.out.x rfl
  have p5 : w4.cell? ⟨b, 5, none⟩ = some (.int .u64 (ap : Int)) := block_cell Hs.out.x rfl
  have p6 : w4.cell? ⟨b, 6, none⟩ = some (.int .u32 (aq : Int)) := block_cell Hs.out.x rfl
  have c1 : Hid (1 = 1 → Calls Try.prog 21 #[.agg #[.int .u64 (ap : Int), .int .u32 (aq : Int)]] w4 fun r w' => r = .returned (.string (bs (stampForm ap aq))) ∧ Below w4.heap.size w4 w') := fun _ => refStamp17 ap aq w4 (by have := HK.out.ap; omega) (by have := HK.out.aq; omega)
  generalize hFa : stampForm ap aq = Fa at *
  have HFa : Hid (stampForm ap aq = Fa) := hFa
  clear hFa
  go_wp2_with fail
  refine (c1.out (by simp)).mono ?_
  rintro r w5 ⟨rfl, hb2⟩
  have Ha : Hid (Eb w b (En.mk 3 c n sp sq ap aq mp mq prim pt dn ws) ao cp w5) := Hs.out.on hb2
  clear p0 p5 p6 c1 hb2 Hs
  have p0 : w5.cell? ⟨b, 0, none⟩ = some (.int .i64 3) := block_cell Ha.out.x rfl
  go_wp2_with fail
  clear p0
  obtain ⟨LK, hLK⟩ : ∃ LK, L4 = LK := ⟨_, rfl⟩
  have HLK : Hid _ := hLK
  have llk : LK.length ≤ 63 := by rw [← hLK]; exact ll4
  rw [hLK]
  clear hLK ll4
  have HW0 : Hid (LK ++ wsForm (ws.take 0) = LK) := by show _ = _; simp [wsForm]
  go_loopw [4, 5] (fun sv i wr => ∃ m : Nat, m ≤ ws.length ∧ i = .int .i64 m ∧ Hid (sv = .string (bs (LK ++ wsForm (ws.take m))) ∧ Eb w b (En.mk 3 c n sp sq ap aq mp mq prim pt dn ws) ao cp wr)) (fun _ i _ => ws.length - (intOf i).toNat)
  case atStart => exact ⟨0, Nat.zero_le _, rfl, by rw [HW0.out], Ha.out⟩
  case round =>
    obtain ⟨m, hm, rfl, HR⟩ := hrel
    obtain ⟨hsv, hE⟩ := HR.out
    subst hsv
    have HE : Hid (Eb w b (En.mk 3 c n sp sq ap aq mp mq prim pt dn ws) ao cp wr) := hE
    clear hE HR
    have p12 : wr.cell? ⟨b, 12, none⟩ = some (.slice ao ws.length cp) := block_cell HE.out.x rfl
    by_cases hml : m < ws.length
    · obtain ⟨c1, o1, rfl, d0, d1, d2⟩ := HE.out.wsx.el hml
      have hml1 : (m : Int) < ws.length := by omega
      have HX : Hid (wOk (ws.getD m dw) = true) := HK.out.ws _ (getD_memW hml)
      have CW : Hid (1 = 1 → Calls Try.prog 23 #[.agg #[.string (bs (ws.getD m dw).key), .string (bs (ws.getD m dw).val), .bool (ws.getD m dw).dead]] wr fun r w' => r = .returned (.string (bs (wrForm (ws.getD m dw)))) ∧ Below wr.heap.size wr w') := fun _ => write26 _ wr HX.out
      have lt1 : (wsForm (ws.take m)).length ≤ 307 * 16 := by
        have h1 := ws_len (ws := ws.take m) (fun x hx => HK.out.ws x (List.mem_of_mem_take hx))
        have h2 : (ws.take m).length ≤ 16 := by have := HK.out.len; rw [List.length_take]; omega
        omega
      have lt2 := wf_len HX.out
      obtain ⟨a1, n1⟩ := add_two (LK ++ wsForm (ws.take m)) (wrForm (ws.getD m dw)) (by rw [List.length_append]; omega)
      have HT : Hid (bs (LK ++ wsForm (ws.take m) ++ wrForm (ws.getD m dw)) = bs (LK ++ wsForm (ws.take (m + 1)))) := by show _ = _; rw [take_form hml, List.append_assoc]
      have HQ : Hid (m + 1 ≤ ws.length) := hml
      generalize LK ++ wsForm (ws.take m) = LM at *
      generalize ws.getD m dw = x at *
      generalize wrForm x = Fx at *
      clear lt1 lt2 llk
      go_wp2_with fail
      refine (CW.out (by simp)).mono ?_
      rintro r w9 ⟨rfl, hb9⟩
      have H9 : Hid (Eb w b (En.mk 3 c n sp sq ap aq mp mq prim pt dn ws) (some ⟨c1, o1, none⟩) cp w9) := HE.out.on hb9
      clear hb9 CW p12 d0 d1 d2 HE
      go_wp2_with fail
      go_roundw
      case rel => exact ⟨m + 1, HQ.out, by go_num, by rw [HT.out], H9.out⟩
      case measure => simp [intOf]; omega
    · have hml1 : ¬ (m : Int) < ws.length := by omega
      have HTW : Hid (ws.take m = ws) := List.take_of_length_le (by omega)
      rw [HTW.out]
      have lt1 : (wsForm ws).length ≤ 307 * 16 := by
        have h1 := ws_len HK.out.ws
        have h2 := HK.out.len
        omega
      obtain ⟨LW, hLW⟩ : ∃ LW, LK ++ wsForm ws = LW := ⟨_, rfl⟩
      have llw : LW.length ≤ 4975 := by rw [← hLW, List.length_append]; omega
      have HLW : Hid (LK ++ wsForm ws = LW) := hLW
      rw [hLW]
      clear hLW lt1 llk
      have p0 : wr.cell? ⟨b, 0, none⟩ = some (.int .i64 3) := block_cell HE.out.x rfl
      have p10 : wr.cell? ⟨b, 10, none⟩ = some (.int .u8 (pt : Int)) := block_cell HE.out.x rfl
      have lf : (numForm pt).length ≤ 9 := nf_len (by have := HK.out.pt; omega)
      obtain ⟨a1, n1⟩ := add_two LW (numForm pt) (by omega)
      obtain ⟨LP, hLP⟩ : ∃ LP, LW ++ numForm pt = LP := ⟨_, rfl⟩
      have llp : LP.length ≤ 4984 := by rw [← hLP, List.length_append]; omega
      rw [hLP] at a1
      have HLP : Hid (LW ++ numForm pt = LP) := hLP
      have x1 := u64w (n := pt) (by have := HK.out.pt; omega)
      have c1 : Hid (1 = 1 → Calls Try.prog 20 #[.int .u64 (pt : Int)] wr fun r w' => r = .returned (.string (bs (numForm pt))) ∧ Below wr.heap.size wr w') := fun _ => refNum11 pt wr (by have := HK.out.pt; omega)
      generalize hFt : numForm pt = Ft at *
      have HFt : Hid (numForm pt = Ft) := hFt
      clear hFt
      clear hLP lf llw
      go_wp2_with fail
      refine (c1.out (by simp)).mono ?_
      rintro r w7 ⟨rfl, hb7⟩
      have H7 : Hid (Eb w b (En.mk 3 c n sp sq ap aq mp mq prim pt dn ws) ao cp w7) := HE.out.on hb7
      clear p0 p10 hb7 c1 x1 HE
      have p0 : w7.cell? ⟨b, 0, none⟩ = some (.int .i64 3) := block_cell H7.out.x rfl
      have HF : Hid (formE (En.mk 3 c n sp sq ap aq mp mq prim pt dn ws) = LP) := by
        show _ = _
        rw [← HLP.out]
        rw [← HFt.out]
        rw [← HLW.out]
        rw [← HLK.out]
        rw [← HL4.out]
        rw [← HL3.out]
        rw [← HL2.out]
        rw [← HL1.out]
        rw [← HL0.out]
        rw [← HFc.out]
        rw [← HFn.out]
        rw [← HFs.out]
        rw [← HFa.out]
        simp [formE, byForm, stForm, midForm, ptForm, dnForm, hasBy, hasSt, hasAt, hasPt, List.append_assoc]
      go_wp2_with fail
      go_ret2
      exact ⟨by rw [HF.out]; rfl, H7.out.bel⟩
end Go.Proofs.Ytmgjlpgjjeknpaa
