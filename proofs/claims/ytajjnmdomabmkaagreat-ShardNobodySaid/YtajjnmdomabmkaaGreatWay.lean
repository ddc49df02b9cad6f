import Derived.Test.YtajjnmdomabmkaaGreatWax
set_option maxHeartbeats 4000000
set_option maxRecDepth 100000
set_option linter.unusedVariables false
namespace Go.Proofs.YtajjnmdomabmkaaGreat.Ent
open Go.RowKit Go.Sort
def R10 : Prop := ∀ (e : En) (ao : Option Addr) (cp : Nat) (w : World), (e.k = 1 ∨ e.k = 2 ∨ e.k = 3) → EnOk e → e.ws.length ≤ 100 → WsAt w.heap.size (.slice ao e.ws.length cp) e.ws w → Calls Tryz.prog 79 #[.agg #[.int .i64 e.k, .int .u32 (e.c : Int), .int .u32 (e.n : Int), .int .u64 (e.sp : Int), .int .u32 (e.sl : Int), .int .u64 (e.ap : Int), .int .u32 (e.al : Int), .int .u64 (e.mp : Int), .int .u32 (e.ml : Int), .string (bs e.prim), .int .u8 (e.pt : Int), .bool e.dn, .slice ao e.ws.length cp]] w fun r w' => r = .returned (.bool (rightE e)) ∧ Below w.heap.size w w'
theorem wp8_no (I : R10) (e : En) (ao : Option Addr) (cp : Nat) (w : World) (h3 : e.k = 1 ∨ e.k = 2 ∨ e.k = 3) (hr : rightE e = false) (hok : EnOk e) (hlen : e.ws.length ≤ 100) (hws : WsAt w.heap.size (.slice ao e.ws.length cp) e.ws w) :
  Calls Tryz.prog 50 #[.agg #[.int .i64 e.k, .int .u32 (e.c : Int), .int .u32 (e.n : Int), .int .u64 (e.sp : Int), .int .u32 (e.sl : Int), .int .u64 (e.ap : Int), .int .u32 (e.al : Int), .int .u64 (e.mp : Int), .int .u32 (e.ml : Int), .string (bs e.prim), .int .u8 (e.pt : Int), .bool e.dn, .slice ao e.ws.length cp]] w fun r w' => r = .returned (.tuple #[.string ⟨#[]⟩, .int .i64 1]) ∧ Below w.heap.size w w' := by
 have H0 : Hid _ := eb_new (e := e) hws
 obtain ⟨W1, hW1⟩ : ∃ W1, w.alloc (.cells #[.int .i64 e.k, .int .u32 (e.c : Int), .int .u32 (e.n : Int), .int .u64 (e.sp : Int), .int .u32 (e.sl : Int), .int .u64 (e.ap : Int), .int .u32 (e.al : Int), .int .u64 (e.mp : Int), .int .u32 (e.ml : Int), .string (bs e.prim), .int .u8 (e.pt : Int), .bool e.dn, .slice ao e.ws.length cp] 124) = W1 := ⟨_, rfl⟩
 obtain ⟨b, hb⟩ : ∃ b, w.heap.size = b := ⟨_, rfl⟩
 have H1 : Hid (Eb w b e ao cp W1) := by rw [← hb, ← hW1]; exact H0.out
 have CR : Hid (1 = 1 → Calls Tryz.prog 79 #[.agg #[.int .i64 e.k, .int .u32 (e.c : Int), .int .u32 (e.n : Int), .int .u64 (e.sp : Int), .int .u32 (e.sl : Int), .int .u64 (e.ap : Int), .int .u32 (e.al : Int), .int .u64 (e.mp : Int), .int .u32 (e.ml : Int), .string (bs e.prim), .int .u8 (e.pt : Int), .bool e.dn, .slice ao e.ws.length cp]] W1 fun r w' => r = .returned (.bool false) ∧ Below W1.heap.size W1 w') := fun _ => by
  have := I e ao cp W1 h3 hok hlen H1.out.wsx
  rw [hr] at this
  exact this
 have p0 := block_cell (j := 0) H1.out.x rfl
 have p1 := block_cell (j := 1) H1.out.x rfl
 have p2 := block_cell (j := 2) H1.out.x rfl
 have p3 := block_cell (j := 3) H1.out.x rfl
 have p4 := block_cell (j := 4) H1.out.x rfl
 have p5 := block_cell (j := 5) H1.out.x rfl
 have p6 := block_cell (j := 6) H1.out.x rfl
 have p7 := block_cell (j := 7) H1.out.x rfl
 have p8 := block_cell (j := 8) H1.out.x rfl
 have p9 := block_cell (j := 9) H1.out.x rfl
 have p10 := block_cell (j := 10) H1.out.x rfl
 have p11 := block_cell (j := 11) H1.out.x rfl
 have p12 := block_cell (j := 12) H1.out.x rfl
 clear H0 hws hr hok hlen h3
 go_enter Tryz.func50, Tryz.ntmps50
 go_wp2_with fail
 refine (CR.out (by simp)).mono ?_
 rintro r w1 ⟨rfl, hb1⟩
 have Ha : Hid (Eb w b e ao cp w1) := H1.out.on hb1
 clear p0 p1 p2 p3 p4 p5 p6 p7 p8 p9 p10 p11 p12 hb1 hb hW1 CR H1
 go_wp2_with fail
 go_ret2
 exact ⟨rfl, Ha.out.bel⟩
theorem wp8_ok (I : R10) (k : Nat) (c n sp sq ap aq mp mq : Nat) (prim : List UInt8) (pt : Nat) (dn : Bool) (ws : List Wr) (F1 F2 : List UInt8) (ao : Option Addr) (cp : Nat) (w : World) (h3 : (k : Int) = 1 ∨ (k : Int) = 2 ∨ (k : Int) = 3) (hr : rightE (En.mk (k : Int) c n sp sq ap aq mp mq prim pt dn ws) = true) (hok : EnOk (En.mk (k : Int) c n sp sq ap aq mp mq prim pt dn ws)) (hlen : ws.length ≤ 100) (hws : WsAt w.heap.size (.slice ao ws.length cp) ws w)
  (hF : numForm k ++ F1 ++ F2 = formE (En.mk (k : Int) c n sp sq ap aq mp mq prim pt dn ws)) (l1 : F1.length ≤ 100)
  (CH : ∀ (B pb : Nat) (L : List UInt8) (W : World), WsAt B (.slice ao ws.length cp) ws W → B ≤ pb → WrAt pb L W → L.length ≤ 200 → Calls Tryz.prog 104 #[.pointer (some ⟨pb, 0, none⟩), .agg #[.int .i64 (k : Int), .int .u32 (c : Int), .int .u32 (n : Int), .int .u64 (sp : Int), .int .u32 (sq : Int), .int .u64 (ap : Int), .int .u32 (aq : Int), .int .u64 (mp : Int), .int .u32 (mq : Int), .string (bs prim), .int .u8 (pt : Int), .bool dn, .slice ao ws.length cp], .int .u16 (mask (k : Int) : Int)] W fun r w' => r = .returned (.tuple #[]) ∧ WrAt pb (L ++ F1) w' ∧ KeptW pb W w')
  (CT : ∀ (B pb : Nat) (L : List UInt8) (W : World), WsAt B (.slice ao ws.length cp) ws W → B ≤ pb → WrAt pb L W → L.length ≤ 200 → Calls Tryz.prog 105 #[.pointer (some ⟨pb, 0, none⟩), .agg #[.int .i64 (k : Int), .int .u32 (c : Int), .int .u32 (n : Int), .int .u64 (sp : Int), .int .u32 (sq : Int), .int .u64 (ap : Int), .int .u32 (aq : Int), .int .u64 (mp : Int), .int .u32 (mq : Int), .string (bs prim), .int .u8 (pt : Int), .bool dn, .slice ao ws.length cp], .int .u16 (mask (k : Int) : Int)] W fun r w' => r = .returned (.tuple #[]) ∧ WrAt pb (L ++ F2) w' ∧ KeptW pb W w') :
  Calls Tryz.prog 50 #[.agg #[.int .i64 (k : Int), .int .u32 (c : Int), .int .u32 (n : Int), .int .u64 (sp : Int), .int .u32 (sq : Int), .int .u64 (ap : Int), .int .u32 (aq : Int), .int .u64 (mp : Int), .int .u32 (mq : Int), .string (bs prim), .int .u8 (pt : Int), .bool dn, .slice ao ws.length cp]] w fun r w' => r = .returned (.tuple #[.string (bs (formE (En.mk (k : Int) c n sp sq ap aq mp mq prim pt dn ws))), .int .i64 0]) ∧ Below w.heap.size w w' := by
 have H0 : Hid _ := eb_new (e := (En.mk (k : Int) c n sp sq ap aq mp mq prim pt dn ws)) hws
 have hk9 : (1 : Int) ≤ (k : Int) ∧ (k : Int) ≤ 9 := (rightE_iff hr).1
 have x1 := u64w (n := k) (by omega)
 have HKN : Hid (k ≤ 9) := by show _ ≤ _; omega
 obtain ⟨W1, hW1⟩ : ∃ W1, w.alloc (.cells #[.int .i64 (k : Int), .int .u32 (c : Int), .int .u32 (n : Int), .int .u64 (sp : Int), .int .u32 (sq : Int), .int .u64 (ap : Int), .int .u32 (aq : Int), .int .u64 (mp : Int), .int .u32 (mq : Int), .string (bs prim), .int .u8 (pt : Int), .bool dn, .slice ao ws.length cp] 124) = W1 := ⟨_, rfl⟩
 obtain ⟨b, hb⟩ : ∃ b, w.heap.size = b := ⟨_, rfl⟩
 have H1 : Hid (Eb w b (En.mk (k : Int) c n sp sq ap aq mp mq prim pt dn ws) ao cp W1) := by rw [← hb, ← hW1]; exact H0.out
 have CR : Hid (1 = 1 → Calls Tryz.prog 79 #[.agg #[.int .i64 (k : Int), .int .u32 (c : Int), .int .u32 (n : Int), .int .u64 (sp : Int), .int .u32 (sq : Int), .int .u64 (ap : Int), .int .u32 (aq : Int), .int .u64 (mp : Int), .int .u32 (mq : Int), .string (bs prim), .int .u8 (pt : Int), .bool dn, .slice ao ws.length cp]] W1 fun r w' => r = .returned (.bool true) ∧ Below W1.heap.size W1 w') := fun _ => by
  have := I (En.mk (k : Int) c n sp sq ap aq mp mq prim pt dn ws) ao cp W1 h3 hok hlen H1.out.wsx
  rw [hr] at this
  exact this
 have HCH : Hid _ := CH
 have HCT : Hid _ := CT
 have HF : Hid _ := hF
 have HL1 : Hid (F1.length ≤ 100) := l1
 have p0 := block_cell (j := 0) H1.out.x rfl
 have p1 := block_cell (j := 1) H1.out.x rfl
 have p2 := block_cell (j := 2) H1.out.x rfl
 have p3 := block_cell (j := 3) H1.out.x rfl
 have p4 := block_cell (j := 4) H1.out.x rfl
 have p5 := block_cell (j := 5) H1.out.x rfl
 have p6 := block_cell (j := 6) H1.out.x rfl
 have p7 := block_cell (j := 7) H1.out.x rfl
 have p8 := block_cell (j := 8) H1.out.x rfl
 have p9 := block_cell (j := 9) H1.out.x rfl
 have p10 := block_cell (j := 10) H1.out.x rfl
 have p11 := block_cell (j := 11) H1.out.x rfl
 have p12 := block_cell (j := 12) H1.out.x rfl
 clear H0 hws hr hok hlen h3 CH CT hF l1 hk9
 go_enter Tryz.func50, Tryz.ntmps50
 go_wp2_with fail
 refine (CR.out (by simp)).mono ?_
 rintro r w1 ⟨rfl, hb1⟩
 have Ha : Hid (Eb w b (En.mk (k : Int) c n sp sq ap aq mp mq prim pt dn ws) ao cp w1) := H1.out.on hb1
 clear p0 p1 p2 p3 p4 p5 p6 p7 p8 p9 p10 p11 p12 hb1 hb hW1 CR H1
 have HN0 : Hid _ := wz_new Ha.out
 go_upto_region 4 with fail
 obtain ⟨y0, hy0⟩ : ∃ y0, w1.alloc (.cells #[.slice none 0 0] 200) = y0 := ⟨_, rfl⟩
 obtain ⟨pb, hpb⟩ : ∃ pb, w1.heap.size = pb := ⟨_, rfl⟩
 have HZ0 : Hid (Wz w b pb (En.mk (k : Int) c n sp sq ap aq mp mq prim pt dn ws) ao cp [] y0) := by rw [← hy0, ← hpb]; exact HN0.out
 rw [hy0, hpb]
 clear HN0 hy0 hpb Ha
 have C : Hid (1 = 1 → Calls Tryz.prog 103 #[.pointer (some ⟨pb, 0, none⟩), .int .u64 (k : Int)] y0 fun r w' => r = .returned (.tuple #[]) ∧ WrAt pb ([] ++ numForm k) w' ∧ KeptW pb y0 w') := fun _ => num10 pb [] k y0 (by have := HKN.out; omega) HZ0.out.wr (by simp)
 have p0 := block_cell (j := 0) HZ0.out.eb.x rfl
 go_wp2_with fail
 refine (C.out (by simp)).mono ?_
 rintro r y1 ⟨rfl, hw, hk⟩
 have HZ1 : Hid (Wz w b pb (En.mk (k : Int) c n sp sq ap aq mp mq prim pt dn ws) ao cp ([] ++ numForm k) y1) := HZ0.out.go hw hk
 clear C p0 hw hk HZ0 x1
 have C : Hid (1 = 1 → Calls Tryz.prog 75 #[.int .i64 (k : Int)] y1 fun r w' => r = .returned (.int .u16 (mask (k : Int) : Int)) ∧ y1 = w') := fun _ => fields15 (k : Int) y1
 have p0 := block_cell (j := 0) HZ1.out.eb.x rfl
 go_wp2_with fail
 refine (C.out (by simp)).mono ?_
 rintro r wx ⟨rfl, rfl⟩
 clear C p0
 have C : Hid (1 = 1 → Calls Tryz.prog 104 #[.pointer (some ⟨pb, 0, none⟩), .agg #[.int .i64 (k : Int), .int .u32 (c : Int), .int .u32 (n : Int), .int .u64 (sp : Int), .int .u32 (sq : Int), .int .u64 (ap : Int), .int .u32 (aq : Int), .int .u64 (mp : Int), .int .u32 (mq : Int), .string (bs prim), .int .u8 (pt : Int), .bool dn, .slice ao ws.length cp], .int .u16 (mask (k : Int) : Int)] y1 fun r w' => r = .returned (.tuple #[]) ∧ WrAt pb (([] ++ numForm k) ++ F1) w' ∧ KeptW pb y1 w') := fun _ => HCH.out w.heap.size pb _ y1 HZ1.out.eb.ws HZ1.out.le HZ1.out.wr (by rw [List.nil_append]; have := nf_len (n := k) (by have := HKN.out; omega); omega)
 have p0 := block_cell (j := 0) HZ1.out.eb.x rfl
 have p1 := block_cell (j := 1) HZ1.out.eb.x rfl
 have p2 := block_cell (j := 2) HZ1.out.eb.x rfl
 have p3 := block_cell (j := 3) HZ1.out.eb.x rfl
 have p4 := block_cell (j := 4) HZ1.out.eb.x rfl
 have p5 := block_cell (j := 5) HZ1.out.eb.x rfl
 have p6 := block_cell (j := 6) HZ1.out.eb.x rfl
 have p7 := block_cell (j := 7) HZ1.out.eb.x rfl
 have p8 := block_cell (j := 8) HZ1.out.eb.x rfl
 have p9 := block_cell (j := 9) HZ1.out.eb.x rfl
 have p10 := block_cell (j := 10) HZ1.out.eb.x rfl
 have p11 := block_cell (j := 11) HZ1.out.eb.x rfl
 have p12 := block_cell (j := 12) HZ1.out.eb.x rfl
 go_wp2_with fail
 refine (C.out (by simp)).mono ?_
 rintro r y2 ⟨rfl, hw, hk⟩
 have HZ2 : Hid (Wz w b pb (En.mk (k : Int) c n sp sq ap aq mp mq prim pt dn ws) ao cp ([] ++ numForm k ++ F1) y2) := HZ1.out.go hw hk
 clear C hw hk HZ1 HCH p0 p1 p2 p3 p4 p5 p6 p7 p8 p9 p10 p11 p12
 have C : Hid (1 = 1 → Calls Tryz.prog 105 #[.pointer (some ⟨pb, 0, none⟩), .agg #[.int .i64 (k : Int), .int .u32 (c : Int), .int .u32 (n : Int), .int .u64 (sp : Int), .int .u32 (sq : Int), .int .u64 (ap : Int), .int .u32 (aq : Int), .int .u64 (mp : Int), .int .u32 (mq : Int), .string (bs prim), .int .u8 (pt : Int), .bool dn, .slice ao ws.length cp], .int .u16 (mask (k : Int) : Int)] y2 fun r w' => r = .returned (.tuple #[]) ∧ WrAt pb (([] ++ numForm k ++ F1) ++ F2) w' ∧ KeptW pb y2 w') := fun _ => HCT.out w.heap.size pb _ y2 HZ2.out.eb.ws HZ2.out.le HZ2.out.wr (by rw [List.nil_append, List.length_append]; have := nf_len (n := k) (by have := HKN.out; omega); have := HL1.out; omega)
 have p0 := block_cell (j := 0) HZ2.out.eb.x rfl
 have p1 := block_cell (j := 1) HZ2.out.eb.x rfl
 have p2 := block_cell (j := 2) HZ2.out.eb.x rfl
 have p3 := block_cell (j := 3) HZ2.out.eb.x rfl
 have p4 := block_cell (j := 4) HZ2.out.eb.x rfl
 have p5 := block_cell (j := 5) HZ2.out.eb.x rfl
 have p6 := block_cell (j := 6) HZ2.out.eb.x rfl
 have p7 := block_cell (j := 7) HZ2.out.eb.x rfl
 have p8 := block_cell (j := 8) HZ2.out.eb.x rfl
 have p9 := block_cell (j := 9) HZ2.out.eb.x rfl
 have p10 := block_cell (j := 10) HZ2.out.eb.x rfl
 have p11 := block_cell (j := 11) HZ2.out.eb.x rfl
 have p12 := block_cell (j := 12) HZ2.out.eb.x rfl
 go_wp2_with fail
 refine (C.out (by simp)).mono ?_
 rintro r y3 ⟨rfl, hw, hk⟩
 have HZ3 : Hid (Wz w b pb (En.mk (k : Int) c n sp sq ap aq mp mq prim pt dn ws) ao cp ([] ++ numForm k ++ F1 ++ F2) y3) := HZ2.out.go hw hk
 clear C hw hk HZ2 HCT p0 p1 p2 p3 p4 p5 p6 p7 p8 p9 p10 p11 p12
 rw [List.nil_append, HF.out] at HZ3
 have C : Hid (1 = 1 → Calls Tryz.prog 106 #[.pointer (some ⟨pb, 0, none⟩)] y3 fun r w' => r = .returned (.string (bs (formE (En.mk (k : Int) c n sp sq ap aq mp mq prim pt dn ws)))) ∧ y3 = w') := fun _ => bytes18 pb (formE (En.mk (k : Int) c n sp sq ap aq mp mq prim pt dn ws)) y3 HZ3.out.wr
 go_wp2_with fail
 refine (C.out (by simp)).mono ?_
 rintro r wx ⟨rfl, rfl⟩
 go_wp2_with fail
 go_ret2
 exact ⟨rfl, HZ3.out.eb.bel⟩
theorem wp8 (I : R10) (e : En) (ao : Option Addr) (cp : Nat) (w : World) (h3 : e.k = 1 ∨ e.k = 2 ∨ e.k = 3) (hok : EnOk e) (hlen : e.ws.length ≤ 100) (hws : WsAt w.heap.size (.slice ao e.ws.length cp) e.ws w) :
  Calls Tryz.prog 50 #[.agg #[.int .i64 e.k, .int .u32 (e.c : Int), .int .u32 (e.n : Int), .int .u64 (e.sp : Int), .int .u32 (e.sl : Int), .int .u64 (e.ap : Int), .int .u32 (e.al : Int), .int .u64 (e.mp : Int), .int .u32 (e.ml : Int), .string (bs e.prim), .int .u8 (e.pt : Int), .bool e.dn, .slice ao e.ws.length cp]] w fun r w' => r = .returned (.tuple #[.string (bs (writeE e).1), .int .i64 (writeE e).2]) ∧ Below w.heap.size w w' := by
 unfold writeE
 cases hc : rightE e with
 | false => exact wp8_no I e ao cp w h3 hc hok hlen hws
 | true =>
  have hk := wk_of hc hok.rg
  obtain ⟨⟨h1, h9⟩, hbare, _⟩ := rightE_iff hc
  obtain ⟨k, c, n, sp, sq, ap, aq, mp, mq, prim, pt, dn, ws⟩ := e
  have hcase : k = 1 ∨ k = 2 ∨ k = 3 := h3
  have a1 : (numForm c).length ≤ 9 := nf_len (by have := hk.c; simp only at this; omega)
  have a2 : (numForm n).length ≤ 9 := nf_len (by have := hk.n; simp only at this; omega)
  have a3 : (stampForm sp sq).length ≤ 18 := stf_len hk.sp hk.sq
  have a4 : (stampForm ap aq).length ≤ 18 := stf_len hk.ap hk.aq
  have a5 : (stampForm mp mq).length ≤ 18 := stf_len hk.mp hk.mq
  rcases hcase with rfl | rfl | rfl
  ·obtain rfl : ws = [] := by
    have := congrArg En.ws hbare
    simpa [bareE, hasWs] using this
   refine wp8_ok I 1 c n sp sq ap aq mp mq prim pt dn [] ((stampForm ap aq)) ([] : List UInt8) ao cp w h3 hc hok hlen hws (by simp [formE, byForm, stForm, midForm, ptForm, dnForm, wsForm, hasBy, hasSt, hasAt, hasPt]) (by (try simp only [List.length_append]); omega) ?_ ?_
   ·intro B pb L W h1 h2 h5 h4; exact ph16_4 1 c n sp sq ap aq mp mq prim pt dn [] ao cp W B pb L hk h1 h2 h5 h4
   ·intro B pb L W h1 h2 h5 h4; exact pr17_4 1 c n sp sq ap aq mp mq prim pt dn ao cp W B pb L hk h1 h2 h5 h4
  ·refine wp8_ok I 2 c n sp sq ap aq mp mq prim pt dn ws (((numForm c ++ numForm n) ++ stampForm sp sq ++ stampForm mp mq)) (textForm prim ++ numForm ws.length ++ wsForm ws) ao cp w h3 hc hok hlen hws (by simp [formE, byForm, stForm, midForm, ptForm, dnForm, hasBy, hasSt, hasPt]) (by (try simp only [List.length_append]); omega) ?_ ?_
   ·intro B pb L W h1 h2 h5 h4; exact ph16_155 2 c n sp sq ap aq mp mq prim pt dn ws ao cp W B pb L hk h1 h2 h5 h4
   ·intro B pb L W h1 h2 h5 h4; exact pr17_155 2 c n sp sq ap aq mp mq prim pt dn ws ao cp W B pb L hk h1 h2 h5 h4
  ·obtain rfl : ws = [] := by
    have := congrArg En.ws hbare
    simpa [bareE, hasWs] using this
   refine wp8_ok I 3 c n sp sq ap aq mp mq prim pt dn [] (((numForm c ++ numForm n) ++ stampForm sp sq ++ stampForm ap aq)) (numForm pt) ao cp w h3 hc hok hlen hws (by simp [formE, byForm, stForm, midForm, ptForm, dnForm, wsForm, hasBy, hasSt, hasAt, hasPt]) (by (try simp only [List.length_append]); omega) ?_ ?_
   ·intro B pb L W h1 h2 h5 h4; exact ph16_551 3 c n sp sq ap aq mp mq prim pt dn [] ao cp W B pb L hk h1 h2 h5 h4
   ·intro B pb L W h1 h2 h5 h4; exact pr17_551 3 c n sp sq ap aq mp mq prim pt dn ao cp W B pb L hk h1 h2 h5 h4
end Go.Proofs.YtajjnmdomabmkaaGreat.Ent
namespace Go.Proofs.YtajjnmdomabmkaaGreat.Ent
open Go.RowKit Go.Sort
theorem no25_1 (c n sp sq ap aq mp mq : Nat) (prim : List UInt8) (pt : Nat) (dn : Bool) (ws : List Wr) (ao : Option Addr) (cp : Nat) (w : World) (hws : WsAt w.heap.size (.slice ao ws.length cp) ws w) :
  Calls Tryz.prog 161 #[.agg #[.int .i64 1, .int .u32 (c : Int), .int .u32 (n : Int), .int .u64 (sp : Int), .int .u32 (sq : Int), .int .u64 (ap : Int), .int .u32 (aq : Int), .int .u64 (mp : Int), .int .u32 (mq : Int), .string (bs prim), .int .u8 (pt : Int), .bool dn, .slice ao ws.length cp], .int .u16 4] w fun r w' => r = .returned (.bool (zeroB (En.mk 1 c n sp sq ap aq mp mq prim pt dn ws))) ∧ Below w.heap.size w w' := by
 have H0 : Hid _ := eb_new (e := (En.mk 1 c n sp sq ap aq mp mq prim pt dn ws)) hws
 obtain ⟨W1, hW1⟩ : ∃ W1, w.alloc (.cells #[.int .i64 1, .int .u32 (c : Int), .int .u32 (n : Int), .int .u64 (sp : Int), .int .u32 (sq : Int), .int .u64 (ap : Int), .int .u32 (aq : Int), .int .u64 (mp : Int), .int .u32 (mq : Int), .string (bs prim), .int .u8 (pt : Int), .bool dn, .slice ao ws.length cp] 124) = W1 := ⟨_, rfl⟩
 obtain ⟨b, hb⟩ : ∃ b, w.heap.size = b := ⟨_, rfl⟩
 have H1 : Hid (Eb w b (En.mk 1 c n sp sq ap aq mp mq prim pt dn ws) ao cp W1) := by rw [← hb, ← hW1]; exact H0.out
 clear H0 hws
 obtain ⟨q1, hq1⟩ : ∃ q, (c == 0 && n == 0) = q := ⟨_, rfl⟩
 have E1 : ∀ W : World, (binOp .eql 30 (.agg #[.int .u32 (c : Int), .int .u32 (n : Int)]) (.agg #[.int .u32 0, .int .u32 0])).run Tryz.prog W = .ok (.bool q1) W := fun W => by rw [← hq1]; exact run_eql24 c n 0 0 W
 have HQ1 : Hid ((c == 0 && n == 0) = q1) := hq1
 clear hq1
 obtain ⟨q2, hq2⟩ : ∃ q, (sp == 0 && sq == 0) = q := ⟨_, rfl⟩
 have E2 : ∀ W : World, (binOp .eql 32 (.agg #[.int .u64 (sp : Int), .int .u32 (sq : Int)]) (.agg #[.int .u64 0, .int .u32 0])).run Tryz.prog W = .ok (.bool q2) W := fun W => by rw [← hq2]; exact run_eql27 sp sq 0 0 W
 have HQ2 : Hid ((sp == 0 && sq == 0) = q2) := hq2
 clear hq2
 obtain ⟨q8, hq8⟩ : ∃ q, (mp == 0 && mq == 0) = q := ⟨_, rfl⟩
 have E8 : ∀ W : World, (binOp .eql 32 (.agg #[.int .u64 (mp : Int), .int .u32 (mq : Int)]) (.agg #[.int .u64 0, .int .u32 0])).run Tryz.prog W = .ok (.bool q8) W := fun W => by rw [← hq8]; exact run_eql27 mp mq 0 0 W
 have HQ8 : Hid ((mp == 0 && mq == 0) = q8) := hq8
 clear hq8
 have p1 := block_cell (j := 1) H1.out.x rfl
 have p2 := block_cell (j := 2) H1.out.x rfl
 have p3 := block_cell (j := 3) H1.out.x rfl
 have p4 := block_cell (j := 4) H1.out.x rfl
 have p7 := block_cell (j := 7) H1.out.x rfl
 have p8 := block_cell (j := 8) H1.out.x rfl
 have p9 := block_cell (j := 9) H1.out.x rfl
 have p10 := block_cell (j := 10) H1.out.x rfl
 have p11 := block_cell (j := 11) H1.out.x rfl
 have p12 := block_cell (j := 12) H1.out.x rfl
 have h1 : Hid (∀ W : World, 1 = 1 → Calls Tryz.prog 155 #[.int .u16 4, .int .u16 1] W fun r w' => r = .returned (.bool false) ∧ W = w') := fun W _ => has41 4 1 W (by omega) (by omega)
 have h2 : Hid (∀ W : World, 1 = 1 → Calls Tryz.prog 155 #[.int .u16 4, .int .u16 2] W fun r w' => r = .returned (.bool false) ∧ W = w') := fun W _ => has41 4 2 W (by omega) (by omega)
 have h4 : Hid (∀ W : World, 1 = 1 → Calls Tryz.prog 155 #[.int .u16 4, .int .u16 4] W fun r w' => r = .returned (.bool true) ∧ W = w') := fun W _ => has41 4 4 W (by omega) (by omega)
 have h8 : Hid (∀ W : World, 1 = 1 → Calls Tryz.prog 155 #[.int .u16 4, .int .u16 8] W fun r w' => r = .returned (.bool false) ∧ W = w') := fun W _ => has41 4 8 W (by omega) (by omega)
 have h16 : Hid (∀ W : World, 1 = 1 → Calls Tryz.prog 155 #[.int .u16 4, .int .u16 16] W fun r w' => r = .returned (.bool false) ∧ W = w') := fun W _ => has41 4 16 W (by omega) (by omega)
 have h32 : Hid (∀ W : World, 1 = 1 → Calls Tryz.prog 155 #[.int .u16 4, .int .u16 32] W fun r w' => r = .returned (.bool false) ∧ W = w') := fun W _ => has41 4 32 W (by omega) (by omega)
 have h64 : Hid (∀ W : World, 1 = 1 → Calls Tryz.prog 155 #[.int .u16 4, .int .u16 64] W fun r w' => r = .returned (.bool false) ∧ W = w') := fun W _ => has41 4 64 W (by omega) (by omega)
 have h128 : Hid (∀ W : World, 1 = 1 → Calls Tryz.prog 155 #[.int .u16 4, .int .u16 128] W fun r w' => r = .returned (.bool false) ∧ W = w') := fun W _ => has41 4 128 W (by omega) (by omega)
 cases q1
 ·skip
  go_enter Tryz.func161, Tryz.ntmps161
  simp only [List.append_eq, List.cons_append, List.nil_append]
  go_wp2_with (go_at_call 155; (first | (with_reducible refine (h1.out _ (by trivial)).mono ?_) | (with_reducible refine (h2.out _ (by trivial)).mono ?_) | (with_reducible refine (h4.out _ (by trivial)).mono ?_) | (with_reducible refine (h8.out _ (by trivial)).mono ?_) | (with_reducible refine (h16.out _ (by trivial)).mono ?_) | (with_reducible refine (h32.out _ (by trivial)).mono ?_) | (with_reducible refine (h64.out _ (by trivial)).mono ?_) | (with_reducible refine (h128.out _ (by trivial)).mono ?_)); rintro r wx ⟨rfl, rfl⟩)
  go_ret
  exact ⟨congrArg (fun b => Ending.returned (.bool b)) (show _ = _ from by simp only [zeroB, HQ1.out]; rfl), by first | exact H1.out.bel | exact (Below.refl _ _).alloc (Nat.le_refl _) _⟩
 cases q2
 ·skip
  go_enter Tryz.func161, Tryz.ntmps161
  simp only [List.append_eq, List.cons_append, List.nil_append]
  go_wp2_with (go_at_call 155; (first | (with_reducible refine (h1.out _ (by trivial)).mono ?_) | (with_reducible refine (h2.out _ (by trivial)).mono ?_) | (with_reducible refine (h4.out _ (by trivial)).mono ?_) | (with_reducible refine (h8.out _ (by trivial)).mono ?_) | (with_reducible refine (h16.out _ (by trivial)).mono ?_) | (with_reducible refine (h32.out _ (by trivial)).mono ?_) | (with_reducible refine (h64.out _ (by trivial)).mono ?_) | (with_reducible refine (h128.out _ (by trivial)).mono ?_)); rintro r wx ⟨rfl, rfl⟩)
  go_ret
  exact ⟨congrArg (fun b => Ending.returned (.bool b)) (show _ = _ from by simp only [zeroB, HQ1.out, HQ2.out]; rfl), by first | exact H1.out.bel | exact (Below.refl _ _).alloc (Nat.le_refl _) _⟩
 cases q8
 ·skip
  go_enter Tryz.func161, Tryz.ntmps161
  simp only [List.append_eq, List.cons_append, List.nil_append]
  go_wp2_with (go_at_call 155; (first | (with_reducible refine (h1.out _ (by trivial)).mono ?_) | (with_reducible refine (h2.out _ (by trivial)).mono ?_) | (with_reducible refine (h4.out _ (by trivial)).mono ?_) | (with_reducible refine (h8.out _ (by trivial)).mono ?_) | (with_reducible refine (h16.out _ (by trivial)).mono ?_) | (with_reducible refine (h32.out _ (by trivial)).mono ?_) | (with_reducible refine (h64.out _ (by trivial)).mono ?_) | (with_reducible refine (h128.out _ (by trivial)).mono ?_)); rintro r wx ⟨rfl, rfl⟩)
  go_ret
  exact ⟨congrArg (fun b => Ending.returned (.bool b)) (show _ = _ from by simp only [zeroB, HQ1.out, HQ2.out, HQ8.out]; rfl), by first | exact H1.out.bel | exact (Below.refl _ _).alloc (Nat.le_refl _) _⟩
 by_cases t16 : (bs prim).toList = []
 rotate_left
 ·have HQ16 : Hid (prim.isEmpty = false) := by show _ = _; rw [bs_list] at t16; simpa using t16
  go_enter Tryz.func161, Tryz.ntmps161
  simp only [List.append_eq, List.cons_append, List.nil_append]
  go_wp2_with (go_at_call 155; (first | (with_reducible refine (h1.out _ (by trivial)).mono ?_) | (with_reducible refine (h2.out _ (by trivial)).mono ?_) | (with_reducible refine (h4.out _ (by trivial)).mono ?_) | (with_reducible refine (h8.out _ (by trivial)).mono ?_) | (with_reducible refine (h16.out _ (by trivial)).mono ?_) | (with_reducible refine (h32.out _ (by trivial)).mono ?_) | (with_reducible refine (h64.out _ (by trivial)).mono ?_) | (with_reducible refine (h128.out _ (by trivial)).mono ?_)); rintro r wx ⟨rfl, rfl⟩)
  go_ret
  exact ⟨congrArg (fun b => Ending.returned (.bool b)) (show _ = _ from by simp only [zeroB, HQ1.out, HQ2.out, HQ8.out, HQ16.out]; rfl), by first | exact H1.out.bel | exact (Below.refl _ _).alloc (Nat.le_refl _) _⟩
 have HQ16 : Hid (prim.isEmpty = true) := by show _ = _; rw [bs_list] at t16; simpa using t16
 by_cases t32 : pt = 0
 rotate_left
 ·have HQ32 : Hid ((pt == 0) = false) := by show _ = _; simpa using t32
  have u0 : ¬ (pt : Int) = 0 := by omega
  go_enter Tryz.func161, Tryz.ntmps161
  simp only [List.append_eq, List.cons_append, List.nil_append]
  go_wp2_with (go_at_call 155; (first | (with_reducible refine (h1.out _ (by trivial)).mono ?_) | (with_reducible refine (h2.out _ (by trivial)).mono ?_) | (with_reducible refine (h4.out _ (by trivial)).mono ?_) | (with_reducible refine (h8.out _ (by trivial)).mono ?_) | (with_reducible refine (h16.out _ (by trivial)).mono ?_) | (with_reducible refine (h32.out _ (by trivial)).mono ?_) | (with_reducible refine (h64.out _ (by trivial)).mono ?_) | (with_reducible refine (h128.out _ (by trivial)).mono ?_)); rintro r wx ⟨rfl, rfl⟩)
  go_ret
  exact ⟨congrArg (fun b => Ending.returned (.bool b)) (show _ = _ from by simp only [zeroB, HQ1.out, HQ2.out, HQ8.out, HQ16.out, HQ32.out]; rfl), by first | exact H1.out.bel | exact (Below.refl _ _).alloc (Nat.le_refl _) _⟩
 have HQ32 : Hid ((pt == 0) = true) := by show _ = _; simpa using t32
 have u320 : (pt : Int) = 0 := by omega
 cases dn
 rotate_left
 ·skip
  go_enter Tryz.func161, Tryz.ntmps161
  simp only [List.append_eq, List.cons_append, List.nil_append]
  go_wp2_with (go_at_call 155; (first | (with_reducible refine (h1.out _ (by trivial)).mono ?_) | (with_reducible refine (h2.out _ (by trivial)).mono ?_) | (with_reducible refine (h4.out _ (by trivial)).mono ?_) | (with_reducible refine (h8.out _ (by trivial)).mono ?_) | (with_reducible refine (h16.out _ (by trivial)).mono ?_) | (with_reducible refine (h32.out _ (by trivial)).mono ?_) | (with_reducible refine (h64.out _ (by trivial)).mono ?_) | (with_reducible refine (h128.out _ (by trivial)).mono ?_)); rintro r wx ⟨rfl, rfl⟩)
  go_ret
  exact ⟨congrArg (fun b => Ending.returned (.bool b)) (show _ = _ from by simp only [zeroB, HQ1.out, HQ2.out, HQ8.out, HQ16.out, HQ32.out]; rfl), by first | exact H1.out.bel | exact (Below.refl _ _).alloc (Nat.le_refl _) _⟩
 go_enter Tryz.func161, Tryz.ntmps161
 simp only [List.append_eq, List.cons_append, List.nil_append]
 go_wp2_with (go_at_call 155; (first | (with_reducible refine (h1.out _ (by trivial)).mono ?_) | (with_reducible refine (h2.out _ (by trivial)).mono ?_) | (with_reducible refine (h4.out _ (by trivial)).mono ?_) | (with_reducible refine (h8.out _ (by trivial)).mono ?_) | (with_reducible refine (h16.out _ (by trivial)).mono ?_) | (with_reducible refine (h32.out _ (by trivial)).mono ?_) | (with_reducible refine (h64.out _ (by trivial)).mono ?_) | (with_reducible refine (h128.out _ (by trivial)).mono ?_)); rintro r wx ⟨rfl, rfl⟩)
 go_ret
 exact ⟨congrArg (fun b => Ending.returned (.bool b)) (show _ = _ from by simp only [zeroB, HQ1.out, HQ2.out, HQ8.out, HQ16.out, HQ32.out]; exact len_emp ws), by first | exact H1.out.bel | exact (Below.refl _ _).alloc (Nat.le_refl _) _⟩
theorem no25_2 (c n sp sq ap aq mp mq : Nat) (prim : List UInt8) (pt : Nat) (dn : Bool) (ws : List Wr) (ao : Option Addr) (cp : Nat) (w : World) (hws : WsAt w.heap.size (.slice ao ws.length cp) ws w) :
  Calls Tryz.prog 161 #[.agg #[.int .i64 2, .int .u32 (c : Int), .int .u32 (n : Int), .int .u64 (sp : Int), .int .u32 (sq : Int), .int .u64 (ap : Int), .int .u32 (aq : Int), .int .u64 (mp : Int), .int .u32 (mq : Int), .string (bs prim), .int .u8 (pt : Int), .bool dn, .slice ao ws.length cp], .int .u16 155] w fun r w' => r = .returned (.bool (zeroB (En.mk 2 c n sp sq ap aq mp mq prim pt dn ws))) ∧ Below w.heap.size w w' := by
 have H0 : Hid _ := eb_new (e := (En.mk 2 c n sp sq ap aq mp mq prim pt dn ws)) hws
 obtain ⟨W1, hW1⟩ : ∃ W1, w.alloc (.cells #[.int .i64 2, .int .u32 (c : Int), .int .u32 (n : Int), .int .u64 (sp : Int), .int .u32 (sq : Int), .int .u64 (ap : Int), .int .u32 (aq : Int), .int .u64 (mp : Int), .int .u32 (mq : Int), .string (bs prim), .int .u8 (pt : Int), .bool dn, .slice ao ws.length cp] 124) = W1 := ⟨_, rfl⟩
 obtain ⟨b, hb⟩ : ∃ b, w.heap.size = b := ⟨_, rfl⟩
 have H1 : Hid (Eb w b (En.mk 2 c n sp sq ap aq mp mq prim pt dn ws) ao cp W1) := by rw [← hb, ← hW1]; exact H0.out
 clear H0 hws
 obtain ⟨q4, hq4⟩ : ∃ q, (ap == 0 && aq == 0) = q := ⟨_, rfl⟩
 have E4 : ∀ W : World, (binOp .eql 32 (.agg #[.int .u64 (ap : Int), .int .u32 (aq : Int)]) (.agg #[.int .u64 0, .int .u32 0])).run Tryz.prog W = .ok (.bool q4) W := fun W => by rw [← hq4]; exact run_eql27 ap aq 0 0 W
 have HQ4 : Hid ((ap == 0 && aq == 0) = q4) := hq4
 clear hq4
 have p5 := block_cell (j := 5) H1.out.x rfl
 have p6 := block_cell (j := 6) H1.out.x rfl
 have p10 := block_cell (j := 10) H1.out.x rfl
 have p11 := block_cell (j := 11) H1.out.x rfl
 have h1 : Hid (∀ W : World, 1 = 1 → Calls Tryz.prog 155 #[.int .u16 155, .int .u16 1] W fun r w' => r = .returned (.bool true) ∧ W = w') := fun W _ => has41 155 1 W (by omega) (by omega)
 have h2 : Hid (∀ W : World, 1 = 1 → Calls Tryz.prog 155 #[.int .u16 155, .int .u16 2] W fun r w' => r = .returned (.bool true) ∧ W = w') := fun W _ => has41 155 2 W (by omega) (by omega)
 have h4 : Hid (∀ W : World, 1 = 1 → Calls Tryz.prog 155 #[.int .u16 155, .int .u16 4] W fun r w' => r = .returned (.bool false) ∧ W = w') := fun W _ => has41 155 4 W (by omega) (by omega)
 have h8 : Hid (∀ W : World, 1 = 1 → Calls Tryz.prog 155 #[.int .u16 155, .int .u16 8] W fun r w' => r = .returned (.bool true) ∧ W = w') := fun W _ => has41 155 8 W (by omega) (by omega)
 have h16 : Hid (∀ W : World, 1 = 1 → Calls Tryz.prog 155 #[.int .u16 155, .int .u16 16] W fun r w' => r = .returned (.bool true) ∧ W = w') := fun W _ => has41 155 16 W (by omega) (by omega)
 have h32 : Hid (∀ W : World, 1 = 1 → Calls Tryz.prog 155 #[.int .u16 155, .int .u16 32] W fun r w' => r = .returned (.bool false) ∧ W = w') := fun W _ => has41 155 32 W (by omega) (by omega)
 have h64 : Hid (∀ W : World, 1 = 1 → Calls Tryz.prog 155 #[.int .u16 155, .int .u16 64] W fun r w' => r = .returned (.bool false) ∧ W = w') := fun W _ => has41 155 64 W (by omega) (by omega)
 have h128 : Hid (∀ W : World, 1 = 1 → Calls Tryz.prog 155 #[.int .u16 155, .int .u16 128] W fun r w' => r = .returned (.bool true) ∧ W = w') := fun W _ => has41 155 128 W (by omega) (by omega)
 cases q4
 ·skip
  go_enter Tryz.func161, Tryz.ntmps161
  simp only [List.append_eq, List.cons_append, List.nil_append]
  go_wp2_with (go_at_call 155; (first | (with_reducible refine (h1.out _ (by trivial)).mono ?_) | (with_reducible refine (h2.out _ (by trivial)).mono ?_) | (with_reducible refine (h4.out _ (by trivial)).mono ?_) | (with_reducible refine (h8.out _ (by trivial)).mono ?_) | (with_reducible refine (h16.out _ (by trivial)).mono ?_) | (with_reducible refine (h32.out _ (by trivial)).mono ?_) | (with_reducible refine (h64.out _ (by trivial)).mono ?_) | (with_reducible refine (h128.out _ (by trivial)).mono ?_)); rintro r wx ⟨rfl, rfl⟩)
  go_ret
  exact ⟨congrArg (fun b => Ending.returned (.bool b)) (show _ = _ from by simp only [zeroB, HQ4.out]; rfl), by first | exact H1.out.bel | exact (Below.refl _ _).alloc (Nat.le_refl _) _⟩
 by_cases t32 : pt = 0
 rotate_left
 ·have HQ32 : Hid ((pt == 0) = false) := by show _ = _; simpa using t32
  have u0 : ¬ (pt : Int) = 0 := by omega
  go_enter Tryz.func161, Tryz.ntmps161
  simp only [List.append_eq, List.cons_append, List.nil_append]
  go_wp2_with (go_at_call 155; (first | (with_reducible refine (h1.out _ (by trivial)).mono ?_) | (with_reducible refine (h2.out _ (by trivial)).mono ?_) | (with_reducible refine (h4.out _ (by trivial)).mono ?_) | (with_reducible refine (h8.out _ (by trivial)).mono ?_) | (with_reducible refine (h16.out _ (by trivial)).mono ?_) | (with_reducible refine (h32.out _ (by trivial)).mono ?_) | (with_reducible refine (h64.out _ (by trivial)).mono ?_) | (with_reducible refine (h128.out _ (by trivial)).mono ?_)); rintro r wx ⟨rfl, rfl⟩)
  go_ret
  exact ⟨congrArg (fun b => Ending.returned (.bool b)) (show _ = _ from by simp only [zeroB, HQ4.out, HQ32.out]; rfl), by first | exact H1.out.bel | exact (Below.refl _ _).alloc (Nat.le_refl _) _⟩
 have HQ32 : Hid ((pt == 0) = true) := by show _ = _; simpa using t32
 have u320 : (pt : Int) = 0 := by omega
 cases dn
 rotate_left
 ·skip
  go_enter Tryz.func161, Tryz.ntmps161
  simp only [List.append_eq, List.cons_append, List.nil_append]
  go_wp2_with (go_at_call 155; (first | (with_reducible refine (h1.out _ (by trivial)).mono ?_) | (with_reducible refine (h2.out _ (by trivial)).mono ?_) | (with_reducible refine (h4.out _ (by trivial)).mono ?_) | (with_reducible refine (h8.out _ (by trivial)).mono ?_) | (with_reducible refine (h16.out _ (by trivial)).mono ?_) | (with_reducible refine (h32.out _ (by trivial)).mono ?_) | (with_reducible refine (h64.out _ (by trivial)).mono ?_) | (with_reducible refine (h128.out _ (by trivial)).mono ?_)); rintro r wx ⟨rfl, rfl⟩)
  go_ret
  exact ⟨congrArg (fun b => Ending.returned (.bool b)) (show _ = _ from by simp only [zeroB, HQ4.out, HQ32.out]; rfl), by first | exact H1.out.bel | exact (Below.refl _ _).alloc (Nat.le_refl _) _⟩
 go_enter Tryz.func161, Tryz.ntmps161
 simp only [List.append_eq, List.cons_append, List.nil_append]
 go_wp2_with (go_at_call 155; (first | (with_reducible refine (h1.out _ (by trivial)).mono ?_) | (with_reducible refine (h2.out _ (by trivial)).mono ?_) | (with_reducible refine (h4.out _ (by trivial)).mono ?_) | (with_reducible refine (h8.out _ (by trivial)).mono ?_) | (with_reducible refine (h16.out _ (by trivial)).mono ?_) | (with_reducible refine (h32.out _ (by trivial)).mono ?_) | (with_reducible refine (h64.out _ (by trivial)).mono ?_) | (with_reducible refine (h128.out _ (by trivial)).mono ?_)); rintro r wx ⟨rfl, rfl⟩)
 go_ret
 exact ⟨congrArg (fun b => Ending.returned (.bool b)) (show _ = _ from by simp only [zeroB, HQ4.out, HQ32.out]; rfl), by first | exact H1.out.bel | exact (Below.refl _ _).alloc (Nat.le_refl _) _⟩
end Go.Proofs.YtajjnmdomabmkaaGreat.Ent
