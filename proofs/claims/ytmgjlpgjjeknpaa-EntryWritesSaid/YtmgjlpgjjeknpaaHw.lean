/-
  The program's Write, over what its Right answers.
-/
import Derived.Test.YtmgjlpgjjeknpaaHx
import Derived.Test.YtmgjlpgjjeknpaaHy
namespace Go.Proofs.Ytmgjlpgjjeknpaa
open Go.RowKit Go.Sort

/-- What is asked of the program's Right. -/
def R10 : Prop := ∀ (e : En) (ao : Option Addr) (cp : Nat) (w : World), EnOk e → e.ws.length ≤ 100 → WsAt w.heap.size (.slice ao e.ws.length cp) e.ws w → Calls Try.prog 10 #[.agg #[.int .i64 e.k, .int .u32 (e.c : Int), .int .u32 (e.n : Int), .int .u64 (e.sp : Int), .int .u32 (e.sl : Int), .int .u64 (e.ap : Int), .int .u32 (e.al : Int), .int .u64 (e.mp : Int), .int .u32 (e.ml : Int), .string (bs e.prim), .int .u8 (e.pt : Int), .bool e.dn, .slice ao e.ws.length cp]] w fun r w' => r = .returned (.bool (rightE e)) ∧ Below w.heap.size w w'
theorem u64i {k : Int} (h0 : 0 ≤ k) (h : k ≤ 9) : IntKind.u64.wrap k = k := by
  simp [IntKind.wrap, IntKind.signed, IntKind.bits]
  omega
set_option maxHeartbeats 3200000 in
set_option maxRecDepth 100000 in
theorem wp8_no (I : R10) (e : En) (ao : Option Addr) (cp : Nat) (w : World) (hr : rightE e = false) (hok : EnOk e) (hlen : e.ws.length ≤ 100) (hws : WsAt w.heap.size (.slice ao e.ws.length cp) e.ws w) :
    Calls Try.prog 8 #[.agg #[.int .i64 e.k, .int .u32 (e.c : Int), .int .u32 (e.n : Int), .int .u64 (e.sp : Int), .int .u32 (e.sl : Int), .int .u64 (e.ap : Int), .int .u32 (e.al : Int), .int .u64 (e.mp : Int), .int .u32 (e.ml : Int), .string (bs e.prim), .int .u8 (e.pt : Int), .bool e.dn, .slice ao e.ws.length cp]] w fun r w' => r = .returned (.tuple #[.string ⟨#[]⟩, .int .i64 1]) ∧ Below w.heap.size w w' := by
  have H0 : Hid _ := eb_new (e := e) hws
  obtain ⟨W1, hW1⟩ : ∃ W1, w.alloc (.cells #[.int .i64 e.k, .int .u32 (e.c : Int), .int .u32 (e.n : Int), .int .u64 (e.sp : Int), .int .u32 (e.sl : Int), .int .u64 (e.ap : Int), .int .u32 (e.al : Int), .int .u64 (e.mp : Int), .int .u32 (e.ml : Int), .string (bs e.prim), .int .u8 (e.pt : Int), .bool e.dn, .slice ao e.ws.length cp] 30) = W1 := ⟨_, rfl⟩
  obtain ⟨b, hb⟩ : ∃ b, w.heap.size = b := ⟨_, rfl⟩
  have H1 : Hid (Eb w b e ao cp W1) := by rw [← hb, ← hW1]; exact H0.out
  have CR : Hid (1 = 1 → Calls Try.prog 10 #[.agg #[.int .i64 e.k, .int .u32 (e.c : Int), .int .u32 (e.n : Int), .int .u64 (e.sp : Int), .int .u32 (e.sl : Int), .int .u64 (e.ap : Int), .int .u32 (e.al : Int), .int .u64 (e.mp : Int), .int .u32 (e.ml : Int), .string (bs e.prim), .int .u8 (e.pt : Int), .bool e.dn, .slice ao e.ws.length cp]] W1 fun r w' => r = .returned (.bool false) ∧ Below W1.heap.size W1 w') := fun _ => by
    have := I e ao cp W1 hok hlen H1.out.wsx
    rw [hr] at this
    exact this
  have p0 : W1.cell? ⟨b, 0, none⟩ = some (.int .i64 e.k) := block_cell H1.out.x rfl
  have p1 : W1.cell? ⟨b, 1, none⟩ = some (.int .u32 (e.c : Int)) := block_cell H1.out.x rfl
  have p2 : W1.cell? ⟨b, 2, none⟩ = some (.int .u32 (e.n : Int)) := block_cell H1.out.x rfl
  have p3 : W1.cell? ⟨b, 3, none⟩ = some (.int .u64 (e.sp : Int)) := block_cell H1.out.x rfl
  have p4 : W1.cell? ⟨b, 4, none⟩ = some (.int .u32 (e.sl : Int)) := block_cell H1.out.x rfl
  have p5 : W1.cell? ⟨b, 5, none⟩ = some (.int .u64 (e.ap : Int)) := block_cell H1.out.x rfl
  have p6 : W1.cell? ⟨b, 6, none⟩ = some (.int .u32 (e.al : Int)) := block_cell H1.out.x rfl
  have p7 : W1.cell? ⟨b, 7, none⟩ = some (.int .u64 (e.mp : Int)) := block_cell H1.out.x rfl
  have p8 : W1.cell? ⟨b, 8, none⟩ = some (.int .u32 (e.ml : Int)) := block_cell H1.out.x rfl
  have p9 : W1.cell? ⟨b, 9, none⟩ = some (.string (bs e.prim)) := block_cell H1.out.x rfl
  have p10 : W1.cell? ⟨b, 10, none⟩ = some (.int .u8 (e.pt : Int)) := block_cell H1.out.x rfl
  have p11 : W1.cell? ⟨b, 11, none⟩ = some (.bool e.dn) := block_cell H1.out.x rfl
  have p12 : W1.cell? ⟨b, 12, none⟩ = some (.slice ao e.ws.length cp) := block_cell H1.out.x rfl
  clear H0 hws hr hok hlen
  go_enter Try.func8, Try.ntmps8
  go_wp2_with fail
  refine (CR.out (by simp)).mono ?_
  rintro r w1 ⟨rfl, hb1⟩
  have Ha : Hid (Eb w b e ao cp w1) := H1.out.on hb1
  clear p0 p1 p2 p3 p4 p5 p6 p7 p8 p9 p10 p11 p12 hb1 hb hW1 CR H1
  go_wp2_with fail
  go_ret2
  exact ⟨rfl, Ha.out.bel⟩
set_option maxHeartbeats 3200000 in
set_option maxRecDepth 100000 in
theorem wp8_ok (I : R10) (k : Nat) (c n sp sq ap aq mp mq : Nat) (prim : List UInt8) (pt : Nat) (dn : Bool) (ws : List Wr) (F1 F2 : List UInt8) (ao : Option Addr) (cp : Nat) (w : World) (hr : rightE (En.mk (k : Int) c n sp sq ap aq mp mq prim pt dn ws) = true) (hok : EnOk (En.mk (k : Int) c n sp sq ap aq mp mq prim pt dn ws)) (hlen : ws.length ≤ 100) (hws : WsAt w.heap.size (.slice ao ws.length cp) ws w)
    (hF : numForm k ++ F1 ++ F2 = formE (En.mk (k : Int) c n sp sq ap aq mp mq prim pt dn ws)) (l1 : F1.length ≤ 100)
    (CH : ∀ (B pb : Nat) (L : List UInt8) (W : World), WsAt B (.slice ao ws.length cp) ws W → B ≤ pb → WrAt pb L W → L.length ≤ 200 → Calls Try.prog 16 #[.pointer (some ⟨pb, 0, none⟩), .agg #[.int .i64 (k : Int), .int .u32 (c : Int), .int .u32 (n : Int), .int .u64 (sp : Int), .int .u32 (sq : Int), .int .u64 (ap : Int), .int .u32 (aq : Int), .int .u64 (mp : Int), .int .u32 (mq : Int), .string (bs prim), .int .u8 (pt : Int), .bool dn, .slice ao ws.length cp], .int .u16 (mask (k : Int) : Int)] W fun r w' => r = .returned (.tuple #[]) ∧ WrAt pb (L ++ F1) w' ∧ KeptW pb W w')
    (CT : ∀ (B pb : Nat) (L : List UInt8) (W : World), WsAt B (.slice ao ws.length cp) ws W → B ≤ pb → WrAt pb L W → L.length ≤ 200 → Calls Try.prog 17 #[.pointer (some ⟨pb, 0, none⟩), .agg #[.int .i64 (k : Int), .int .u32 (c : Int), .int .u32 (n : Int), .int .u64 (sp : Int), .int .u32 (sq : Int), .int .u64 (ap : Int), .int .u32 (aq : Int), .int .u64 (mp : Int), .int .u32 (mq : Int), .string (bs prim), .int .u8 (pt : Int), .bool dn, .slice ao ws.length cp], .int .u16 (mask (k : Int) : Int)] W fun r w' => r = .returned (.tuple #[]) ∧ WrAt pb (L ++ F2) w' ∧ KeptW pb W w') :
    Calls Try.prog 8 #[.agg #[.int .i64 (k : Int), .int .u32 (c : Int), .int .u32 (n : Int), .int .u64 (sp : Int), .int .u32 (sq : Int), .int .u64 (ap : Int), .int .u32 (aq : Int), .int .u64 (mp : Int), .int .u32 (mq : Int), .string (bs prim), .int .u8 (pt : Int), .bool dn, .slice ao ws.length cp]] w fun r w' => r = .returned (.tuple #[.string (bs (formE (En.mk (k : Int) c n sp sq ap aq mp mq prim pt dn ws))), .int .i64 0]) ∧ Below w.heap.size w w' := by
  have H0 : Hid _ := eb_new (e := (En.mk (k : Int) c n sp sq ap aq mp mq prim pt dn ws)) hws
  have hk9 : (1 : Int) ≤ (k : Int) ∧ (k : Int) ≤ 9 := (rightE_iff hr).1
  have x1 := u64w (n := k) (by omega)
  have HKN : Hid (k ≤ 9) := by show _ ≤ _; omega
  obtain ⟨W1, hW1⟩ : ∃ W1, w.alloc (.cells #[.int .i64 (k : Int), .int .u32 (c : Int), .int .u32 (n : Int), .int .u64 (sp : Int), .int .u32 (sq : Int), .int .u64 (ap : Int), .int .u32 (aq : Int), .int .u64 (mp : Int), .int .u32 (mq : Int), .string (bs prim), .int .u8 (pt : Int), .bool dn, .slice ao ws.length cp] 30) = W1 := ⟨_, rfl⟩
  obtain ⟨b, hb⟩ : ∃ b, w.heap.size = b := ⟨_, rfl⟩
  have H1 : Hid (Eb w b (En.mk (k : Int) c n sp sq ap aq mp mq prim pt dn ws) ao cp W1) := by rw [← hb, ← hW1]; exact H0.out
  have CR : Hid (1 = 1 → Calls Try.prog 10 #[.agg #[.int .i64 (k : Int), .int .u32 (c : Int), .int .u32 (n : Int), .int .u64 (sp : Int), .int .u32 (sq : Int), .int .u64 (ap : Int), .int .u32 (aq : Int), .int .u64 (mp : Int), .int .u32 (mq : Int), .string (bs prim), .int .u8 (pt : Int), .bool dn, .slice ao ws.length cp]] W1 fun r w' => r = .returned (.bool true) ∧ Below W1.heap.size W1 w') := fun _ => by
    have := I (En.mk (k : Int) c n sp sq ap aq mp mq prim pt dn ws) ao cp W1 hok hlen H1.out.wsx
    rw [hr] at this
    exact this
  have HCH : Hid _ := CH
  have HCT : Hid _ := CT
  have HF : Hid _ := hF
  have HL1 : Hid (F1.length ≤ 100) := l1
  have p0 : W1.cell? ⟨b, 0, none⟩ = some (.int .i64 (k : Int)) := block_cell H1.out.x rfl
  have p1 : W1.cell? ⟨b, 1, none⟩ = some (.int .u32 (c : Int)) := block_cell H1.out.x rfl
  have p2 : W1.cell? ⟨b, 2, none⟩ = some (.int .u32 (n : Int)) := block_cell H1.out.x rfl
  have p3 : W1.cell? ⟨b, 3, none⟩ = some (.int .u64 (sp : Int)) := block_cell H1.out.x rfl
  have p4 : W1.cell? ⟨b, 4, none⟩ = some (.int .u32 (sq : Int)) := block_cell H1.out.x rfl
  have p5 : W1.cell? ⟨b, 5, none⟩ = some (.int .u64 (ap : Int)) := block_cell H1.out.x rfl
  have p6 : W1.cell? ⟨b, 6, none⟩ = some (.int .u32 (aq : Int)) := block_cell H1.out.x rfl
  have p7 : W1.cell? ⟨b, 7, none⟩ = some (.int .u64 (mp : Int)) := block_cell H1.out.x rfl
  have p8 : W1.cell? ⟨b, 8, none⟩ = some (.int .u32 (mq : Int)) := block_cell H1.out.x rfl
  have p9 : W1.cell? ⟨b, 9, none⟩ = some (.string (bs prim)) := block_cell H1.out.x rfl
  have p10 : W1.cell? ⟨b, 10, none⟩ = some (.int .u8 (pt : Int)) := block_cell H1.out.x rfl
  have p11 : W1.cell? ⟨b, 11, none⟩ = some (.bool dn) := block_cell H1.out.x rfl
  have p12 : W1.cell? ⟨b, 12, none⟩ = some (.slice ao ws.length cp) := block_cell H1.out.x rfl
  clear H0 hws hr hok hlen CH CT hF l1 hk9
  go_enter Try.func8, Try.ntmps8
  go_wp2_with fail
  refine (CR.out (by simp)).mono ?_
  rintro r w1 ⟨rfl, hb1⟩
  have Ha : Hid (Eb w b (En.mk (k : Int) c n sp sq ap aq mp mq prim pt dn ws) ao cp w1) := H1.out.on hb1
  clear p0 p1 p2 p3 p4 p5 p6 p7 p8 p9 p10 p11 p12 hb1 hb hW1 CR H1
  have HN0 : Hid _ := wz_new Ha.out
  go_upto_region 4 with fail
  obtain ⟨y0, hy0⟩ : ∃ y0, w1.alloc (.cells #[.slice none 0 0] 47) = y0 := ⟨_, rfl⟩
  obtain ⟨pb, hpb⟩ : ∃ pb, w1.heap.size = pb := ⟨_, rfl⟩
  have HZ0 : Hid (Wz w b pb (En.mk (k : Int) c n sp sq ap aq mp mq prim pt dn ws) ao cp [] y0) := by rw [← hy0, ← hpb]; exact HN0.out
  rw [hy0, hpb]
  clear HN0 hy0 hpb Ha
  have C : Hid (1 = 1 → Calls Try.prog 14 #[.pointer (some ⟨pb, 0, none⟩), .int .u64 (k : Int)] y0 fun r w' => r = .returned (.tuple #[]) ∧ WrAt pb ([] ++ numForm k) w' ∧ KeptW pb y0 w') := fun _ => num10 pb [] k y0 (by have := HKN.out; omega) HZ0.out.wr (by simp)
  have p0 : y0.cell? ⟨b, 0, none⟩ = some (.int .i64 (k : Int)) := block_cell HZ0.out.eb.x rfl
  go_wp2_with fail
  refine (C.out (by simp)).mono ?_
  rintro r y1 ⟨rfl, hw, hk⟩
  have HZ1 : Hid (Wz w b pb (En.mk (k : Int) c n sp sq ap aq mp mq prim pt dn ws) ao cp ([] ++ numForm k) y1) := HZ0.out.go hw hk
  clear C p0 hw hk HZ0 x1
  have C : Hid (1 = 1 → Calls Try.prog 15 #[.int .i64 (k : Int)] y1 fun r w' => r = .returned (.int .u16 (mask (k : Int) : Int)) ∧ y1 = w') := fun _ => fields15 (k : Int) y1
  have p0 : y1.cell? ⟨b, 0, none⟩ = some (.int .i64 (k : Int)) := block_cell HZ1.out.eb.x rfl
  go_wp2_with fail
  refine (C.out (by simp)).mono ?_
  rintro r wx ⟨rfl, rfl⟩
  clear C p0
  have C : Hid (1 = 1 → Calls Try.prog 16 #[.pointer (some ⟨pb, 0, none⟩), .agg #[.int .i64 (k : Int), .int .u32 (c : Int), .int .u32 (n : Int), .int .u64 (sp : Int), .int .u32 (sq : Int), .int .u64 (ap : Int), .int .u32 (aq : Int), .int .u64 (mp : Int), .int .u32 (mq : Int), .string (bs prim), .int .u8 (pt : Int), .bool dn, .slice ao ws.length cp], .int .u16 (mask (k : Int) : Int)] y1 fun r w' => r = .returned (.tuple #[]) ∧ WrAt pb (([] ++ numForm k) ++ F1) w' ∧ KeptW pb y1 w') := fun _ => HCH.out w.heap.size pb _ y1 HZ1.out.eb.ws HZ1.out.le HZ1.out.wr (by rw [List.nil_append]; have := nf_len (n := k) (by have := HKN.out; omega); omega)
  have p0 : y1.cell? ⟨b, 0, none⟩ = some (.int .i64 (k : Int)) := block_cell HZ1.out.eb.x rfl
  have p1 : y1.cell? ⟨b, 1, none⟩ = some (.int .u32 (c : Int)) := block_cell HZ1.out.eb.x rfl
  have p2 : y1.cell? ⟨b, 2, none⟩ = some (.int .u32 (n : Int)) := block_cell HZ1.out.eb.x rfl
  have p3 : y1.cell? ⟨b, 3, none⟩ = some (.int .u64 (sp : Int)) := block_cell HZ1.out.eb.x rfl
  have p4 : y1.cell? ⟨b, 4, none⟩ = some (.int .u32 (sq : Int)) := block_cell HZ1.out.eb.x rfl
  have p5 : y1.cell? ⟨b, 5, none⟩ = some (.int .u64 (ap : Int)) := block_cell HZ1.out.eb.x rfl
  have p6 : y1.cell? ⟨b, 6, none⟩ = some (.int .u32 (aq : Int)) := block_cell HZ1.out.eb.x rfl
  have p7 : y1.cell? ⟨b, 7, none⟩ = some (.int .u64 (mp : Int)) := block_cell HZ1.out.eb.x rfl
  have p8 : y1.cell? ⟨b, 8, none⟩ = some (.int .u32 (mq : Int)) := block_cell HZ1.out.eb.x rfl
  have p9 : y1.cell? ⟨b, 9, none⟩ = some (.string (bs prim)) := block_cell HZ1.out.eb.x rfl
  have p10 : y1.cell? ⟨b, 10, none⟩ = some (.int .u8 (pt : Int)) := block_cell HZ1.out.eb.x rfl
  have p11 : y1.cell? ⟨b, 11, none⟩ = some (.bool dn) := block_cell HZ1.out.eb.x rfl
  have p12 : y1.cell? ⟨b, 12, none⟩ = some (.slice ao ws.length cp) := block_cell HZ1.out.eb.x rfl
  go_wp2_with fail
  refine (C.out (by simp)).mono ?_
  rintro r y2 ⟨rfl, hw, hk⟩
  have HZ2 : Hid (Wz w b pb (En.mk (k : Int) c n sp sq ap aq mp mq prim pt dn ws) ao cp ([] ++ numForm k ++ F1) y2) := HZ1.out.go hw hk
  clear C hw hk HZ1 HCH p0 p1 p2 p3 p4 p5 p6 p7 p8 p9 p10 p11 p12
  have C : Hid (1 = 1 → Calls Try.prog 17 #[.pointer (some ⟨pb, 0, none⟩), .agg #[.int .i64 (k : Int), .int .u32 (c : Int), .int .u32 (n : Int), .int .u64 (sp : Int), .int .u32 (sq : Int), .int .u64 (ap : Int), .int .u32 (aq : Int), .int .u64 (mp : Int), .int .u32 (mq : Int), .string (bs prim), .int .u8 (pt : Int), .bool dn, .slice ao ws.length cp], .int .u16 (mask (k : Int) : Int)] y2 fun r w' => r = .returned (.tuple #[]) ∧ WrAt pb (([] ++ numForm k ++ F1) ++ F2) w' ∧ KeptW pb y2 w') := fun _ => HCT.out w.heap.size pb _ y2 HZ2.out.eb.ws HZ2.out.le HZ2.out.wr (by rw [List.nil_append, List.length_append]; have := nf_len (n := k) (by have := HKN.out; omega); have := HL1.out; omega)
  have p0 : y2.cell? ⟨b, 0, none⟩ = some (.int .i64 (k : Int)) := block_cell HZ2.out.eb.x rfl
  have p1 : y2.cell? ⟨b, 1, none⟩ = some (.int .u32 (c : Int)) := block_cell HZ2.out.eb.x rfl
  have p2 : y2.cell? ⟨b, 2, none⟩ = some (.int .u32 (n : Int)) := block_cell HZ2.out.eb.x rfl
  have p3 : y2.cell? ⟨b, 3, none⟩ = some (.int .u64 (sp : Int)) := block_cell HZ2.out.eb.x rfl
  have p4 : y2.cell? ⟨b, 4, none⟩ = some (.int .u32 (sq : Int)) := block_cell HZ2.out.eb.x rfl
  have p5 : y2.cell? ⟨b, 5, none⟩ = some (.int .u64 (ap : Int)) := block_cell HZ2.out.eb.x rfl
  have p6 : y2.cell? ⟨b, 6, none⟩ = some (.int .u32 (aq : Int)) := block_cell HZ2.out.eb.x rfl
  have p7 : y2.cell? ⟨b, 7, none⟩ = some (.int .u64 (mp : Int)) := block_cell HZ2.out.eb.x rfl
  have p8 : y2.cell? ⟨b, 8, none⟩ = some (.int .u32 (mq : Int)) := block_cell HZ2.out.eb.x rfl
  have p9 : y2.cell? ⟨b, 9, none⟩ = some (.string (bs prim)) := block_cell HZ2.out.eb.x rfl
  have p10 : y2.cell? ⟨b, 10, none⟩ = some (.int .u8 (pt : Int)) := block_cell HZ2.out.eb.x rfl
  have p11 : y2.cell? ⟨b, 11, none⟩ = some (.bool dn) := block_cell HZ2.out.eb.x rfl
  have p12 : y2.cell? ⟨b, 12, none⟩ = some (.slice ao ws.length cp) := block_cell HZ2.out.eb.x rfl
  go_wp2_with fail
  refine (C.out (by simp)).mono ?_
  rintro r y3 ⟨rfl, hw, hk⟩
  have HZ3 : Hid (Wz w b pb (En.mk (k : Int) c n sp sq ap aq mp mq prim pt dn ws) ao cp ([] ++ numForm k ++ F1 ++ F2) y3) := HZ2.out.go hw hk
  clear C hw hk HZ2 HCT p0 p1 p2 p3 p4 p5 p6 p7 p8 p9 p10 p11 p12
  rw [List.nil_append, HF.out] at HZ3
  have C : Hid (1 = 1 → Calls Try.prog 18 #[.pointer (some ⟨pb, 0, none⟩)] y3 fun r w' => r = .returned (.string (bs (formE (En.mk (k : Int) c n sp sq ap aq mp mq prim pt dn ws)))) ∧ y3 = w') := fun _ => bytes18 pb (formE (En.mk (k : Int) c n sp sq ap aq mp mq prim pt dn ws)) y3 HZ3.out.wr
  go_wp2_with fail
  refine (C.out (by simp)).mono ?_
  rintro r wx ⟨rfl, rfl⟩
  go_wp2_with fail
  go_ret2
  exact ⟨rfl, HZ3.out.eb.bel⟩
set_option maxHeartbeats 800000 in
theorem wp8 (I : R10) (e : En) (ao : Option Addr) (cp : Nat) (w : World) (hok : EnOk e) (hlen : e.ws.length ≤ 100) (hws : WsAt w.heap.size (.slice ao e.ws.length cp) e.ws w) :
    Calls Try.prog 8 #[.agg #[.int .i64 e.k, .int .u32 (e.c : Int), .int .u32 (e.n : Int), .int .u64 (e.sp : Int), .int .u32 (e.sl : Int), .int .u64 (e.ap : Int), .int .u32 (e.al : Int), .int .u64 (e.mp : Int), .int .u32 (e.ml : Int), .string (bs e.prim), .int .u8 (e.pt : Int), .bool e.dn, .slice ao e.ws.length cp]] w fun r w' => r = .returned (.tuple #[.string (bs (writeE e).1), .int .i64 (writeE e).2]) ∧ Below w.heap.size w w' := by
  unfold writeE
  cases hc : rightE e with
  | false => exact wp8_no I e ao cp w hc hok hlen hws
  | true =>
    have hk := wk_of hc hok.rg
    obtain ⟨⟨h1, h9⟩, hbare, _⟩ := rightE_iff hc
    obtain ⟨k, c, n, sp, sq, ap, aq, mp, mq, prim, pt, dn, ws⟩ := e
    have hcase : k = 1 ∨ k = 2 ∨ k = 3 ∨ k = 4 ∨ k = 5 ∨ k = 6 ∨ k = 7 ∨ k = 8 ∨ k = 9 := by
      simp only at h1 h9
      omega
    have a1 : (numForm c).length ≤ 9 := nf_len (by have := hk.c; simp only at this; omega)
    have a2 : (numForm n).length ≤ 9 := nf_len (by have := hk.n; simp only at this; omega)
    have a3 : (stampForm sp sq).length ≤ 18 := stf_len hk.sp hk.sq
    have a4 : (stampForm ap aq).length ≤ 18 := stf_len hk.ap hk.aq
    have a5 : (stampForm mp mq).length ≤ 18 := stf_len hk.mp hk.mq
    rcases hcase with rfl | rfl | rfl | rfl | rfl | rfl | rfl | rfl | rfl
    · obtain rfl : ws = [] := by
        have := congrArg En.ws hbare
        simpa [bareE, hasWs] using this
      refine wp8_ok I 1 c n sp sq ap aq mp mq prim pt dn [] ((stampForm ap aq)) ([] : List UInt8) ao cp w hc hok hlen hws (by simp [formE, byForm, stForm, midForm, ptForm, dnForm, wsForm, hasBy, hasSt, hasAt, hasPt]) (by (try simp only [List.length_append]); omega) ?_ ?_
      · intro B pb L W h1 h2 h3 h4; exact ph16_4 1 c n sp sq ap aq mp mq prim pt dn [] ao cp W B pb L hk h1 h2 h3 h4
      · intro B pb L W h1 h2 h3 h4; exact pr17_4 1 c n sp sq ap aq mp mq prim pt dn ao cp W B pb L hk h1 h2 h3 h4
    · refine wp8_ok I 2 c n sp sq ap aq mp mq prim pt dn ws (((numForm c ++ numForm n) ++ stampForm sp sq ++ stampForm mp mq)) (textForm prim ++ numForm ws.length ++ wsForm ws) ao cp w hc hok hlen hws (by simp [formE, byForm, stForm, midForm, ptForm, dnForm, hasBy, hasSt, hasPt]) (by (try simp only [List.length_append]); omega) ?_ ?_
      · intro B pb L W h1 h2 h3 h4; exact ph16_155 2 c n sp sq ap aq mp mq prim pt dn ws ao cp W B pb L hk h1 h2 h3 h4
      · intro B pb L W h1 h2 h3 h4; exact pr17_155 2 c n sp sq ap aq mp mq prim pt dn ws ao cp W B pb L hk h1 h2 h3 h4
    · obtain rfl : ws = [] := by
        have := congrArg En.ws hbare
        simpa [bareE, hasWs] using this
      refine wp8_ok I 3 c n sp sq ap aq mp mq prim pt dn [] (((numForm c ++ numForm n) ++ stampForm sp sq ++ stampForm ap aq)) (numForm pt) ao cp w hc hok hlen hws (by simp [formE, byForm, stForm, midForm, ptForm, dnForm, wsForm, hasBy, hasSt, hasAt, hasPt]) (by (try simp only [List.length_append]); omega) ?_ ?_
      · intro B pb L W h1 h2 h3 h4; exact ph16_551 3 c n sp sq ap aq mp mq prim pt dn [] ao cp W B pb L hk h1 h2 h3 h4
      · intro B pb L W h1 h2 h3 h4; exact pr17_551 3 c n sp sq ap aq mp mq prim pt dn ao cp W B pb L hk h1 h2 h3 h4
    · obtain rfl : ws = [] := by
        have := congrArg En.ws hbare
        simpa [bareE, hasWs] using this
      refine wp8_ok I 4 c n sp sq ap aq mp mq prim pt dn [] (((numForm c ++ numForm n) ++ stampForm ap aq)) ([] : List UInt8) ao cp w hc hok hlen hws (by simp [formE, byForm, stForm, midForm, ptForm, dnForm, wsForm, hasBy, hasSt, hasAt, hasPt]) (by (try simp only [List.length_append]); omega) ?_ ?_
      · intro B pb L W h1 h2 h3 h4; exact ph16_517 4 c n sp sq ap aq mp mq prim pt dn [] ao cp W B pb L hk h1 h2 h3 h4
      · intro B pb L W h1 h2 h3 h4; exact pr17_517 4 c n sp sq ap aq mp mq prim pt dn ao cp W B pb L hk h1 h2 h3 h4
    · obtain rfl : ws = [] := by
        have := congrArg En.ws hbare
        simpa [bareE, hasWs] using this
      refine wp8_ok I 5 c n sp sq ap aq mp mq prim pt dn [] (((numForm c ++ numForm n) ++ stampForm sp sq)) ([] : List UInt8) ao cp w hc hok hlen hws (by simp [formE, byForm, stForm, midForm, ptForm, dnForm, wsForm, hasBy, hasSt, hasAt, hasPt]) (by (try simp only [List.length_append]); omega) ?_ ?_
      · intro B pb L W h1 h2 h3 h4; exact ph16_3 5 c n sp sq ap aq mp mq prim pt dn [] ao cp W B pb L hk h1 h2 h3 h4
      · intro B pb L W h1 h2 h3 h4; exact pr17_3 5 c n sp sq ap aq mp mq prim pt dn ao cp W B pb L hk h1 h2 h3 h4
    · obtain rfl : ws = [] := by
        have := congrArg En.ws hbare
        simpa [bareE, hasWs] using this
      refine wp8_ok I 6 c n sp sq ap aq mp mq prim pt dn [] ((stampForm ap aq)) ([] : List UInt8) ao cp w hc hok hlen hws (by simp [formE, byForm, stForm, midForm, ptForm, dnForm, wsForm, hasBy, hasSt, hasAt, hasPt]) (by (try simp only [List.length_append]); omega) ?_ ?_
      · intro B pb L W h1 h2 h3 h4; exact ph16_4 6 c n sp sq ap aq mp mq prim pt dn [] ao cp W B pb L hk h1 h2 h3 h4
      · intro B pb L W h1 h2 h3 h4; exact pr17_4 6 c n sp sq ap aq mp mq prim pt dn ao cp W B pb L hk h1 h2 h3 h4
    · obtain rfl : ws = [] := by
        have := congrArg En.ws hbare
        simpa [bareE, hasWs] using this
      refine wp8_ok I 7 c n sp sq ap aq mp mq prim pt dn [] (((numForm c ++ numForm n))) ([] : List UInt8) ao cp w hc hok hlen hws (by simp [formE, byForm, stForm, midForm, ptForm, dnForm, wsForm, hasBy, hasSt, hasAt, hasPt]) (by (try simp only [List.length_append]); omega) ?_ ?_
      · intro B pb L W h1 h2 h3 h4; exact ph16_1 7 c n sp sq ap aq mp mq prim pt dn [] ao cp W B pb L hk h1 h2 h3 h4
      · intro B pb L W h1 h2 h3 h4; exact pr17_1 7 c n sp sq ap aq mp mq prim pt dn ao cp W B pb L hk h1 h2 h3 h4
    · refine wp8_ok I 8 c n sp sq ap aq mp mq prim pt dn ws (((numForm c ++ numForm n) ++ stampForm ap aq)) (wsForm ws) ao cp w hc hok hlen hws (by simp [formE, byForm, stForm, midForm, ptForm, dnForm, hasBy, hasSt, hasAt, hasPt]) (by (try simp only [List.length_append]); omega) ?_ ?_
      · intro B pb L W h1 h2 h3 h4; exact ph16_389 8 c n sp sq ap aq mp mq prim pt dn ws ao cp W B pb L hk h1 h2 h3 h4
      · intro B pb L W h1 h2 h3 h4; exact pr17_389 8 c n sp sq ap aq mp mq prim pt dn ws ao cp W B pb L hk h1 h2 h3 h4
    · obtain rfl : ws = [] := by
        have := congrArg En.ws hbare
        simpa [bareE, hasWs] using this
      refine wp8_ok I 9 c n sp sq ap aq mp mq prim pt dn [] (((numForm c ++ numForm n) ++ stampForm sp sq ++ stampForm ap aq)) (numForm pt ++ flagForm dn) ao cp w hc hok hlen hws (by simp [formE, byForm, stForm, midForm, ptForm, dnForm, wsForm, hasBy, hasSt, hasAt, hasPt]) (by (try simp only [List.length_append]); omega) ?_ ?_
      · intro B pb L W h1 h2 h3 h4; exact ph16_103 9 c n sp sq ap aq mp mq prim pt dn [] ao cp W B pb L hk h1 h2 h3 h4
      · intro B pb L W h1 h2 h3 h4; exact pr17_103 9 c n sp sq ap aq mp mq prim pt dn ao cp W B pb L hk h1 h2 h3 h4
end Go.Proofs.Ytmgjlpgjjeknpaa
