/-
  The program's putHead.
-/
import Derived.Test.YtmgjlpgjjeknpaaHp
namespace Go.Proofs.Ytmgjlpgjjeknpaa
open Go.RowKit Go.Sort

set_option maxHeartbeats 3200000 in
set_option maxRecDepth 100000 in
theorem ph16_1 (k : Int) (c n sp sq ap aq mp mq : Nat) (prim : List UInt8) (pt : Nat) (dn : Bool) (ws : List Wr) (ao : Option Addr) (cp : Nat) (w : World) (B pb : Nat) (L : List UInt8) (hk : Wk c n sp sq ap aq mp mq prim pt ws) (hws : WsAt B (.slice ao ws.length cp) ws w) (hB : B ≤ pb) (hw : WrAt pb L w) (hL : L.length ≤ 200) :
    Calls Try.prog 16 #[.pointer (some ⟨pb, 0, none⟩), .agg #[.int .i64 k, .int .u32 (c : Int), .int .u32 (n : Int), .int .u64 (sp : Int), .int .u32 (sq : Int), .int .u64 (ap : Int), .int .u32 (aq : Int), .int .u64 (mp : Int), .int .u32 (mq : Int), .string (bs prim), .int .u8 (pt : Int), .bool dn, .slice ao ws.length cp], .int .u16 1] w fun r w' => r = .returned (.tuple #[]) ∧ WrAt pb (L ++ ((numForm c ++ numForm n))) w' ∧ KeptW pb w w' := by
  have H0 : Hid _ := pz_new (e := (En.mk k c n sp sq ap aq mp mq prim pt dn ws)) hw hws hB
  obtain ⟨ao', cap, he, hla, hma⟩ := hws.shape
  simp only [Value.slice.injEq, true_and] at he
  obtain ⟨rfl, rfl⟩ := he
  have hL1 : ws.length < 9223372036854775808 := by omega
  obtain ⟨W1, hW1⟩ : ∃ W1, w.alloc (.cells #[.int .i64 k, .int .u32 (c : Int), .int .u32 (n : Int), .int .u64 (sp : Int), .int .u32 (sq : Int), .int .u64 (ap : Int), .int .u32 (aq : Int), .int .u64 (mp : Int), .int .u32 (mq : Int), .string (bs prim), .int .u8 (pt : Int), .bool dn, .slice ao ws.length cp] 30) = W1 := ⟨_, rfl⟩
  obtain ⟨b, hb⟩ : ∃ b, w.heap.size = b := ⟨_, rfl⟩
  have HZ0 : Hid (Pz w B b pb (En.mk k c n sp sq ap aq mp mq prim pt dn ws) ao cp L W1) := by rw [← hb, ← hW1]; exact H0.out
  have HK : Hid _ := hk
  clear H0 hws hla hma hk hw hB
  go_enter Try.func16, Try.ntmps16
  go_upto_region 1 with fail
  clear hb hW1
  obtain ⟨M0, hM0⟩ : ∃ M0 : List UInt8, L = M0 := ⟨_, rfl⟩
  have HM0 : Hid (L = M0) := hM0
  have lm0 : M0.length ≤ 200 := by rw [← hM0]; exact hL
  rw [hM0] at HZ0
  clear hM0 hL
  have C : Hid (∀ W : World, 1 = 1 → Calls Try.prog 41 #[.int .u16 1, .int .u16 1] W fun r w' => r = .returned (.bool true) ∧ W = w') := fun W _ => has41 1 1 W (by omega) (by omega)
  go_wp2_with fail
  refine (C.out _ (by trivial)).mono ?_
  rintro r wx ⟨rfl, rfl⟩
  clear C
  have C : Hid (1 = 1 → Calls Try.prog 14 #[.pointer (some ⟨pb, 0, none⟩), .int .u64 (c : Int)] W1 fun r w' => r = .returned (.tuple #[]) ∧ WrAt pb (M0 ++ numForm c) w' ∧ KeptW pb W1 w') := fun _ => num10 pb M0 c W1 (by have := HK.out.c; omega) HZ0.out.wr (by omega)
  have p1 : W1.cell? ⟨b, 1, none⟩ = some (.int .u32 (c : Int)) := block_cell HZ0.out.x rfl
  have x1 := u64w (n := c) (by have := HK.out.c; omega)
  go_wp2_with fail
  refine (C.out (by simp)).mono ?_
  rintro r y1 ⟨rfl, hw, hk⟩
  have HX : Hid (Pz w B b pb (En.mk k c n sp sq ap aq mp mq prim pt dn ws) ao cp (M0 ++ numForm c) y1) := HZ0.out.go hw hk
  have lf : (numForm c).length ≤ 9 := nf_len (by have := HK.out.c; omega)
  obtain ⟨M1, hL⟩ : ∃ q, M0 ++ numForm c = q := ⟨_, rfl⟩
  have lm1 : M1.length ≤ 209 := by rw [← hL, List.length_append]; omega
  have HM1 : Hid (M0 ++ numForm c = M1) := hL
  rw [hL] at HX
  have HZ1 : Hid (Pz w B b pb (En.mk k c n sp sq ap aq mp mq prim pt dn ws) ao cp M1 y1) := HX.out
  clear hw hk HX C lf hL HZ0 lm0 p1  x1
  have C : Hid (1 = 1 → Calls Try.prog 14 #[.pointer (some ⟨pb, 0, none⟩), .int .u64 (n : Int)] y1 fun r w' => r = .returned (.tuple #[]) ∧ WrAt pb (M1 ++ numForm n) w' ∧ KeptW pb y1 w') := fun _ => num10 pb M1 n y1 (by have := HK.out.n; omega) HZ1.out.wr (by omega)
  have p2 : y1.cell? ⟨b, 2, none⟩ = some (.int .u32 (n : Int)) := block_cell HZ1.out.x rfl
  have x1 := u64w (n := n) (by have := HK.out.n; omega)
  go_wp2_with fail
  refine (C.out (by simp)).mono ?_
  rintro r y2 ⟨rfl, hw, hk⟩
  have HX : Hid (Pz w B b pb (En.mk k c n sp sq ap aq mp mq prim pt dn ws) ao cp (M1 ++ numForm n) y2) := HZ1.out.go hw hk
  have lf : (numForm n).length ≤ 9 := nf_len (by have := HK.out.n; omega)
  obtain ⟨M2, hL⟩ : ∃ q, M1 ++ numForm n = q := ⟨_, rfl⟩
  have lm2 : M2.length ≤ 218 := by rw [← hL, List.length_append]; omega
  have HM2 : Hid (M1 ++ numForm n = M2) := hL
  rw [hL] at HX
  have HZ2 : Hid (Pz w B b pb (En.mk k c n sp sq ap aq mp mq prim pt dn ws) ao cp M2 y2) := HX.out
  clear hw hk HX C lf hL HZ1 lm1 p2  x1
  have C : Hid (∀ W : World, 1 = 1 → Calls Try.prog 41 #[.int .u16 1, .int .u16 2] W fun r w' => r = .returned (.bool false) ∧ W = w') := fun W _ => has41 1 2 W (by omega) (by omega)
  go_wp2_with fail
  refine (C.out _ (by trivial)).mono ?_
  rintro r wx ⟨rfl, rfl⟩
  clear C
  have C : Hid (∀ W : World, 1 = 1 → Calls Try.prog 41 #[.int .u16 1, .int .u16 4] W fun r w' => r = .returned (.bool false) ∧ W = w') := fun W _ => has41 1 4 W (by omega) (by omega)
  go_wp2_with fail
  refine (C.out _ (by trivial)).mono ?_
  rintro r wx ⟨rfl, rfl⟩
  clear C
  have C : Hid (∀ W : World, 1 = 1 → Calls Try.prog 41 #[.int .u16 1, .int .u16 8] W fun r w' => r = .returned (.bool false) ∧ W = w') := fun W _ => has41 1 8 W (by omega) (by omega)
  go_wp2_with fail
  refine (C.out _ (by trivial)).mono ?_
  rintro r wx ⟨rfl, rfl⟩
  clear C
  have HF : Hid (L ++ ((numForm c ++ numForm n)) = M2) := by
    show _ = _
    rw [← HM2.out]
    rw [← HM1.out]
    rw [← HM0.out]
    try simp [List.append_assoc]
  go_wp2_with fail
  go_end0
  exact ⟨rfl, (by have h := HZ2.out.wr; rw [← HF.out] at h; first | exact h | simpa only [List.append_assoc] using h), HZ2.out.k⟩
set_option maxHeartbeats 3200000 in
set_option maxRecDepth 100000 in
theorem ph16_3 (k : Int) (c n sp sq ap aq mp mq : Nat) (prim : List UInt8) (pt : Nat) (dn : Bool) (ws : List Wr) (ao : Option Addr) (cp : Nat) (w : World) (B pb : Nat) (L : List UInt8) (hk : Wk c n sp sq ap aq mp mq prim pt ws) (hws : WsAt B (.slice ao ws.length cp) ws w) (hB : B ≤ pb) (hw : WrAt pb L w) (hL : L.length ≤ 200) :
    Calls Try.prog 16 #[.pointer (some ⟨pb, 0, none⟩), .agg #[.int .i64 k, .int .u32 (c : Int), .int .u32 (n : Int), .int .u64 (sp : Int), .int .u32 (sq : Int), .int .u64 (ap : Int), .int .u32 (aq : Int), .int .u64 (mp : Int), .int .u32 (mq : Int), .string (bs prim), .int .u8 (pt : Int), .bool dn, .slice ao ws.length cp], .int .u16 3] w fun r w' => r = .returned (.tuple #[]) ∧ WrAt pb (L ++ ((numForm c ++ numForm n) ++ stampForm sp sq)) w' ∧ KeptW pb w w' := by
  have H0 : Hid _ := pz_new (e := (En.mk k c n sp sq ap aq mp mq prim pt dn ws)) hw hws hB
  obtain ⟨ao', cap, he, hla, hma⟩ := hws.shape
  simp only [Value.slice.injEq, true_and] at he
  obtain ⟨rfl, rfl⟩ := he
  have hL1 : ws.length < 9223372036854775808 := by omega
  obtain ⟨W1, hW1⟩ : ∃ W1, w.alloc (.cells #[.int .i64 k, .int .u32 (c : Int), .int .u32 (n : Int), .int .u64 (sp : Int), .int .u32 (sq : Int), .int .u64 (ap : Int), .int .u32 (aq : Int), .int .u64 (mp : Int), .int .u32 (mq : Int), .string (bs prim), .int .u8 (pt : Int), .bool dn, .slice ao ws.length cp] 30) = W1 := ⟨_, rfl⟩
  obtain ⟨b, hb⟩ : ∃ b, w.heap.size = b := ⟨_, rfl⟩
  have HZ0 : Hid (Pz w B b pb (En.mk k c n sp sq ap aq mp mq prim pt dn ws) ao cp L W1) := by rw [← hb, ← hW1]; exact H0.out
  have HK : Hid _ := hk
  clear H0 hws hla hma hk hw hB
  go_enter Try.func16, Try.ntmps16
  go_upto_region 1 with fail
  clear hb hW1
  obtain ⟨M0, hM0⟩ : ∃ M0 : List UInt8, L = M0 := ⟨_, rfl⟩
  have HM0 : Hid (L = M0) := hM0
  have lm0 : M0.length ≤ 200 := by rw [← hM0]; exact hL
  rw [hM0] at HZ0
  clear hM0 hL
  have C : Hid (∀ W : World, 1 = 1 → Calls Try.prog 41 #[.int .u16 3, .int .u16 1] W fun r w' => r = .returned (.bool true) ∧ W = w') := fun W _ => has41 3 1 W (by omega) (by omega)
  go_wp2_with fail
  refine (C.out _ (by trivial)).mono ?_
  rintro r wx ⟨rfl, rfl⟩
  clear C
  have C : Hid (1 = 1 → Calls Try.prog 14 #[.pointer (some ⟨pb, 0, none⟩), .int .u64 (c : Int)] W1 fun r w' => r = .returned (.tuple #[]) ∧ WrAt pb (M0 ++ numForm c) w' ∧ KeptW pb W1 w') := fun _ => num10 pb M0 c W1 (by have := HK.out.c; omega) HZ0.out.wr (by omega)
  have p1 : W1.cell? ⟨b, 1, none⟩ = some (.int .u32 (c : Int)) := block_cell HZ0.out.x rfl
  have x1 := u64w (n := c) (by have := HK.out.c; omega)
  go_wp2_with fail
  refine (C.out (by simp)).mono ?_
  rintro r y1 ⟨rfl, hw, hk⟩
  have HX : Hid (Pz w B b pb (En.mk k c n sp sq ap aq mp mq prim pt dn ws) ao cp (M0 ++ numForm c) y1) := HZ0.out.go hw hk
  have lf : (numForm c).length ≤ 9 := nf_len (by have := HK.out.c; omega)
  obtain ⟨M1, hL⟩ : ∃ q, M0 ++ numForm c = q := ⟨_, rfl⟩
  have lm1 : M1.length ≤ 209 := by rw [← hL, List.length_append]; omega
  have HM1 : Hid (M0 ++ numForm c = M1) := hL
  rw [hL] at HX
  have HZ1 : Hid (Pz w B b pb (En.mk k c n sp sq ap aq mp mq prim pt dn ws) ao cp M1 y1) := HX.out
  clear hw hk HX C lf hL HZ0 lm0 p1  x1
  have C : Hid (1 = 1 → Calls Try.prog 14 #[.pointer (some ⟨pb, 0, none⟩), .int .u64 (n : Int)] y1 fun r w' => r = .returned (.tuple #[]) ∧ WrAt pb (M1 ++ numForm n) w' ∧ KeptW pb y1 w') := fun _ => num10 pb M1 n y1 (by have := HK.out.n; omega) HZ1.out.wr (by omega)
  have p2 : y1.cell? ⟨b, 2, none⟩ = some (.int .u32 (n : Int)) := block_cell HZ1.out.x rfl
  have x1 := u64w (n := n) (by have := HK.out.n; omega)
  go_wp2_with fail
  refine (C.out (by simp)).mono ?_
  rintro r y2 ⟨rfl, hw, hk⟩
  have HX : Hid (Pz w B b pb (En.mk k c n sp sq ap aq mp mq prim pt dn ws) ao cp (M1 ++ numForm n) y2) := HZ1.out.go hw hk
  have lf : (numForm n).length ≤ 9 := nf_len (by have := HK.out.n; omega)
  obtain ⟨M2, hL⟩ : ∃ q, M1 ++ numForm n = q := ⟨_, rfl⟩
  have lm2 : M2.length ≤ 218 := by rw [← hL, List.length_append]; omega
  have HM2 : Hid (M1 ++ numForm n = M2) := hL
  rw [hL] at HX
  have HZ2 : Hid (Pz w B b pb (En.mk k c n sp sq ap aq mp mq prim pt dn ws) ao cp M2 y2) := HX.out
  clear hw hk HX C lf hL HZ1 lm1 p2  x1
  have C : Hid (∀ W : World, 1 = 1 → Calls Try.prog 41 #[.int .u16 3, .int .u16 2] W fun r w' => r = .returned (.bool true) ∧ W = w') := fun W _ => has41 3 2 W (by omega) (by omega)
  go_wp2_with fail
  refine (C.out _ (by trivial)).mono ?_
  rintro r wx ⟨rfl, rfl⟩
  clear C
  have C : Hid (1 = 1 → Calls Try.prog 42 #[.pointer (some ⟨pb, 0, none⟩), .agg #[.int .u64 (sp : Int), .int .u32 (sq : Int)]] y2 fun r w' => r = .returned (.tuple #[]) ∧ WrAt pb (M2 ++ stampForm sp sq) w' ∧ KeptW pb y2 w') := fun _ => stamp16 pb M2 sp sq y2 (by have := HK.out.sp; omega) (by have := HK.out.sq; omega) HZ2.out.wr (by omega)
  have p3 : y2.cell? ⟨b, 3, none⟩ = some (.int .u64 (sp : Int)) := block_cell HZ2.out.x rfl
  have p4 : y2.cell? ⟨b, 4, none⟩ = some (.int .u32 (sq : Int)) := block_cell HZ2.out.x rfl
  go_wp2_with fail
  refine (C.out (by simp)).mono ?_
  rintro r y3 ⟨rfl, hw, hk⟩
  have HX : Hid (Pz w B b pb (En.mk k c n sp sq ap aq mp mq prim pt dn ws) ao cp (M2 ++ stampForm sp sq) y3) := HZ2.out.go hw hk
  have lf : (stampForm sp sq).length ≤ 18 := stf_len HK.out.sp HK.out.sq
  obtain ⟨M3, hL⟩ : ∃ q, M2 ++ stampForm sp sq = q := ⟨_, rfl⟩
  have lm3 : M3.length ≤ 236 := by rw [← hL, List.length_append]; omega
  have HM3 : Hid (M2 ++ stampForm sp sq = M3) := hL
  rw [hL] at HX
  have HZ3 : Hid (Pz w B b pb (En.mk k c n sp sq ap aq mp mq prim pt dn ws) ao cp M3 y3) := HX.out
  clear hw hk HX C lf hL HZ2 lm2 p3 p4  
  have C : Hid (∀ W : World, 1 = 1 → Calls Try.prog 41 #[.int .u16 3, .int .u16 4] W fun r w' => r = .returned (.bool false) ∧ W = w') := fun W _ => has41 3 4 W (by omega) (by omega)
  go_wp2_with fail
  refine (C.out _ (by trivial)).mono ?_
  rintro r wx ⟨rfl, rfl⟩
  clear C
  have C : Hid (∀ W : World, 1 = 1 → Calls Try.prog 41 #[.int .u16 3, .int .u16 8] W fun r w' => r = .returned (.bool false) ∧ W = w') := fun W _ => has41 3 8 W (by omega) (by omega)
  go_wp2_with fail
  refine (C.out _ (by trivial)).mono ?_
  rintro r wx ⟨rfl, rfl⟩
  clear C
  have HF : Hid (L ++ ((numForm c ++ numForm n) ++ stampForm sp sq) = M3) := by
    show _ = _
    rw [← HM3.out]
    rw [← HM2.out]
    rw [← HM1.out]
    rw [← HM0.out]
    try simp [List.append_assoc]
  go_wp2_with fail
  go_end0
  exact ⟨rfl, (by have h := HZ3.out.wr; rw [← HF.out] at h; first | exact h | simpa only [List.append_assoc] using h), HZ3.out.k⟩
set_option maxHeartbeats 3200000 in
set_option maxRecDepth 100000 in
theorem ph16_4 (k : Int) (c n sp sq ap aq mp mq : Nat) (prim : List UInt8) (pt : Nat) (dn : Bool) (ws : List Wr) (ao : Option Addr) (cp : Nat) (w : World) (B pb : Nat) (L : List UInt8) (hk : Wk c n sp sq ap aq mp mq prim pt ws) (hws : WsAt B (.slice ao ws.length cp) ws w) (hB : B ≤ pb) (hw : WrAt pb L w) (hL : L.length ≤ 200) :
    Calls Try.prog 16 #[.pointer (some ⟨pb, 0, none⟩), .agg #[.int .i64 k, .int .u32 (c : Int), .int .u32 (n : Int), .int .u64 (sp : Int), .int .u32 (sq : Int), .int .u64 (ap : Int), .int .u32 (aq : Int), .int .u64 (mp : Int), .int .u32 (mq : Int), .string (bs prim), .int .u8 (pt : Int), .bool dn, .slice ao ws.length cp], .int .u16 4] w fun r w' => r = .returned (.tuple #[]) ∧ WrAt pb (L ++ (stampForm ap aq)) w' ∧ KeptW pb w w' := by
  have H0 : Hid _ := pz_new (e := (En.mk k c n sp sq ap aq mp mq prim pt dn ws)) hw hws hB
  obtain ⟨ao', cap, he, hla, hma⟩ := hws.shape
  simp only [Value.slice.injEq, true_and] at he
  obtain ⟨rfl, rfl⟩ := he
  have hL1 : ws.length < 9223372036854775808 := by omega
  obtain ⟨W1, hW1⟩ : ∃ W1, w.alloc (.cells #[.int .i64 k, .int .u32 (c : Int), .int .u32 (n : Int), .int .u64 (sp : Int), .int .u32 (sq : Int), .int .u64 (ap : Int), .int .u32 (aq : Int), .int .u64 (mp : Int), .int .u32 (mq : Int), .string (bs prim), .int .u8 (pt : Int), .bool dn, .slice ao ws.length cp] 30) = W1 := ⟨_, rfl⟩
  obtain ⟨b, hb⟩ : ∃ b, w.heap.size = b := ⟨_, rfl⟩
  have HZ0 : Hid (Pz w B b pb (En.mk k c n sp sq ap aq mp mq prim pt dn ws) ao cp L W1) := by rw [← hb, ← hW1]; exact H0.out
  have HK : Hid _ := hk
  clear H0 hws hla hma hk hw hB
  go_enter Try.func16, Try.ntmps16
  go_upto_region 1 with fail
  clear hb hW1
  obtain ⟨M0, hM0⟩ : ∃ M0 : List UInt8, L = M0 := ⟨_, rfl⟩
  have HM0 : Hid (L = M0) := hM0
  have lm0 : M0.length ≤ 200 := by rw [← hM0]; exact hL
  rw [hM0] at HZ0
  clear hM0 hL
  have C : Hid (∀ W : World, 1 = 1 → Calls Try.prog 41 #[.int .u16 4, .int .u16 1] W fun r w' => r = .returned (.bool false) ∧ W = w') := fun W _ => has41 4 1 W (by omega) (by omega)
  go_wp2_with fail
  refine (C.out _ (by trivial)).mono ?_
  rintro r wx ⟨rfl, rfl⟩
  clear C
  have C : Hid (∀ W : World, 1 = 1 → Calls Try.prog 41 #[.int .u16 4, .int .u16 2] W fun r w' => r = .returned (.bool false) ∧ W = w') := fun W _ => has41 4 2 W (by omega) (by omega)
  go_wp2_with fail
  refine (C.out _ (by trivial)).mono ?_
  rintro r wx ⟨rfl, rfl⟩
  clear C
  have C : Hid (∀ W : World, 1 = 1 → Calls Try.prog 41 #[.int .u16 4, .int .u16 4] W fun r w' => r = .returned (.bool true) ∧ W = w') := fun W _ => has41 4 4 W (by omega) (by omega)
  go_wp2_with fail
  refine (C.out _ (by trivial)).mono ?_
  rintro r wx ⟨rfl, rfl⟩
  clear C
  have C : Hid (1 = 1 → Calls Try.prog 42 #[.pointer (some ⟨pb, 0, none⟩), .agg #[.int .u64 (ap : Int), .int .u32 (aq : Int)]] W1 fun r w' => r = .returned (.tuple #[]) ∧ WrAt pb (M0 ++ stampForm ap aq) w' ∧ KeptW pb W1 w') := fun _ => stamp16 pb M0 ap aq W1 (by have := HK.out.ap; omega) (by have := HK.out.aq; omega) HZ0.out.wr (by omega)
  have p5 : W1.cell? ⟨b, 5, none⟩ = some (.int .u64 (ap : Int)) := block_cell HZ0.out.x rfl
  have p6 : W1.cell? ⟨b, 6, none⟩ = some (.int .u32 (aq : Int)) := block_cell HZ0.out.x rfl
  go_wp2_with fail
  refine (C.out (by simp)).mono ?_
  rintro r y1 ⟨rfl, hw, hk⟩
  have HX : Hid (Pz w B b pb (En.mk k c n sp sq ap aq mp mq prim pt dn ws) ao cp (M0 ++ stampForm ap aq) y1) := HZ0.out.go hw hk
  have lf : (stampForm ap aq).length ≤ 18 := stf_len HK.out.ap HK.out.aq
  obtain ⟨M1, hL⟩ : ∃ q, M0 ++ stampForm ap aq = q := ⟨_, rfl⟩
  have lm1 : M1.length ≤ 218 := by rw [← hL, List.length_append]; omega
  have HM1 : Hid (M0 ++ stampForm ap aq = M1) := hL
  rw [hL] at HX
  have HZ1 : Hid (Pz w B b pb (En.mk k c n sp sq ap aq mp mq prim pt dn ws) ao cp M1 y1) := HX.out
  clear hw hk HX C lf hL HZ0 lm0 p5 p6  
  have C : Hid (∀ W : World, 1 = 1 → Calls Try.prog 41 #[.int .u16 4, .int .u16 8] W fun r w' => r = .returned (.bool false) ∧ W = w') := fun W _ => has41 4 8 W (by omega) (by omega)
  go_wp2_with fail
  refine (C.out _ (by trivial)).mono ?_
  rintro r wx ⟨rfl, rfl⟩
  clear C
  have HF : Hid (L ++ (stampForm ap aq) = M1) := by
    show _ = _
    rw [← HM1.out]
    rw [← HM0.out]
    try simp [List.append_assoc]
  go_wp2_with fail
  go_end0
  exact ⟨rfl, (by have h := HZ1.out.wr; rw [← HF.out] at h; first | exact h | simpa only [List.append_assoc] using h), HZ1.out.k⟩
set_option maxHeartbeats 3200000 in
set_option maxRecDepth 100000 in
theorem ph16_517 (k : Int) (c n sp sq ap aq mp mq : Nat) (prim : List UInt8) (pt : Nat) (dn : Bool) (ws : List Wr) (ao : Option Addr) (cp : Nat) (w : World) (B pb : Nat) (L : List UInt8) (hk : Wk c n sp sq ap aq mp mq prim pt ws) (hws : WsAt B (.slice ao ws.length cp) ws w) (hB : B ≤ pb) (hw : WrAt pb L w) (hL : L.length ≤ 200) :
    Calls Try.prog 16 #[.pointer (some ⟨pb, 0, none⟩), .agg #[.int .i64 k, .int .u32 (c : Int), .int .u32 (n : Int), .int .u64 (sp : Int), .int .u32 (sq : Int), .int .u64 (ap : Int), .int .u32 (aq : Int), .int .u64 (mp : Int), .int .u32 (mq : Int), .string (bs prim), .int .u8 (pt : Int), .bool dn, .slice ao ws.length cp], .int .u16 517] w fun r w' => r = .returned (.tuple #[]) ∧ WrAt pb (L ++ ((numForm c ++ numForm n) ++ stampForm ap aq)) w' ∧ KeptW pb w w' := by
  have H0 : Hid _ := pz_new (e := (En.mk k c n sp sq ap aq mp mq prim pt dn ws)) hw hws hB
  obtain ⟨ao', cap, he, hla, hma⟩ := hws.shape
  simp only [Value.slice.injEq, true_and] at he
  obtain ⟨rfl, rfl⟩ := he
  have hL1 : ws.length < 9223372036854775808 := by omega
  obtain ⟨W1, hW1⟩ : ∃ W1, w.alloc (.cells #[.int .i64 k, .int .u32 (c : Int), .int .u32 (n : Int), .int .u64 (sp : Int), .int .u32 (sq : Int), .int .u64 (ap : Int), .int .u32 (aq : Int), .int .u64 (mp : Int), .int .u32 (mq : Int), .string (bs prim), .int .u8 (pt : Int), .bool dn, .slice ao ws.length cp] 30) = W1 := ⟨_, rfl⟩
  obtain ⟨b, hb⟩ : ∃ b, w.heap.size = b := ⟨_, rfl⟩
  have HZ0 : Hid (Pz w B b pb (En.mk k c n sp sq ap aq mp mq prim pt dn ws) ao cp L W1) := by rw [← hb, ← hW1]; exact H0.out
  have HK : Hid _ := hk
  clear H0 hws hla hma hk hw hB
  go_enter Try.func16, Try.ntmps16
  go_upto_region 1 with fail
  clear hb hW1
  obtain ⟨M0, hM0⟩ : ∃ M0 : List UInt8, L = M0 := ⟨_, rfl⟩
  have HM0 : Hid (L = M0) := hM0
  have lm0 : M0.length ≤ 200 := by rw [← hM0]; exact hL
  rw [hM0] at HZ0
  clear hM0 hL
  have C : Hid (∀ W : World, 1 = 1 → Calls Try.prog 41 #[.int .u16 517, .int .u16 1] W fun r w' => r = .returned (.bool true) ∧ W = w') := fun W _ => has41 517 1 W (by omega) (by omega)
  go_wp2_with fail
  refine (C.out _ (by trivial)).mono ?_
  rintro r wx ⟨rfl, rfl⟩
  clear C
  have C : Hid (1 = 1 → Calls Try.prog 14 #[.pointer (some ⟨pb, 0, none⟩), .int .u64 (c : Int)] W1 fun r w' => r = .returned (.tuple #[]) ∧ WrAt pb (M0 ++ numForm c) w' ∧ KeptW pb W1 w') := fun _ => num10 pb M0 c W1 (by have := HK.out.c; omega) HZ0.out.wr (by omega)
  have p1 : W1.cell? ⟨b, 1, none⟩ = some (.int .u32 (c : Int)) := block_cell HZ0.out.x rfl
  have x1 := u64w (n := c) (by have := HK.out.c; omega)
  go_wp2_with fail
  refine (C.out (by simp)).mono ?_
  rintro r y1 ⟨rfl, hw, hk⟩
  have HX : Hid (Pz w B b pb (En.mk k c n sp sq ap aq mp mq prim pt dn ws) ao cp (M0 ++ numForm c) y1) := HZ0.out.go hw hk
  have lf : (numForm c).length ≤ 9 := nf_len (by have := HK.out.c; omega)
  obtain ⟨M1, hL⟩ : ∃ q, M0 ++ numForm c = q := ⟨_, rfl⟩
  have lm1 : M1.length ≤ 209 := by rw [← hL, List.length_append]; omega
  have HM1 : Hid (M0 ++ numForm c = M1) := hL
  rw [hL] at HX
  have HZ1 : Hid (Pz w B b pb (En.mk k c n sp sq ap aq mp mq prim pt dn ws) ao cp M1 y1) := HX.out
  clear hw hk HX C lf hL HZ0 lm0 p1  x1
  have C : Hid (1 = 1 → Calls Try.prog 14 #[.pointer (some ⟨pb, 0, none⟩), .int .u64 (n : Int)] y1 fun r w' => r = .returned (.tuple #[]) ∧ WrAt pb (M1 ++ numForm n) w' ∧ KeptW pb y1 w') := fun _ => num10 pb M1 n y1 (by have := HK.out.n; omega) HZ1.out.wr (by omega)
  have p2 : y1.cell? ⟨b, 2, none⟩ = some (.int .u32 (n : Int)) := block_cell HZ1.out.x rfl
  have x1 := u64w (n := n) (by have := HK.out.n; omega)
  go_wp2_with fail
  refine (C.out (by simp)).mono ?_
  rintro r y2 ⟨rfl, hw, hk⟩
  have HX : Hid (Pz w B b pb (En.mk k c n sp sq ap aq mp mq prim pt dn ws) ao cp (M1 ++ numForm n) y2) := HZ1.out.go hw hk
  have lf : (numForm n).length ≤ 9 := nf_len (by have := HK.out.n; omega)
  obtain ⟨M2, hL⟩ : ∃ q, M1 ++ numForm n = q := ⟨_, rfl⟩
  have lm2 : M2.length ≤ 218 := by rw [← hL, List.length_append]; omega
  have HM2 : Hid (M1 ++ numForm n = M2) := hL
  rw [hL] at HX
  have HZ2 : Hid (Pz w B b pb (En.mk k c n sp sq ap aq mp mq prim pt dn ws) ao cp M2 y2) := HX.out
  clear hw hk HX C lf hL HZ1 lm1 p2  x1
  have C : Hid (∀ W : World, 1 = 1 → Calls Try.prog 41 #[.int .u16 517, .int .u16 2] W fun r w' => r = .returned (.bool false) ∧ W = w') := fun W _ => has41 517 2 W (by omega) (by omega)
  go_wp2_with fail
  refine (C.out _ (by trivial)).mono ?_
  rintro r wx ⟨rfl, rfl⟩
  clear C
  have C : Hid (∀ W : World, 1 = 1 → Calls Try.prog 41 #[.int .u16 517, .int .u16 4] W fun r w' => r = .returned (.bool true) ∧ W = w') := fun W _ => has41 517 4 W (by omega) (by omega)
  go_wp2_with fail
  refine (C.out _ (by trivial)).mono ?_
  rintro r wx ⟨rfl, rfl⟩
  clear C
  have C : Hid (1 = 1 → Calls Try.prog 42 #[.pointer (some ⟨pb, 0, none⟩), .agg #[.int .u64 (ap : Int), .int .u32 (aq : Int)]] y2 fun r w' => r = .returned (.tuple #[]) ∧ WrAt pb (M2 ++ stampForm ap aq) w' ∧ KeptW pb y2 w') := fun _ => stamp16 pb M2 ap aq y2 (by have := HK.out.ap; omega) (by have := HK.out.aq; omega) HZ2.out.wr (by omega)
  have p5 : y2.cell? ⟨b, 5, none⟩ = some (.int .u64 (ap : Int)) := block_cell HZ2.out.x rfl
  have p6 : y2.cell? ⟨b, 6, none⟩ = some (.int .u32 (aq : Int)) := block_cell HZ2.out.x rfl
  go_wp2_with fail
  refine (C.out (by simp)).mono ?_
  rintro r y3 ⟨rfl, hw, hk⟩
  have HX : Hid (Pz w B b pb (En.mk k c n sp sq ap aq mp mq prim pt dn ws) ao cp (M2 ++ stampForm ap aq) y3) := HZ2.out.go hw hk
  have lf : (stampForm ap aq).length ≤ 18 := stf_len HK.out.ap HK.out.aq
  obtain ⟨M3, hL⟩ : ∃ q, M2 ++ stampForm ap aq = q := ⟨_, rfl⟩
  have lm3 : M3.length ≤ 236 := by rw [← hL, List.length_append]; omega
  have HM3 : Hid (M2 ++ stampForm ap aq = M3) := hL
  rw [hL] at HX
  have HZ3 : Hid (Pz w B b pb (En.mk k c n sp sq ap aq mp mq prim pt dn ws) ao cp M3 y3) := HX.out
  clear hw hk HX C lf hL HZ2 lm2 p5 p6  
  have C : Hid (∀ W : World, 1 = 1 → Calls Try.prog 41 #[.int .u16 517, .int .u16 8] W fun r w' => r = .returned (.bool false) ∧ W = w') := fun W _ => has41 517 8 W (by omega) (by omega)
  go_wp2_with fail
  refine (C.out _ (by trivial)).mono ?_
  rintro r wx ⟨rfl, rfl⟩
  clear C
  have HF : Hid (L ++ ((numForm c ++ numForm n) ++ stampForm ap aq) = M3) := by
    show _ = _
    rw [← HM3.out]
    rw [← HM2.out]
    rw [← HM1.out]
    rw [← HM0.out]
    try simp [List.append_assoc]
  go_wp2_with fail
  go_end0
  exact ⟨rfl, (by have h := HZ3.out.wr; rw [← HF.out] at h; first | exact h | simpa only [List.append_assoc] using h), HZ3.out.k⟩
set_option maxHeartbeats 3200000 in
set_option maxRecDepth 100000 in
theorem ph16_389 (k : Int) (c n sp sq ap aq mp mq : Nat) (prim : List UInt8) (pt : Nat) (dn : Bool) (ws : List Wr) (ao : Option Addr) (cp : Nat) (w : World) (B pb : Nat) (L : List UInt8) (hk : Wk c n sp sq ap aq mp mq prim pt ws) (hws : WsAt B (.slice ao ws.length cp) ws w) (hB : B ≤ pb) (hw : WrAt pb L w) (hL : L.length ≤ 200) :
    Calls Try.prog 16 #[.pointer (some ⟨pb, 0, none⟩), .agg #[.int .i64 k, .int .u32 (c : Int), .int .u32 (n : Int), .int .u64 (sp : Int), .int .u32 (sq : Int), .int .u64 (ap : Int), .int .u32 (aq : Int), .int .u64 (mp : Int), .int .u32 (mq : Int), .string (bs prim), .int .u8 (pt : Int), .bool dn, .slice ao ws.length cp], .int .u16 389] w fun r w' => r = .returned (.tuple #[]) ∧ WrAt pb (L ++ ((numForm c ++ numForm n) ++ stampForm ap aq)) w' ∧ KeptW pb w w' := by
  have H0 : Hid _ := pz_new (e := (En.mk k c n sp sq ap aq mp mq prim pt dn ws)) hw hws hB
  obtain ⟨ao', cap, he, hla, hma⟩ := hws.shape
  simp only [Value.slice.injEq, true_and] at he
  obtain ⟨rfl, rfl⟩ := he
  have hL1 : ws.length < 9223372036854775808 := by omega
  obtain ⟨W1, hW1⟩ : ∃ W1, w.alloc (.cells #[.int .i64 k, .int .u32 (c : Int), .int .u32 (n : Int), .int .u64 (sp : Int), .int .u32 (sq : Int), .int .u64 (ap : Int), .int .u32 (aq : Int), .int .u64 (mp : Int), .int .u32 (mq : Int), .string (bs prim), .int .u8 (pt : Int), .bool dn, .slice ao ws.length cp] 30) = W1 := ⟨_, rfl⟩
  obtain ⟨b, hb⟩ : ∃ b, w.heap.size = b := ⟨_, rfl⟩
  have HZ0 : Hid (Pz w B b pb (En.mk k c n sp sq ap aq mp mq prim pt dn ws) ao cp L W1) := by rw [← hb, ← hW1]; exact H0.out
  have HK : Hid _ := hk
  clear H0 hws hla hma hk hw hB
  go_enter Try.func16, Try.ntmps16
  go_upto_region 1 with fail
  clear hb hW1
  obtain ⟨M0, hM0⟩ : ∃ M0 : List UInt8, L = M0 := ⟨_, rfl⟩
  have HM0 : Hid (L = M0) := hM0
  have lm0 : M0.length ≤ 200 := by rw [← hM0]; exact hL
  rw [hM0] at HZ0
  clear hM0 hL
  have C : Hid (∀ W : World, 1 = 1 → Calls Try.prog 41 #[.int .u16 389, .int .u16 1] W fun r w' => r = .returned (.bool true) ∧ W = w') := fun W _ => has41 389 1 W (by omega) (by omega)
  go_wp2_with fail
  refine (C.out _ (by trivial)).mono ?_
  rintro r wx ⟨rfl, rfl⟩
  clear C
  have C : Hid (1 = 1 → Calls Try.prog 14 #[.pointer (some ⟨pb, 0, none⟩), .int .u64 (c : Int)] W1 fun r w' => r = .returned (.tuple #[]) ∧ WrAt pb (M0 ++ numForm c) w' ∧ KeptW pb W1 w') := fun _ => num10 pb M0 c W1 (by have := HK.out.c; omega) HZ0.out.wr (by omega)
  have p1 : W1.cell? ⟨b, 1, none⟩ = some (.int .u32 (c : Int)) := block_cell HZ0.out.x rfl
  have x1 := u64w (n := c) (by have := HK.out.c; omega)
  go_wp2_with fail
  refine (C.out (by simp)).mono ?_
  rintro r y1 ⟨rfl, hw, hk⟩
  have HX : Hid (Pz w B b pb (En.mk k c n sp sq ap aq mp mq prim pt dn ws) ao cp (M0 ++ numForm c) y1) := HZ0.out.go hw hk
  have lf : (numForm c).length ≤ 9 := nf_len (by have := HK.out.c; omega)
  obtain ⟨M1, hL⟩ : ∃ q, M0 ++ numForm c = q := ⟨_, rfl⟩
  have lm1 : M1.length ≤ 209 := by rw [← hL, List.length_append]; omega
  have HM1 : Hid (M0 ++ numForm c = M1) := hL
  rw [hL] at HX
  have HZ1 : Hid (Pz w B b pb (En.mk k c n sp sq ap aq mp mq prim pt dn ws) ao cp M1 y1) := HX.out
  clear hw hk HX C lf hL HZ0 lm0 p1  x1
  have C : Hid (1 = 1 → Calls Try.prog 14 #[.pointer (some ⟨pb, 0, none⟩), .int .u64 (n : Int)] y1 fun r w' => r = .returned (.tuple #[]) ∧ WrAt pb (M1 ++ numForm n) w' ∧ KeptW pb y1 w') := fun _ => num10 pb M1 n y1 (by have := HK.out.n; omega) HZ1.out.wr (by omega)
  have p2 : y1.cell? ⟨b, 2, none⟩ = some (.int .u32 (n : Int)) := block_cell HZ1.out.x rfl
  have x1 := u64w (n := n) (by have := HK.out.n; omega)
  go_wp2_with fail
  refine (C.out (by simp)).mono ?_
  rintro r y2 ⟨rfl, hw, hk⟩
  have HX : Hid (Pz w B b pb (En.mk k c n sp sq ap aq mp mq prim pt dn ws) ao cp (M1 ++ numForm n) y2) := HZ1.out.go hw hk
  have lf : (numForm n).length ≤ 9 := nf_len (by have := HK.out.n; omega)
  obtain ⟨M2, hL⟩ : ∃ q, M1 ++ numForm n = q := ⟨_, rfl⟩
  have lm2 : M2.length ≤ 218 := by rw [← hL, List.length_append]; omega
  have HM2 : Hid (M1 ++ numForm n = M2) := hL
  rw [hL] at HX
  have HZ2 : Hid (Pz w B b pb (En.mk k c n sp sq ap aq mp mq prim pt dn ws) ao cp M2 y2) := HX.out
  clear hw hk HX C lf hL HZ1 lm1 p2  x1
  have C : Hid (∀ W : World, 1 = 1 → Calls Try.prog 41 #[.int .u16 389, .int .u16 2] W fun r w' => r = .returned (.bool false) ∧ W = w') := fun W _ => has41 389 2 W (by omega) (by omega)
  go_wp2_with fail
  refine (C.out _ (by trivial)).mono ?_
  rintro r wx ⟨rfl, rfl⟩
  clear C
  have C : Hid (∀ W : World, 1 = 1 → Calls Try.prog 41 #[.int .u16 389, .int .u16 4] W fun r w' => r = .returned (.bool true) ∧ W = w') := fun W _ => has41 389 4 W (by omega) (by omega)
  go_wp2_with fail
  refine (C.out _ (by trivial)).mono ?_
  rintro r wx ⟨rfl, rfl⟩
  clear C
  have C : Hid (1 = 1 → Calls Try.prog 42 #[.pointer (some ⟨pb, 0, none⟩), .agg #[.int .u64 (ap : Int), .int .u32 (aq : Int)]] y2 fun r w' => r = .returned (.tuple #[]) ∧ WrAt pb (M2 ++ stampForm ap aq) w' ∧ KeptW pb y2 w') := fun _ => stamp16 pb M2 ap aq y2 (by have := HK.out.ap; omega) (by have := HK.out.aq; omega) HZ2.out.wr (by omega)
  have p5 : y2.cell? ⟨b, 5, none⟩ = some (.int .u64 (ap : Int)) := block_cell HZ2.out.x rfl
  have p6 : y2.cell? ⟨b, 6, none⟩ = some (.int .u32 (aq : Int)) := block_cell HZ2.out.x rfl
  go_wp2_with fail
  refine (C.out (by simp)).mono ?_
  rintro r y3 ⟨rfl, hw, hk⟩
  have HX : Hid (Pz w B b pb (En.mk k c n sp sq ap aq mp mq prim pt dn ws) ao cp (M2 ++ stampForm ap aq) y3) := HZ2.out.go hw hk
  have lf : (stampForm ap aq).length ≤ 18 := stf_len HK.out.ap HK.out.aq
  obtain ⟨M3, hL⟩ : ∃ q, M2 ++ stampForm ap aq = q := ⟨_, rfl⟩
  have lm3 : M3.length ≤ 236 := by rw [← hL, List.length_append]; omega
  have HM3 : Hid (M2 ++ stampForm ap aq = M3) := hL
  rw [hL] at HX
  have HZ3 : Hid (Pz w B b pb (En.mk k c n sp sq ap aq mp mq prim pt dn ws) ao cp M3 y3) := HX.out
  clear hw hk HX C lf hL HZ2 lm2 p5 p6  
  have C : Hid (∀ W : World, 1 = 1 → Calls Try.prog 41 #[.int .u16 389, .int .u16 8] W fun r w' => r = .returned (.bool false) ∧ W = w') := fun W _ => has41 389 8 W (by omega) (by omega)
  go_wp2_with fail
  refine (C.out _ (by trivial)).mono ?_
  rintro r wx ⟨rfl, rfl⟩
  clear C
  have HF : Hid (L ++ ((numForm c ++ numForm n) ++ stampForm ap aq) = M3) := by
    show _ = _
    rw [← HM3.out]
    rw [← HM2.out]
    rw [← HM1.out]
    rw [← HM0.out]
    try simp [List.append_assoc]
  go_wp2_with fail
  go_end0
  exact ⟨rfl, (by have h := HZ3.out.wr; rw [← HF.out] at h; first | exact h | simpa only [List.append_assoc] using h), HZ3.out.k⟩
end Go.Proofs.Ytmgjlpgjjeknpaa

namespace Go.Proofs.Ytmgjlpgjjeknpaa
open Go.RowKit Go.Sort

set_option maxHeartbeats 3200000 in
set_option maxRecDepth 100000 in
theorem ph16_155 (k : Int) (c n sp sq ap aq mp mq : Nat) (prim : List UInt8) (pt : Nat) (dn : Bool) (ws : List Wr) (ao : Option Addr) (cp : Nat) (w : World) (B pb : Nat) (L : List UInt8) (hk : Wk c n sp sq ap aq mp mq prim pt ws) (hws : WsAt B (.slice ao ws.length cp) ws w) (hB : B ≤ pb) (hw : WrAt pb L w) (hL : L.length ≤ 200) :
    Calls Try.prog 16 #[.pointer (some ⟨pb, 0, none⟩), .agg #[.int .i64 k, .int .u32 (c : Int), .int .u32 (n : Int), .int .u64 (sp : Int), .int .u32 (sq : Int), .int .u64 (ap : Int), .int .u32 (aq : Int), .int .u64 (mp : Int), .int .u32 (mq : Int), .string (bs prim), .int .u8 (pt : Int), .bool dn, .slice ao ws.length cp], .int .u16 155] w fun r w' => r = .returned (.tuple #[]) ∧ WrAt pb (L ++ ((numForm c ++ numForm n) ++ stampForm sp sq ++ stampForm mp mq)) w' ∧ KeptW pb w w' := by
  have H0 : Hid _ := pz_new (e := (En.mk k c n sp sq ap aq mp mq prim pt dn ws)) hw hws hB
  obtain ⟨ao', cap, he, hla, hma⟩ := hws.shape
  simp only [Value.slice.injEq, true_and] at he
  obtain ⟨rfl, rfl⟩ := he
  have hL1 : ws.length < 9223372036854775808 := by omega
  obtain ⟨W1, hW1⟩ : ∃ W1, w.alloc (.cells #[.int .i64 k, .int .u32 (c : Int), .int .u32 (n : Int), .int .u64 (sp : Int), .int .u32 (sq : Int), .int .u64 (ap : Int), .int .u32 (aq : Int), .int .u64 (mp : Int), .int .u32 (mq : Int), .string (bs prim), .int .u8 (pt : Int), .bool dn, .slice ao ws.length cp] 30) = W1 := ⟨_, rfl⟩
  obtain ⟨b, hb⟩ : ∃ b, w.heap.size = b := ⟨_, rfl⟩
  have HZ0 : Hid (Pz w B b pb (En.mk k c n sp sq ap aq mp mq prim pt dn ws) ao cp L W1) := by rw [← hb, ← hW1]; exact H0.out
  have HK : Hid _ := hk
  clear H0 hws hla hma hk hw hB
  go_enter Try.func16, Try.ntmps16
  go_upto_region 1 with fail
  clear hb hW1
  obtain ⟨M0, hM0⟩ : ∃ M0 : List UInt8, L = M0 := ⟨_, rfl⟩
  have HM0 : Hid (L = M0) := hM0
  have lm0 : M0.length ≤ 200 := by rw [← hM0]; exact hL
  rw [hM0] at HZ0
  clear hM0 hL
  have C : Hid (∀ W : World, 1 = 1 → Calls Try.prog 41 #[.int .u16 155, .int .u16 1] W fun r w' => r = .returned (.bool true) ∧ W = w') := fun W _ => has41 155 1 W (by omega) (by omega)
  go_wp2_with fail
  refine (C.out _ (by trivial)).mono ?_
  rintro r wx ⟨rfl, rfl⟩
  clear C
  have C : Hid (1 = 1 → Calls Try.prog 14 #[.pointer (some ⟨pb, 0, none⟩), .int .u64 (c : Int)] W1 fun r w' => r = .returned (.tuple #[]) ∧ WrAt pb (M0 ++ numForm c) w' ∧ KeptW pb W1 w') := fun _ => num10 pb M0 c W1 (by have := HK.out.c; omega) HZ0.out.wr (by omega)
  have p1 : W1.cell? ⟨b, 1, none⟩ = some (.int .u32 (c : Int)) := block_cell HZ0.out.x rfl
  have x1 := u64w (n := c) (by have := HK.out.c; omega)
  go_wp2_with fail
  refine (C.out (by simp)).mono ?_
  rintro r y1 ⟨rfl, hw, hk⟩
  have HX : Hid (Pz w B b pb (En.mk k c n sp sq ap aq mp mq prim pt dn ws) ao cp (M0 ++ numForm c) y1) := HZ0.out.go hw hk
  have lf : (numForm c).length ≤ 9 := nf_len (by have := HK.out.c; omega)
  obtain ⟨M1, hL⟩ : ∃ q, M0 ++ numForm c = q := ⟨_, rfl⟩
  have lm1 : M1.length ≤ 209 := by rw [← hL, List.length_append]; omega
  have HM1 : Hid (M0 ++ numForm c = M1) := hL
  rw [hL] at HX
  have HZ1 : Hid (Pz w B b pb (En.mk k c n sp sq ap aq mp mq prim pt dn ws) ao cp M1 y1) := HX.out
  clear hw hk HX C lf hL HZ0 lm0 p1  x1
  have C : Hid (1 = 1 → Calls Try.prog 14 #[.pointer (some ⟨pb, 0, none⟩), .int .u64 (n : Int)] y1 fun r w' => r = .returned (.tuple #[]) ∧ WrAt pb (M1 ++ numForm n) w' ∧ KeptW pb y1 w') := fun _ => num10 pb M1 n y1 (by have := HK.out.n; omega) HZ1.out.wr (by omega)
  have p2 : y1.cell? ⟨b, 2, none⟩ = some (.int .u32 (n : Int)) := block_cell HZ1.out.x rfl
  have x1 := u64w (n := n) (by have := HK.out.n; omega)
  go_wp2_with fail
  refine (C.out (by simp)).mono ?_
  rintro r y2 ⟨rfl, hw, hk⟩
  have HX : Hid (Pz w B b pb (En.mk k c n sp sq ap aq mp mq prim pt dn ws) ao cp (M1 ++ numForm n) y2) := HZ1.out.go hw hk
  have lf : (numForm n).length ≤ 9 := nf_len (by have := HK.out.n; omega)
  obtain ⟨M2, hL⟩ : ∃ q, M1 ++ numForm n = q := ⟨_, rfl⟩
  have lm2 : M2.length ≤ 218 := by rw [← hL, List.length_append]; omega
  have HM2 : Hid (M1 ++ numForm n = M2) := hL
  rw [hL] at HX
  have HZ2 : Hid (Pz w B b pb (En.mk k c n sp sq ap aq mp mq prim pt dn ws) ao cp M2 y2) := HX.out
  clear hw hk HX C lf hL HZ1 lm1 p2  x1
  have C : Hid (∀ W : World, 1 = 1 → Calls Try.prog 41 #[.int .u16 155, .int .u16 2] W fun r w' => r = .returned (.bool true) ∧ W = w') := fun W _ => has41 155 2 W (by omega) (by omega)
  go_wp2_with fail
  refine (C.out _ (by trivial)).mono ?_
  rintro r wx ⟨rfl, rfl⟩
  clear C
  have C : Hid (1 = 1 → Calls Try.prog 42 #[.pointer (some ⟨pb, 0, none⟩), .agg #[.int .u64 (sp : Int), .int .u32 (sq : Int)]] y2 fun r w' => r = .returned (.tuple #[]) ∧ WrAt pb (M2 ++ stampForm sp sq) w' ∧ KeptW pb y2 w') := fun _ => stamp16 pb M2 sp sq y2 (by have := HK.out.sp; omega) (by have := HK.out.sq; omega) HZ2.out.wr (by omega)
  have p3 : y2.cell? ⟨b, 3, none⟩ = some (.int .u64 (sp : Int)) := block_cell HZ2.out.x rfl
  have p4 : y2.cell? ⟨b, 4, none⟩ = some (.int .u32 (sq : Int)) := block_cell HZ2.out.x rfl
  go_wp2_with fail
  refine (C.out (by simp)).mono ?_
  rintro r y3 ⟨rfl, hw, hk⟩
  have HX : Hid (Pz w B b pb (En.mk k c n sp sq ap aq mp mq prim pt dn ws) ao cp (M2 ++ stampForm sp sq) y3) := HZ2.out.go hw hk
  have lf : (stampForm sp sq).length ≤ 18 := stf_len HK.out.sp HK.out.sq
  obtain ⟨M3, hL⟩ : ∃ q, M2 ++ stampForm sp sq = q := ⟨_, rfl⟩
  have lm3 : M3.length ≤ 236 := by rw [← hL, List.length_append]; omega
  have HM3 : Hid (M2 ++ stampForm sp sq = M3) := hL
  rw [hL] at HX
  have HZ3 : Hid (Pz w B b pb (En.mk k c n sp sq ap aq mp mq prim pt dn ws) ao cp M3 y3) := HX.out
  clear hw hk HX C lf hL HZ2 lm2 p3 p4  
  have C : Hid (∀ W : World, 1 = 1 → Calls Try.prog 41 #[.int .u16 155, .int .u16 4] W fun r w' => r = .returned (.bool false) ∧ W = w') := fun W _ => has41 155 4 W (by omega) (by omega)
  go_wp2_with fail
  refine (C.out _ (by trivial)).mono ?_
  rintro r wx ⟨rfl, rfl⟩
  clear C
  have C : Hid (∀ W : World, 1 = 1 → Calls Try.prog 41 #[.int .u16 155, .int .u16 8] W fun r w' => r = .returned (.bool true) ∧ W = w') := fun W _ => has41 155 8 W (by omega) (by omega)
  go_wp2_with fail
  refine (C.out _ (by trivial)).mono ?_
  rintro r wx ⟨rfl, rfl⟩
  clear C
  have C : Hid (1 = 1 → Calls Try.prog 42 #[.pointer (some ⟨pb, 0, none⟩), .agg #[.int .u64 (mp : Int), .int .u32 (mq : Int)]] y3 fun r w' => r = .returned (.tuple #[]) ∧ WrAt pb (M3 ++ stampForm mp mq) w' ∧ KeptW pb y3 w') := fun _ => stamp16 pb M3 mp mq y3 (by have := HK.out.mp; omega) (by have := HK.out.mq; omega) HZ3.out.wr (by omega)
  have p7 : y3.cell? ⟨b, 7, none⟩ = some (.int .u64 (mp : Int)) := block_cell HZ3.out.x rfl
  have p8 : y3.cell? ⟨b, 8, none⟩ = some (.int .u32 (mq : Int)) := block_cell HZ3.out.x rfl
  go_wp2_with fail
  refine (C.out (by simp)).mono ?_
  rintro r y4 ⟨rfl, hw, hk⟩
  have HX : Hid (Pz w B b pb (En.mk k c n sp sq ap aq mp mq prim pt dn ws) ao cp (M3 ++ stampForm mp mq) y4) := HZ3.out.go hw hk
  have lf : (stampForm mp mq).length ≤ 18 := stf_len HK.out.mp HK.out.mq
  obtain ⟨M4, hL⟩ : ∃ q, M3 ++ stampForm mp mq = q := ⟨_, rfl⟩
  have lm4 : M4.length ≤ 254 := by rw [← hL, List.length_append]; omega
  have HM4 : Hid (M3 ++ stampForm mp mq = M4) := hL
  rw [hL] at HX
  have HZ4 : Hid (Pz w B b pb (En.mk k c n sp sq ap aq mp mq prim pt dn ws) ao cp M4 y4) := HX.out
  clear hw hk HX C lf hL HZ3 lm3 p7 p8  
  have HF : Hid (L ++ ((numForm c ++ numForm n) ++ stampForm sp sq ++ stampForm mp mq) = M4) := by
    show _ = _
    rw [← HM4.out]
    rw [← HM3.out]
    rw [← HM2.out]
    rw [← HM1.out]
    rw [← HM0.out]
    try simp [List.append_assoc]
  go_wp2_with fail
  go_end0
  exact ⟨rfl, (by have h := HZ4.out.wr; rw [← HF.out] at h; first | exact h | simpa only [List.append_assoc] using h), HZ4.out.k⟩
set_option maxHeartbeats 3200000 in
set_option maxRecDepth 100000 in
theorem ph16_551 (k : Int) (c n sp sq ap aq mp mq : Nat) (prim : List UInt8) (pt : Nat) (dn : Bool) (ws : List Wr) (ao : Option Addr) (cp : Nat) (w : World) (B pb : Nat) (L : List UInt8) (hk : Wk c n sp sq ap aq mp mq prim pt ws) (hws : WsAt B (.slice ao ws.length cp) ws w) (hB : B ≤ pb) (hw : WrAt pb L w) (hL : L.length ≤ 200) :
    Calls Try.prog 16 #[.pointer (some ⟨pb, 0, none⟩), .agg #[.int .i64 k, .int .u32 (c : Int), .int .u32 (n : Int), .int .u64 (sp : Int), .int .u32 (sq : Int), .int .u64 (ap : Int), .int .u32 (aq : Int), .int .u64 (mp : Int), .int .u32 (mq : Int), .string (bs prim), .int .u8 (pt : Int), .bool dn, .slice ao ws.length cp], .int .u16 551] w fun r w' => r = .returned (.tuple #[]) ∧ WrAt pb (L ++ ((numForm c ++ numForm n) ++ stampForm sp sq ++ stampForm ap aq)) w' ∧ KeptW pb w w' := by
  have H0 : Hid _ := pz_new (e := (En.mk k c n sp sq ap aq mp mq prim pt dn ws)) hw hws hB
  obtain ⟨ao', cap, he, hla, hma⟩ := hws.shape
  simp only [Value.slice.injEq, true_and] at he
  obtain ⟨rfl, rfl⟩ := he
  have hL1 : ws.length < 9223372036854775808 := by omega
  obtain ⟨W1, hW1⟩ : ∃ W1, w.alloc (.cells #[.int .i64 k, .int .u32 (c : Int), .int .u32 (n : Int), .int .u64 (sp : Int), .int .u32 (sq : Int), .int .u64 (ap : Int), .int .u32 (aq : Int), .int .u64 (mp : Int), .int .u32 (mq : Int), .string (bs prim), .int .u8 (pt : Int), .bool dn, .slice ao ws.length cp] 30) = W1 := ⟨_, rfl⟩
  obtain ⟨b, hb⟩ : ∃ b, w.heap.size = b := ⟨_, rfl⟩
  have HZ0 : Hid (Pz w B b pb (En.mk k c n sp sq ap aq mp mq prim pt dn ws) ao cp L W1) := by rw [← hb, ← hW1]; exact H0.out
  have HK : Hid _ := hk
  clear H0 hws hla hma hk hw hB
  go_enter Try.func16, Try.ntmps16
  go_upto_region 1 with fail
  clear hb hW1
  obtain ⟨M0, hM0⟩ : ∃ M0 : List UInt8, L = M0 := ⟨_, rfl⟩
  have HM0 : Hid (L = M0) := hM0
  have lm0 : M0.length ≤ 200 := by rw [← hM0]; exact hL
  rw [hM0] at HZ0
  clear hM0 hL
  have C : Hid (∀ W : World, 1 = 1 → Calls Try.prog 41 #[.int .u16 551, .int .u16 1] W fun r w' => r = .returned (.bool true) ∧ W = w') := fun W _ => has41 551 1 W (by omega) (by omega)
  go_wp2_with fail
  refine (C.out _ (by trivial)).mono ?_
  rintro r wx ⟨rfl, rfl⟩
  clear C
  have C : Hid (1 = 1 → Calls Try.prog 14 #[.pointer (some ⟨pb, 0, none⟩), .int .u64 (c : Int)] W1 fun r w' => r = .returned (.tuple #[]) ∧ WrAt pb (M0 ++ numForm c) w' ∧ KeptW pb W1 w') := fun _ => num10 pb M0 c W1 (by have := HK.out.c; omega) HZ0.out.wr (by omega)
  have p1 : W1.cell? ⟨b, 1, none⟩ = some (.int .u32 (c : Int)) := block_cell HZ0.out.x rfl
  have x1 := u64w (n := c) (by have := HK.out.c; omega)
  go_wp2_with fail
  refine (C.out (by simp)).mono ?_
  rintro r y1 ⟨rfl, hw, hk⟩
  have HX : Hid (Pz w B b pb (En.mk k c n sp sq ap aq mp mq prim pt dn ws) ao cp (M0 ++ numForm c) y1) := HZ0.out.go hw hk
  have lf : (numForm c).length ≤ 9 := nf_len (by have := HK.out.c; omega)
  obtain ⟨M1, hL⟩ : ∃ q, M0 ++ numForm c = q := ⟨_, rfl⟩
  have lm1 : M1.length ≤ 209 := by rw [← hL, List.length_append]; omega
  have HM1 : Hid (M0 ++ numForm c = M1) := hL
  rw [hL] at HX
  have HZ1 : Hid (Pz w B b pb (En.mk k c n sp sq ap aq mp mq prim pt dn ws) ao cp M1 y1) := HX.out
  clear hw hk HX C lf hL HZ0 lm0 p1  x1
  have C : Hid (1 = 1 → Calls Try.prog 14 #[.pointer (some ⟨pb, 0, none⟩), .int .u64 (n : Int)] y1 fun r w' => r = .returned (.tuple #[]) ∧ WrAt pb (M1 ++ numForm n) w' ∧ KeptW pb y1 w') := fun _ => num10 pb M1 n y1 (by have := HK.out.n; omega) HZ1.out.wr (by omega)
  have p2 : y1.cell? ⟨b, 2, none⟩ = some (.int .u32 (n : Int)) := block_cell HZ1.out.x rfl
  have x1 := u64w (n := n) (by have := HK.out.n; omega)
  go_wp2_with fail
  refine (C.out (by simp)).mono ?_
  rintro r y2 ⟨rfl, hw, hk⟩
  have HX : Hid (Pz w B b pb (En.mk k c n sp sq ap aq mp mq prim pt dn ws) ao cp (M1 ++ numForm n) y2) := HZ1.out.go hw hk
  have lf : (numForm n).length ≤ 9 := nf_len (by have := HK.out.n; omega)
  obtain ⟨M2, hL⟩ : ∃ q, M1 ++ numForm n = q := ⟨_, rfl⟩
  have lm2 : M2.length ≤ 218 := by rw [← hL, List.length_append]; omega
  have HM2 : Hid (M1 ++ numForm n = M2) := hL
  rw [hL] at HX
  have HZ2 : Hid (Pz w B b pb (En.mk k c n sp sq ap aq mp mq prim pt dn ws) ao cp M2 y2) := HX.out
  clear hw hk HX C lf hL HZ1 lm1 p2  x1
  have C : Hid (∀ W : World, 1 = 1 → Calls Try.prog 41 #[.int .u16 551, .int .u16 2] W fun r w' => r = .returned (.bool true) ∧ W = w') := fun W _ => has41 551 2 W (by omega) (by omega)
  go_wp2_with fail
  refine (C.out _ (by trivial)).mono ?_
  rintro r wx ⟨rfl, rfl⟩
  clear C
  have C : Hid (1 = 1 → Calls Try.prog 42 #[.pointer (some ⟨pb, 0, none⟩), .agg #[.int .u64 (sp : Int), .int .u32 (sq : Int)]] y2 fun r w' => r = .returned (.tuple #[]) ∧ WrAt pb (M2 ++ stampForm sp sq) w' ∧ KeptW pb y2 w') := fun _ => stamp16 pb M2 sp sq y2 (by have := HK.out.sp; omega) (by have := HK.out.sq; omega) HZ2.out.wr (by omega)
  have p3 : y2.cell? ⟨b, 3, none⟩ = some (.int .u64 (sp : Int)) := block_cell HZ2.out.x rfl
  have p4 : y2.cell? ⟨b, 4, none⟩ = some (.int .u32 (sq : Int)) := block_cell HZ2.out.x rfl
  go_wp2_with fail
  refine (C.out (by simp)).mono ?_
  rintro r y3 ⟨rfl, hw, hk⟩
  have HX : Hid (Pz w B b pb (En.mk k c n sp sq ap aq mp mq prim pt dn ws) ao cp (M2 ++ stampForm sp sq) y3) := HZ2.out.go hw hk
  have lf : (stampForm sp sq).length ≤ 18 := stf_len HK.out.sp HK.out.sq
  obtain ⟨M3, hL⟩ : ∃ q, M2 ++ stampForm sp sq = q := ⟨_, rfl⟩
  have lm3 : M3.length ≤ 236 := by rw [← hL, List.length_append]; omega
  have HM3 : Hid (M2 ++ stampForm sp sq = M3) := hL
  rw [hL] at HX
  have HZ3 : Hid (Pz w B b pb (En.mk k c n sp sq ap aq mp mq prim pt dn ws) ao cp M3 y3) := HX.out
  clear hw hk HX C lf hL HZ2 lm2 p3 p4  
  have C : Hid (∀ W : World, 1 = 1 → Calls Try.prog 41 #[.int .u16 551, .int .u16 4] W fun r w' => r = .returned (.bool true) ∧ W = w') := fun W _ => has41 551 4 W (by omega) (by omega)
  go_wp2_with fail
  refine (C.out _ (by trivial)).mono ?_
  rintro r wx ⟨rfl, rfl⟩
  clear C
  have C : Hid (1 = 1 → Calls Try.prog 42 #[.pointer (some ⟨pb, 0, none⟩), .agg #[.int .u64 (ap : Int), .int .u32 (aq : Int)]] y3 fun r w' => r = .returned (.tuple #[]) ∧ WrAt pb (M3 ++ stampForm ap aq) w' ∧ KeptW pb y3 w') := fun _ => stamp16 pb M3 ap aq y3 (by have := HK.out.ap; omega) (by have := HK.out.aq; omega) HZ3.out.wr (by omega)
  have p5 : y3.cell? ⟨b, 5, none⟩ = some (.int .u64 (ap : Int)) := block_cell HZ3.out.x rfl
  have p6 : y3.cell? ⟨b, 6, none⟩ = some (.int .u32 (aq : Int)) := block_cell HZ3.out.x rfl
  go_wp2_with fail
  refine (C.out (by simp)).mono ?_
  rintro r y4 ⟨rfl, hw, hk⟩
  have HX : Hid (Pz w B b pb (En.mk k c n sp sq ap aq mp mq prim pt dn ws) ao cp (M3 ++ stampForm ap aq) y4) := HZ3.out.go hw hk
  have lf : (stampForm ap aq).length ≤ 18 := stf_len HK.out.ap HK.out.aq
  obtain ⟨M4, hL⟩ : ∃ q, M3 ++ stampForm ap aq = q := ⟨_, rfl⟩
  have lm4 : M4.length ≤ 254 := by rw [← hL, List.length_append]; omega
  have HM4 : Hid (M3 ++ stampForm ap aq = M4) := hL
  rw [hL] at HX
  have HZ4 : Hid (Pz w B b pb (En.mk k c n sp sq ap aq mp mq prim pt dn ws) ao cp M4 y4) := HX.out
  clear hw hk HX C lf hL HZ3 lm3 p5 p6  
  have C : Hid (∀ W : World, 1 = 1 → Calls Try.prog 41 #[.int .u16 551, .int .u16 8] W fun r w' => r = .returned (.bool false) ∧ W = w') := fun W _ => has41 551 8 W (by omega) (by omega)
  go_wp2_with fail
  refine (C.out _ (by trivial)).mono ?_
  rintro r wx ⟨rfl, rfl⟩
  clear C
  have HF : Hid (L ++ ((numForm c ++ numForm n) ++ stampForm sp sq ++ stampForm ap aq) = M4) := by
    show _ = _
    rw [← HM4.out]
    rw [← HM3.out]
    rw [← HM2.out]
    rw [← HM1.out]
    rw [← HM0.out]
    try simp [List.append_assoc]
  go_wp2_with fail
  go_end0
  exact ⟨rfl, (by have h := HZ4.out.wr; rw [← HF.out] at h; first | exact h | simpa only [List.append_assoc] using h), HZ4.out.k⟩
set_option maxHeartbeats 3200000 in
set_option maxRecDepth 100000 in
theorem ph16_103 (k : Int) (c n sp sq ap aq mp mq : Nat) (prim : List UInt8) (pt : Nat) (dn : Bool) (ws : List Wr) (ao : Option Addr) (cp : Nat) (w : World) (B pb : Nat) (L : List UInt8) (hk : Wk c n sp sq ap aq mp mq prim pt ws) (hws : WsAt B (.slice ao ws.length cp) ws w) (hB : B ≤ pb) (hw : WrAt pb L w) (hL : L.length ≤ 200) :
    Calls Try.prog 16 #[.pointer (some ⟨pb, 0, none⟩), .agg #[.int .i64 k, .int .u32 (c : Int), .int .u32 (n : Int), .int .u64 (sp : Int), .int .u32 (sq : Int), .int .u64 (ap : Int), .int .u32 (aq : Int), .int .u64 (mp : Int), .int .u32 (mq : Int), .string (bs prim), .int .u8 (pt : Int), .bool dn, .slice ao ws.length cp], .int .u16 103] w fun r w' => r = .returned (.tuple #[]) ∧ WrAt pb (L ++ ((numForm c ++ numForm n) ++ stampForm sp sq ++ stampForm ap aq)) w' ∧ KeptW pb w w' := by
  have H0 : Hid _ := pz_new (e := (En.mk k c n sp sq ap aq mp mq prim pt dn ws)) hw hws hB
  obtain ⟨ao', cap, he, hla, hma⟩ := hws.shape
  simp only [Value.slice.injEq, true_and] at he
  obtain ⟨rfl, rfl⟩ := he
  have hL1 : ws.length < 9223372036854775808 := by omega
  obtain ⟨W1, hW1⟩ : ∃ W1, w.alloc (.cells #[.int .i64 k, .int .u32 (c : Int), .int .u32 (n : Int), .int .u64 (sp : Int), .int .u32 (sq : Int), .int .u64 (ap : Int), .int .u32 (aq : Int), .int .u64 (mp : Int), .int .u32 (mq : Int), .string (bs prim), .int .u8 (pt : Int), .bool dn, .slice ao ws.length cp] 30) = W1 := ⟨_, rfl⟩
  obtain ⟨b, hb⟩ : ∃ b, w.heap.size = b := ⟨_, rfl⟩
  have HZ0 : Hid (Pz w B b pb (En.mk k c n sp sq ap aq mp mq prim pt dn ws) ao cp L W1) := by rw [← hb, ← hW1]; exact H0.out
  have HK : Hid _ := hk
  clear H0 hws hla hma hk hw hB
  go_enter Try.func16, Try.ntmps16
  go_upto_region 1 with fail
  clear hb hW1
  obtain ⟨M0, hM0⟩ : ∃ M0 : List UInt8, L = M0 := ⟨_, rfl⟩
  have HM0 : Hid (L = M0) := hM0
  have lm0 : M0.length ≤ 200 := by rw [← hM0]; exact hL
  rw [hM0] at HZ0
  clear hM0 hL
  have C : Hid (∀ W : World, 1 = 1 → Calls Try.prog 41 #[.int .u16 103, .int .u16 1] W fun r w' => r = .returned (.bool true) ∧ W = w') := fun W _ => has41 103 1 W (by omega) (by omega)
  go_wp2_with fail
  refine (C.out _ (by trivial)).mono ?_
  rintro r wx ⟨rfl, rfl⟩
  clear C
  have C : Hid (1 = 1 → Calls Try.prog 14 #[.pointer (some ⟨pb, 0, none⟩), .int .u64 (c : Int)] W1 fun r w' => r = .returned (.tuple #[]) ∧ WrAt pb (M0 ++ numForm c) w' ∧ KeptW pb W1 w') := fun _ => num10 pb M0 c W1 (by have := HK.out.c; omega) HZ0.out.wr (by omega)
  have p1 : W1.cell? ⟨b, 1, none⟩ = some (.int .u32 (c : Int)) := block_cell HZ0.out.x rfl
  have x1 := u64w (n := c) (by have := HK.out.c; omega)
  go_wp2_with fail
  refine (C.out (by simp)).mono ?_
  rintro r y1 ⟨rfl, hw, hk⟩
  have HX : Hid (Pz w B b pb (En.mk k c n sp sq ap aq mp mq prim pt dn ws) ao cp (M0 ++ numForm c) y1) := HZ0.out.go hw hk
  have lf : (numForm c).length ≤ 9 := nf_len (by have := HK.out.c; omega)
  obtain ⟨M1, hL⟩ : ∃ q, M0 ++ numForm c = q := ⟨_, rfl⟩
  have lm1 : M1.length ≤ 209 := by rw [← hL, List.length_append]; omega
  have HM1 : Hid (M0 ++ numForm c = M1) := hL
  rw [hL] at HX
  have HZ1 : Hid (Pz w B b pb (En.mk k c n sp sq ap aq mp mq prim pt dn ws) ao cp M1 y1) := HX.out
  clear hw hk HX C lf hL HZ0 lm0 p1  x1
  have C : Hid (1 = 1 → Calls Try.prog 14 #[.pointer (some ⟨pb, 0, none⟩), .int .u64 (n : Int)] y1 fun r w' => r = .returned (.tuple #[]) ∧ WrAt pb (M1 ++ numForm n) w' ∧ KeptW pb y1 w') := fun _ => num10 pb M1 n y1 (by have := HK.out.n; omega) HZ1.out.wr (by omega)
  have p2 : y1.cell? ⟨b, 2, none⟩ = some (.int .u32 (n : Int)) := block_cell HZ1.out.x rfl
  have x1 := u64w (n := n) (by have := HK.out.n; omega)
  go_wp2_with fail
  refine (C.out (by simp)).mono ?_
  rintro r y2 ⟨rfl, hw, hk⟩
  have HX : Hid (Pz w B b pb (En.mk k c n sp sq ap aq mp mq prim pt dn ws) ao cp (M1 ++ numForm n) y2) := HZ1.out.go hw hk
  have lf : (numForm n).length ≤ 9 := nf_len (by have := HK.out.n; omega)
  obtain ⟨M2, hL⟩ : ∃ q, M1 ++ numForm n = q := ⟨_, rfl⟩
  have lm2 : M2.length ≤ 218 := by rw [← hL, List.length_append]; omega
  have HM2 : Hid (M1 ++ numForm n = M2) := hL
  rw [hL] at HX
  have HZ2 : Hid (Pz w B b pb (En.mk k c n sp sq ap aq mp mq prim pt dn ws) ao cp M2 y2) := HX.out
  clear hw hk HX C lf hL HZ1 lm1 p2  x1
  have C : Hid (∀ W : World, 1 = 1 → Calls Try.prog 41 #[.int .u16 103, .int .u16 2] W fun r w' => r = .returned (.bool true) ∧ W = w') := fun W _ => has41 103 2 W (by omega) (by omega)
  go_wp2_with fail
  refine (C.out _ (by trivial)).mono ?_
  rintro r wx ⟨rfl, rfl⟩
  clear C
  have C : Hid (1 = 1 → Calls Try.prog 42 #[.pointer (some ⟨pb, 0, none⟩), .agg #[.int .u64 (sp : Int), .int .u32 (sq : Int)]] y2 fun r w' => r = .returned (.tuple #[]) ∧ WrAt pb (M2 ++ stampForm sp sq) w' ∧ KeptW pb y2 w') := fun _ => stamp16 pb M2 sp sq y2 (by have := HK.out.sp; omega) (by have := HK.out.sq; omega) HZ2.out.wr (by omega)
  have p3 : y2.cell? ⟨b, 3, none⟩ = some (.int .u64 (sp : Int)) := block_cell HZ2.out.x rfl
  have p4 : y2.cell? ⟨b, 4, none⟩ = some (.int .u32 (sq : Int)) := block_cell HZ2.out.x rfl
  go_wp2_with fail
  refine (C.out (by simp)).mono ?_
  rintro r y3 ⟨rfl, hw, hk⟩
  have HX : Hid (Pz w B b pb (En.mk k c n sp sq ap aq mp mq prim pt dn ws) ao cp (M2 ++ stampForm sp sq) y3) := HZ2.out.go hw hk
  have lf : (stampForm sp sq).length ≤ 18 := stf_len HK.out.sp HK.out.sq
  obtain ⟨M3, hL⟩ : ∃ q, M2 ++ stampForm sp sq = q := ⟨_, rfl⟩
  have lm3 : M3.length ≤ 236 := by rw [← hL, List.length_append]; omega
  have HM3 : Hid (M2 ++ stampForm sp sq = M3) := hL
  rw [hL] at HX
  have HZ3 : Hid (Pz w B b pb (En.mk k c n sp sq ap aq mp mq prim pt dn ws) ao cp M3 y3) := HX.out
  clear hw hk HX C lf hL HZ2 lm2 p3 p4  
  have C : Hid (∀ W : World, 1 = 1 → Calls Try.prog 41 #[.int .u16 103, .int .u16 4] W fun r w' => r = .returned (.bool true) ∧ W = w') := fun W _ => has41 103 4 W (by omega) (by omega)
  go_wp2_with fail
  refine (C.out _ (by trivial)).mono ?_
  rintro r wx ⟨rfl, rfl⟩
  clear C
  have C : Hid (1 = 1 → Calls Try.prog 42 #[.pointer (some ⟨pb, 0, none⟩), .agg #[.int .u64 (ap : Int), .int .u32 (aq : Int)]] y3 fun r w' => r = .returned (.tuple #[]) ∧ WrAt pb (M3 ++ stampForm ap aq) w' ∧ KeptW pb y3 w') := fun _ => stamp16 pb M3 ap aq y3 (by have := HK.out.ap; omega) (by have := HK.out.aq; omega) HZ3.out.wr (by omega)
  have p5 : y3.cell? ⟨b, 5, none⟩ = some (.int .u64 (ap : Int)) := block_cell HZ3.out.x rfl
  have p6 : y3.cell? ⟨b, 6, none⟩ = some (.int .u32 (aq : Int)) := block_cell HZ3.out.x rfl
  go_wp2_with fail
  refine (C.out (by simp)).mono ?_
  rintro r y4 ⟨rfl, hw, hk⟩
  have HX : Hid (Pz w B b pb (En.mk k c n sp sq ap aq mp mq prim pt dn ws) ao cp (M3 ++ stampForm ap aq) y4) := HZ3.out.go hw hk
  have lf : (stampForm ap aq).length ≤ 18 := stf_len HK.out.ap HK.out.aq
  obtain ⟨M4, hL⟩ : ∃ q, M3 ++ stampForm ap aq = q := ⟨_, rfl⟩
  have lm4 : M4.length ≤ 254 := by rw [← hL, List.length_append]; omega
  have HM4 : Hid (M3 ++ stampForm ap aq = M4) := hL
  rw [hL] at HX
  have HZ4 : Hid (Pz w B b pb (En.mk k c n sp sq ap aq mp mq prim pt dn ws) ao cp M4 y4) := HX.out
  clear hw hk HX C lf hL HZ3 lm3 p5 p6  
  have C : Hid (∀ W : World, 1 = 1 → Calls Try.prog 41 #[.int .u16 103, .int .u16 8] W fun r w' => r = .returned (.bool false) ∧ W = w') := fun W _ => has41 103 8 W (by omega) (by omega)
  go_wp2_with fail
  refine (C.out _ (by trivial)).mono ?_
  rintro r wx ⟨rfl, rfl⟩
  clear C
  have HF : Hid (L ++ ((numForm c ++ numForm n) ++ stampForm sp sq ++ stampForm ap aq) = M4) := by
    show _ = _
    rw [← HM4.out]
    rw [← HM3.out]
    rw [← HM2.out]
    rw [← HM1.out]
    rw [← HM0.out]
    try simp [List.append_assoc]
  go_wp2_with fail
  go_end0
  exact ⟨rfl, (by have h := HZ4.out.wr; rw [← HF.out] at h; first | exact h | simpa only [List.append_assoc] using h), HZ4.out.k⟩
end Go.Proofs.Ytmgjlpgjjeknpaa
