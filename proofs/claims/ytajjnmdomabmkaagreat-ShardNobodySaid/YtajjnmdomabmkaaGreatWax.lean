import Derived.Test.YtajjnmdomabmkaaGreatWaw
set_option maxHeartbeats 4000000
set_option maxRecDepth 100000
set_option linter.unusedVariables false
namespace Go.Proofs.YtajjnmdomabmkaaGreat.Ent
open Go.RowKit Go.Sort
theorem ph16_155 (k : Int) (c n sp sq ap aq mp mq : Nat) (prim : List UInt8) (pt : Nat) (dn : Bool) (ws : List Wr) (ao : Option Addr) (cp : Nat) (w : World) (B pb : Nat) (L : List UInt8) (hk : Wk c n sp sq ap aq mp mq prim pt ws) (hws : WsAt B (.slice ao ws.length cp) ws w) (hB : B ≤ pb) (hw : WrAt pb L w) (hL : L.length ≤ 200) :
  Calls Tryz.prog 104 #[.pointer (some ⟨pb, 0, none⟩), .agg #[.int .i64 k, .int .u32 (c : Int), .int .u32 (n : Int), .int .u64 (sp : Int), .int .u32 (sq : Int), .int .u64 (ap : Int), .int .u32 (aq : Int), .int .u64 (mp : Int), .int .u32 (mq : Int), .string (bs prim), .int .u8 (pt : Int), .bool dn, .slice ao ws.length cp], .int .u16 155] w fun r w' => r = .returned (.tuple #[]) ∧ WrAt pb (L ++ ((numForm c ++ numForm n) ++ stampForm sp sq ++ stampForm mp mq)) w' ∧ KeptW pb w w' := by
 have H0 : Hid _ := pz_new (e := (En.mk k c n sp sq ap aq mp mq prim pt dn ws)) hw hws hB
 obtain ⟨ao', cap, he, hla, hma⟩ := hws.shape
 simp only [Value.slice.injEq, true_and] at he
 obtain ⟨rfl, rfl⟩ := he
 have hL1 : ws.length < 9223372036854775808 := by omega
 obtain ⟨W1, hW1⟩ : ∃ W1, w.alloc (.cells #[.int .i64 k, .int .u32 (c : Int), .int .u32 (n : Int), .int .u64 (sp : Int), .int .u32 (sq : Int), .int .u64 (ap : Int), .int .u32 (aq : Int), .int .u64 (mp : Int), .int .u32 (mq : Int), .string (bs prim), .int .u8 (pt : Int), .bool dn, .slice ao ws.length cp] 124) = W1 := ⟨_, rfl⟩
 obtain ⟨b, hb⟩ : ∃ b, w.heap.size = b := ⟨_, rfl⟩
 have HZ0 : Hid (Pz w B b pb (En.mk k c n sp sq ap aq mp mq prim pt dn ws) ao cp L W1) := by rw [← hb, ← hW1]; exact H0.out
 have HK : Hid _ := hk
 clear H0 hws hla hma hk hw hB
 go_enter Tryz.func104, Tryz.ntmps104
 go_upto_region 1 with fail
 clear hb hW1
 obtain ⟨M0, hM0⟩ : ∃ M0 : List UInt8, L = M0 := ⟨_, rfl⟩
 have HM0 : Hid (L = M0) := hM0
 have lm0 : M0.length ≤ 200 := by rw [← hM0]; exact hL
 rw [hM0] at HZ0
 clear hM0 hL
 have C : Hid (∀ W : World, 1 = 1 → Calls Tryz.prog 155 #[.int .u16 155, .int .u16 1] W fun r w' => r = .returned (.bool true) ∧ W = w') := fun W _ => has41 155 1 W (by omega) (by omega)
 go_wp2_with fail
 refine (C.out _ (by trivial)).mono ?_
 rintro r wx ⟨rfl, rfl⟩
 clear C
 have C : Hid (1 = 1 → Calls Tryz.prog 103 #[.pointer (some ⟨pb, 0, none⟩), .int .u64 (c : Int)] W1 fun r w' => r = .returned (.tuple #[]) ∧ WrAt pb (M0 ++ numForm c) w' ∧ KeptW pb W1 w') := fun _ => num10 pb M0 c W1 (by have := HK.out.c; omega) HZ0.out.wr (by omega)
 have p1 := block_cell (j := 1) HZ0.out.x rfl
 have x1 := u64w (n := c) (by have := HK.out.c; omega)
 go_wp2_with fail
 refine (C.out (by simp)).mono ?_
 rintro r y1 ⟨rfl, hw, hk⟩
 have HX : Hid (Pz w B b pb (En.mk k c n sp sq ap aq mp mq prim pt dn ws) ao cp (M0 ++ numForm c) y1) := HZ0.out.go hw hk
 have lf : (numForm c).length ≤ 9 := nf_len (by have := HK.out.c; omega)
 obtain ⟨M1, hL⟩ : ∃ q, M0 ++ numForm c = q := ⟨_, rfl⟩
 have lm1 : M1.length ≤ 209 := by rw [← hL, List.length_append]; omega
 have HM1 : Hid (M0 ++ numForm c = M1) := hL
 rw [hL] at HX
 have HZ1 : Hid (Pz w B b pb (En.mk k c n sp sq ap aq mp mq prim pt dn ws) ao cp M1 y1) := HX.out
 clear hw hk HX C lf hL HZ0 lm0 p1  x1
 have C : Hid (1 = 1 → Calls Tryz.prog 103 #[.pointer (some ⟨pb, 0, none⟩), .int .u64 (n : Int)] y1 fun r w' => r = .returned (.tuple #[]) ∧ WrAt pb (M1 ++ numForm n) w' ∧ KeptW pb y1 w') := fun _ => num10 pb M1 n y1 (by have := HK.out.n; omega) HZ1.out.wr (by omega)
 have p2 := block_cell (j := 2) HZ1.out.x rfl
 have x1 := u64w (n := n) (by have := HK.out.n; omega)
 go_wp2_with fail
 refine (C.out (by simp)).mono ?_
 rintro r y2 ⟨rfl, hw, hk⟩
 have HX : Hid (Pz w B b pb (En.mk k c n sp sq ap aq mp mq prim pt dn ws) ao cp (M1 ++ numForm n) y2) := HZ1.out.go hw hk
 have lf : (numForm n).length ≤ 9 := nf_len (by have := HK.out.n; omega)
 obtain ⟨M2, hL⟩ : ∃ q, M1 ++ numForm n = q := ⟨_, rfl⟩
 have lm2 : M2.length ≤ 218 := by rw [← hL, List.length_append]; omega
 have HM2 : Hid (M1 ++ numForm n = M2) := hL
 rw [hL] at HX
 have HZ2 : Hid (Pz w B b pb (En.mk k c n sp sq ap aq mp mq prim pt dn ws) ao cp M2 y2) := HX.out
 clear hw hk HX C lf hL HZ1 lm1 p2  x1
 have C : Hid (∀ W : World, 1 = 1 → Calls Tryz.prog 155 #[.int .u16 155, .int .u16 2] W fun r w' => r = .returned (.bool true) ∧ W = w') := fun W _ => has41 155 2 W (by omega) (by omega)
 go_wp2_with fail
 refine (C.out _ (by trivial)).mono ?_
 rintro r wx ⟨rfl, rfl⟩
 clear C
 have C : Hid (1 = 1 → Calls Tryz.prog 204 #[.pointer (some ⟨pb, 0, none⟩), .agg #[.int .u64 (sp : Int), .int .u32 (sq : Int)]] y2 fun r w' => r = .returned (.tuple #[]) ∧ WrAt pb (M2 ++ stampForm sp sq) w' ∧ KeptW pb y2 w') := fun _ => stamp16 pb M2 sp sq y2 (by have := HK.out.sp; omega) (by have := HK.out.sq; omega) HZ2.out.wr (by omega)
 have p3 := block_cell (j := 3) HZ2.out.x rfl
 have p4 := block_cell (j := 4) HZ2.out.x rfl
 go_wp2_with fail
 refine (C.out (by simp)).mono ?_
 rintro r y3 ⟨rfl, hw, hk⟩
 have HX : Hid (Pz w B b pb (En.mk k c n sp sq ap aq mp mq prim pt dn ws) ao cp (M2 ++ stampForm sp sq) y3) := HZ2.out.go hw hk
 have lf : (stampForm sp sq).length ≤ 18 := stf_len HK.out.sp HK.out.sq
 obtain ⟨M3, hL⟩ : ∃ q, M2 ++ stampForm sp sq = q := ⟨_, rfl⟩
 have lm3 : M3.length ≤ 236 := by rw [← hL, List.length_append]; omega
 have HM3 : Hid (M2 ++ stampForm sp sq = M3) := hL
 rw [hL] at HX
 have HZ3 : Hid (Pz w B b pb (En.mk k c n sp sq ap aq mp mq prim pt dn ws) ao cp M3 y3) := HX.out
 clear hw hk HX C lf hL HZ2 lm2 p3 p4  
 have C : Hid (∀ W : World, 1 = 1 → Calls Tryz.prog 155 #[.int .u16 155, .int .u16 4] W fun r w' => r = .returned (.bool false) ∧ W = w') := fun W _ => has41 155 4 W (by omega) (by omega)
 go_wp2_with fail
 refine (C.out _ (by trivial)).mono ?_
 rintro r wx ⟨rfl, rfl⟩
 clear C
 have C : Hid (∀ W : World, 1 = 1 → Calls Tryz.prog 155 #[.int .u16 155, .int .u16 8] W fun r w' => r = .returned (.bool true) ∧ W = w') := fun W _ => has41 155 8 W (by omega) (by omega)
 go_wp2_with fail
 refine (C.out _ (by trivial)).mono ?_
 rintro r wx ⟨rfl, rfl⟩
 clear C
 have C : Hid (1 = 1 → Calls Tryz.prog 204 #[.pointer (some ⟨pb, 0, none⟩), .agg #[.int .u64 (mp : Int), .int .u32 (mq : Int)]] y3 fun r w' => r = .returned (.tuple #[]) ∧ WrAt pb (M3 ++ stampForm mp mq) w' ∧ KeptW pb y3 w') := fun _ => stamp16 pb M3 mp mq y3 (by have := HK.out.mp; omega) (by have := HK.out.mq; omega) HZ3.out.wr (by omega)
 have p7 := block_cell (j := 7) HZ3.out.x rfl
 have p8 := block_cell (j := 8) HZ3.out.x rfl
 go_wp2_with fail
 refine (C.out (by simp)).mono ?_
 rintro r y4 ⟨rfl, hw, hk⟩
 have HX : Hid (Pz w B b pb (En.mk k c n sp sq ap aq mp mq prim pt dn ws) ao cp (M3 ++ stampForm mp mq) y4) := HZ3.out.go hw hk
 have lf : (stampForm mp mq).length ≤ 18 := stf_len HK.out.mp HK.out.mq
 obtain ⟨M4, hL⟩ : ∃ q, M3 ++ stampForm mp mq = q := ⟨_, rfl⟩
 have lm4 : M4.length ≤ 254 := by rw [← hL, List.length_append]; omega
 have HM4 : Hid (M3 ++ stampForm mp mq = M4) := hL
 rw [hL] at HX
 have HZ4 : Hid (Pz w B b pb (En.mk k c n sp sq ap aq mp mq prim pt dn ws) ao cp M4 y4) := HX.out
 clear hw hk HX C lf hL HZ3 lm3 p7 p8  
 have HF : Hid (L ++ ((numForm c ++ numForm n) ++ stampForm sp sq ++ stampForm mp mq) = M4) := by
  show _ = _
  rw [← HM4.out]
  rw [← HM3.out]
  rw [← HM2.out]
  rw [← HM1.out]
  rw [← HM0.out]
  try simp [List.append_assoc]
 go_wp2_with fail
 go_end0
 exact ⟨rfl, (by have h := HZ4.out.wr; rw [← HF.out] at h; first | exact h | simpa only [List.append_assoc] using h), HZ4.out.k⟩
theorem ph16_551 (k : Int) (c n sp sq ap aq mp mq : Nat) (prim : List UInt8) (pt : Nat) (dn : Bool) (ws : List Wr) (ao : Option Addr) (cp : Nat) (w : World) (B pb : Nat) (L : List UInt8) (hk : Wk c n sp sq ap aq mp mq prim pt ws) (hws : WsAt B (.slice ao ws.length cp) ws w) (hB : B ≤ pb) (hw : WrAt pb L w) (hL : L.length ≤ 200) :
  Calls Tryz.prog 104 #[.pointer (some ⟨pb, 0, none⟩), .agg #[.int .i64 k, .int .u32 (c : Int), .int .u32 (n : Int), .int .u64 (sp : Int), .int .u32 (sq : Int), .int .u64 (ap : Int), .int .u32 (aq : Int), .int .u64 (mp : Int), .int .u32 (mq : Int), .string (bs prim), .int .u8 (pt : Int), .bool dn, .slice ao ws.length cp], .int .u16 551] w fun r w' => r = .returned (.tuple #[]) ∧ WrAt pb (L ++ ((numForm c ++ numForm n) ++ stampForm sp sq ++ stampForm ap aq)) w' ∧ KeptW pb w w' := by
 have H0 : Hid _ := pz_new (e := (En.mk k c n sp sq ap aq mp mq prim pt dn ws)) hw hws hB
 obtain ⟨ao', cap, he, hla, hma⟩ := hws.shape
 simp only [Value.slice.injEq, true_and] at he
 obtain ⟨rfl, rfl⟩ := he
 have hL1 : ws.length < 9223372036854775808 := by omega
 obtain ⟨W1, hW1⟩ : ∃ W1, w.alloc (.cells #[.int .i64 k, .int .u32 (c : Int), .int .u32 (n : Int), .int .u64 (sp : Int), .int .u32 (sq : Int), .int .u64 (ap : Int), .int .u32 (aq : Int), .int .u64 (mp : Int), .int .u32 (mq : Int), .string (bs prim), .int .u8 (pt : Int), .bool dn, .slice ao ws.length cp] 124) = W1 := ⟨_, rfl⟩
 obtain ⟨b, hb⟩ : ∃ b, w.heap.size = b := ⟨_, rfl⟩
 have HZ0 : Hid (Pz w B b pb (En.mk k c n sp sq ap aq mp mq prim pt dn ws) ao cp L W1) := by rw [← hb, ← hW1]; exact H0.out
 have HK : Hid _ := hk
 clear H0 hws hla hma hk hw hB
 go_enter Tryz.func104, Tryz.ntmps104
 go_upto_region 1 with fail
 clear hb hW1
 obtain ⟨M0, hM0⟩ : ∃ M0 : List UInt8, L = M0 := ⟨_, rfl⟩
 have HM0 : Hid (L = M0) := hM0
 have lm0 : M0.length ≤ 200 := by rw [← hM0]; exact hL
 rw [hM0] at HZ0
 clear hM0 hL
 have C : Hid (∀ W : World, 1 = 1 → Calls Tryz.prog 155 #[.int .u16 551, .int .u16 1] W fun r w' => r = .returned (.bool true) ∧ W = w') := fun W _ => has41 551 1 W (by omega) (by omega)
 go_wp2_with fail
 refine (C.out _ (by trivial)).mono ?_
 rintro r wx ⟨rfl, rfl⟩
 clear C
 have C : Hid (1 = 1 → Calls Tryz.prog 103 #[.pointer (some ⟨pb, 0, none⟩), .int .u64 (c : Int)] W1 fun r w' => r = .returned (.tuple #[]) ∧ WrAt pb (M0 ++ numForm c) w' ∧ KeptW pb W1 w') := fun _ => num10 pb M0 c W1 (by have := HK.out.c; omega) HZ0.out.wr (by omega)
 have p1 := block_cell (j := 1) HZ0.out.x rfl
 have x1 := u64w (n := c) (by have := HK.out.c; omega)
 go_wp2_with fail
 refine (C.out (by simp)).mono ?_
 rintro r y1 ⟨rfl, hw, hk⟩
 have HX : Hid (Pz w B b pb (En.mk k c n sp sq ap aq mp mq prim pt dn ws) ao cp (M0 ++ numForm c) y1) := HZ0.out.go hw hk
 have lf : (numForm c).length ≤ 9 := nf_len (by have := HK.out.c; omega)
 obtain ⟨M1, hL⟩ : ∃ q, M0 ++ numForm c = q := ⟨_, rfl⟩
 have lm1 : M1.length ≤ 209 := by rw [← hL, List.length_append]; omega
 have HM1 : Hid (M0 ++ numForm c = M1) := hL
 rw [hL] at HX
 have HZ1 : Hid (Pz w B b pb (En.mk k c n sp sq ap aq mp mq prim pt dn ws) ao cp M1 y1) := HX.out
 clear hw hk HX C lf hL HZ0 lm0 p1  x1
 have C : Hid (1 = 1 → Calls Tryz.prog 103 #[.pointer (some ⟨pb, 0, none⟩), .int .u64 (n : Int)] y1 fun r w' => r = .returned (.tuple #[]) ∧ WrAt pb (M1 ++ numForm n) w' ∧ KeptW pb y1 w') := fun _ => num10 pb M1 n y1 (by have := HK.out.n; omega) HZ1.out.wr (by omega)
 have p2 := block_cell (j := 2) HZ1.out.x rfl
 have x1 := u64w (n := n) (by have := HK.out.n; omega)
 go_wp2_with fail
 refine (C.out (by simp)).mono ?_
 rintro r y2 ⟨rfl, hw, hk⟩
 have HX : Hid (Pz w B b pb (En.mk k c n sp sq ap aq mp mq prim pt dn ws) ao cp (M1 ++ numForm n) y2) := HZ1.out.go hw hk
 have lf : (numForm n).length ≤ 9 := nf_len (by have := HK.out.n; omega)
 obtain ⟨M2, hL⟩ : ∃ q, M1 ++ numForm n = q := ⟨_, rfl⟩
 have lm2 : M2.length ≤ 218 := by rw [← hL, List.length_append]; omega
 have HM2 : Hid (M1 ++ numForm n = M2) := hL
 rw [hL] at HX
 have HZ2 : Hid (Pz w B b pb (En.mk k c n sp sq ap aq mp mq prim pt dn ws) ao cp M2 y2) := HX.out
 clear hw hk HX C lf hL HZ1 lm1 p2  x1
 have C : Hid (∀ W : World, 1 = 1 → Calls Tryz.prog 155 #[.int .u16 551, .int .u16 2] W fun r w' => r = .returned (.bool true) ∧ W = w') := fun W _ => has41 551 2 W (by omega) (by omega)
 go_wp2_with fail
 refine (C.out _ (by trivial)).mono ?_
 rintro r wx ⟨rfl, rfl⟩
 clear C
 have C : Hid (1 = 1 → Calls Tryz.prog 204 #[.pointer (some ⟨pb, 0, none⟩), .agg #[.int .u64 (sp : Int), .int .u32 (sq : Int)]] y2 fun r w' => r = .returned (.tuple #[]) ∧ WrAt pb (M2 ++ stampForm sp sq) w' ∧ KeptW pb y2 w') := fun _ => stamp16 pb M2 sp sq y2 (by have := HK.out.sp; omega) (by have := HK.out.sq; omega) HZ2.out.wr (by omega)
 have p3 := block_cell (j := 3) HZ2.out.x rfl
 have p4 := block_cell (j := 4) HZ2.out.x rfl
 go_wp2_with fail
 refine (C.out (by simp)).mono ?_
 rintro r y3 ⟨rfl, hw, hk⟩
 have HX : Hid (Pz w B b pb (En.mk k c n sp sq ap aq mp mq prim pt dn ws) ao cp (M2 ++ stampForm sp sq) y3) := HZ2.out.go hw hk
 have lf : (stampForm sp sq).length ≤ 18 := stf_len HK.out.sp HK.out.sq
 obtain ⟨M3, hL⟩ : ∃ q, M2 ++ stampForm sp sq = q := ⟨_, rfl⟩
 have lm3 : M3.length ≤ 236 := by rw [← hL, List.length_append]; omega
 have HM3 : Hid (M2 ++ stampForm sp sq = M3) := hL
 rw [hL] at HX
 have HZ3 : Hid (Pz w B b pb (En.mk k c n sp sq ap aq mp mq prim pt dn ws) ao cp M3 y3) := HX.out
 clear hw hk HX C lf hL HZ2 lm2 p3 p4  
 have C : Hid (∀ W : World, 1 = 1 → Calls Tryz.prog 155 #[.int .u16 551, .int .u16 4] W fun r w' => r = .returned (.bool true) ∧ W = w') := fun W _ => has41 551 4 W (by omega) (by omega)
 go_wp2_with fail
 refine (C.out _ (by trivial)).mono ?_
 rintro r wx ⟨rfl, rfl⟩
 clear C
 have C : Hid (1 = 1 → Calls Tryz.prog 204 #[.pointer (some ⟨pb, 0, none⟩), .agg #[.int .u64 (ap : Int), .int .u32 (aq : Int)]] y3 fun r w' => r = .returned (.tuple #[]) ∧ WrAt pb (M3 ++ stampForm ap aq) w' ∧ KeptW pb y3 w') := fun _ => stamp16 pb M3 ap aq y3 (by have := HK.out.ap; omega) (by have := HK.out.aq; omega) HZ3.out.wr (by omega)
 have p5 := block_cell (j := 5) HZ3.out.x rfl
 have p6 := block_cell (j := 6) HZ3.out.x rfl
 go_wp2_with fail
 refine (C.out (by simp)).mono ?_
 rintro r y4 ⟨rfl, hw, hk⟩
 have HX : Hid (Pz w B b pb (En.mk k c n sp sq ap aq mp mq prim pt dn ws) ao cp (M3 ++ stampForm ap aq) y4) := HZ3.out.go hw hk
 have lf : (stampForm ap aq).length ≤ 18 := stf_len HK.out.ap HK.out.aq
 obtain ⟨M4, hL⟩ : ∃ q, M3 ++ stampForm ap aq = q := ⟨_, rfl⟩
 have lm4 : M4.length ≤ 254 := by rw [← hL, List.length_append]; omega
 have HM4 : Hid (M3 ++ stampForm ap aq = M4) := hL
 rw [hL] at HX
 have HZ4 : Hid (Pz w B b pb (En.mk k c n sp sq ap aq mp mq prim pt dn ws) ao cp M4 y4) := HX.out
 clear hw hk HX C lf hL HZ3 lm3 p5 p6  
 have C : Hid (∀ W : World, 1 = 1 → Calls Tryz.prog 155 #[.int .u16 551, .int .u16 8] W fun r w' => r = .returned (.bool false) ∧ W = w') := fun W _ => has41 551 8 W (by omega) (by omega)
 go_wp2_with fail
 refine (C.out _ (by trivial)).mono ?_
 rintro r wx ⟨rfl, rfl⟩
 clear C
 have HF : Hid (L ++ ((numForm c ++ numForm n) ++ stampForm sp sq ++ stampForm ap aq) = M4) := by
  show _ = _
  rw [← HM4.out]
  rw [← HM3.out]
  rw [← HM2.out]
  rw [← HM1.out]
  rw [← HM0.out]
  try simp [List.append_assoc]
 go_wp2_with fail
 go_end0
 exact ⟨rfl, (by have h := HZ4.out.wr; rw [← HF.out] at h; first | exact h | simpa only [List.append_assoc] using h), HZ4.out.k⟩
end Go.Proofs.YtajjnmdomabmkaaGreat.Ent
namespace Go.Proofs.YtajjnmdomabmkaaGreat.Ent
open Go.RowKit Go.Sort
theorem pr17_4 (k : Int) (c n sp sq ap aq mp mq : Nat) (prim : List UInt8) (pt : Nat) (dn : Bool) (ao : Option Addr) (cp : Nat) (w : World) (B pb : Nat) (L : List UInt8) (hk : Wk c n sp sq ap aq mp mq prim pt []) (hws : WsAt B (.slice ao 0 cp) [] w) (hB : B ≤ pb) (hw : WrAt pb L w) (hL : L.length ≤ 200) :
  Calls Tryz.prog 105 #[.pointer (some ⟨pb, 0, none⟩), .agg #[.int .i64 k, .int .u32 (c : Int), .int .u32 (n : Int), .int .u64 (sp : Int), .int .u32 (sq : Int), .int .u64 (ap : Int), .int .u32 (aq : Int), .int .u64 (mp : Int), .int .u32 (mq : Int), .string (bs prim), .int .u8 (pt : Int), .bool dn, .slice ao 0 cp], .int .u16 4] w fun r w' => r = .returned (.tuple #[]) ∧ WrAt pb (L ++ ([] : List UInt8)) w' ∧ KeptW pb w w' := by
 have H0 : Hid _ := pz_new (e := (En.mk k c n sp sq ap aq mp mq prim pt dn [])) hw hws hB
 skip
 obtain ⟨W1, hW1⟩ : ∃ W1, w.alloc (.cells #[.int .i64 k, .int .u32 (c : Int), .int .u32 (n : Int), .int .u64 (sp : Int), .int .u32 (sq : Int), .int .u64 (ap : Int), .int .u32 (aq : Int), .int .u64 (mp : Int), .int .u32 (mq : Int), .string (bs prim), .int .u8 (pt : Int), .bool dn, .slice ao 0 cp] 124) = W1 := ⟨_, rfl⟩
 obtain ⟨b, hb⟩ : ∃ b, w.heap.size = b := ⟨_, rfl⟩
 have HZ0 : Hid (Pz w B b pb (En.mk k c n sp sq ap aq mp mq prim pt dn []) ao cp L W1) := by rw [← hb, ← hW1]; exact H0.out
 have HK : Hid _ := hk
 clear H0 hws  hk hw hB
 go_enter Tryz.func105, Tryz.ntmps105
 go_upto_region 1 with fail
 clear hb hW1
 obtain ⟨M0, hM0⟩ : ∃ M0 : List UInt8, L = M0 := ⟨_, rfl⟩
 have HM0 : Hid (L = M0) := hM0
 have lm0 : M0.length ≤ 200 := by rw [← hM0]; exact hL
 rw [hM0] at HZ0
 clear hM0 hL
 have C : Hid (∀ W : World, 1 = 1 → Calls Tryz.prog 155 #[.int .u16 4, .int .u16 16] W fun r w' => r = .returned (.bool false) ∧ W = w') := fun W _ => has41 4 16 W (by omega) (by omega)
 go_wp2_with fail
 refine (C.out _ (by trivial)).mono ?_
 rintro r wx ⟨rfl, rfl⟩
 clear C
 have C : Hid (∀ W : World, 1 = 1 → Calls Tryz.prog 155 #[.int .u16 4, .int .u16 32] W fun r w' => r = .returned (.bool false) ∧ W = w') := fun W _ => has41 4 32 W (by omega) (by omega)
 go_wp2_with fail
 refine (C.out _ (by trivial)).mono ?_
 rintro r wx ⟨rfl, rfl⟩
 clear C
 have C : Hid (∀ W : World, 1 = 1 → Calls Tryz.prog 155 #[.int .u16 4, .int .u16 64] W fun r w' => r = .returned (.bool false) ∧ W = w') := fun W _ => has41 4 64 W (by omega) (by omega)
 go_wp2_with fail
 refine (C.out _ (by trivial)).mono ?_
 rintro r wx ⟨rfl, rfl⟩
 clear C
 have C : Hid (∀ W : World, 1 = 1 → Calls Tryz.prog 155 #[.int .u16 4, .int .u16 128] W fun r w' => r = .returned (.bool false) ∧ W = w') := fun W _ => has41 4 128 W (by omega) (by omega)
 go_wp2_with fail
 refine (C.out _ (by trivial)).mono ?_
 rintro r wx ⟨rfl, rfl⟩
 clear C
 have p12 := block_cell (j := 12) HZ0.out.x rfl
 go_wp2_with fail
 clear p12
 go_loopw [43] (fun i wr => i = .int .i64 0 ∧ Hid (Pz w B b pb (En.mk k c n sp sq ap aq mp mq prim pt dn []) ao cp M0 wr)) (fun _ _ => 0)
 case atStart => exact ⟨rfl, HZ0.out⟩
 case round =>
  obtain ⟨rfl, HE⟩ := hrel
  clear HZ0
  have HF : Hid (L ++ ([] : List UInt8) = M0) := by
   show _ = _
   rw [← HM0.out]
   try simp
  go_wp2_with fail
  go_end0
  exact ⟨rfl, (by have h := HE.out.wr; rw [← HF.out] at h; first | exact h | simpa only [List.append_assoc] using h), HE.out.k⟩
end Go.Proofs.YtajjnmdomabmkaaGreat.Ent
namespace Go.Proofs.YtajjnmdomabmkaaGreat.Ent
open Go.RowKit Go.Sort
theorem pr17_551 (k : Int) (c n sp sq ap aq mp mq : Nat) (prim : List UInt8) (pt : Nat) (dn : Bool) (ao : Option Addr) (cp : Nat) (w : World) (B pb : Nat) (L : List UInt8) (hk : Wk c n sp sq ap aq mp mq prim pt []) (hws : WsAt B (.slice ao 0 cp) [] w) (hB : B ≤ pb) (hw : WrAt pb L w) (hL : L.length ≤ 200) :
  Calls Tryz.prog 105 #[.pointer (some ⟨pb, 0, none⟩), .agg #[.int .i64 k, .int .u32 (c : Int), .int .u32 (n : Int), .int .u64 (sp : Int), .int .u32 (sq : Int), .int .u64 (ap : Int), .int .u32 (aq : Int), .int .u64 (mp : Int), .int .u32 (mq : Int), .string (bs prim), .int .u8 (pt : Int), .bool dn, .slice ao 0 cp], .int .u16 551] w fun r w' => r = .returned (.tuple #[]) ∧ WrAt pb (L ++ (numForm pt)) w' ∧ KeptW pb w w' := by
 have H0 : Hid _ := pz_new (e := (En.mk k c n sp sq ap aq mp mq prim pt dn [])) hw hws hB
 skip
 obtain ⟨W1, hW1⟩ : ∃ W1, w.alloc (.cells #[.int .i64 k, .int .u32 (c : Int), .int .u32 (n : Int), .int .u64 (sp : Int), .int .u32 (sq : Int), .int .u64 (ap : Int), .int .u32 (aq : Int), .int .u64 (mp : Int), .int .u32 (mq : Int), .string (bs prim), .int .u8 (pt : Int), .bool dn, .slice ao 0 cp] 124) = W1 := ⟨_, rfl⟩
 obtain ⟨b, hb⟩ : ∃ b, w.heap.size = b := ⟨_, rfl⟩
 have HZ0 : Hid (Pz w B b pb (En.mk k c n sp sq ap aq mp mq prim pt dn []) ao cp L W1) := by rw [← hb, ← hW1]; exact H0.out
 have HK : Hid _ := hk
 clear H0 hws  hk hw hB
 go_enter Tryz.func105, Tryz.ntmps105
 go_upto_region 1 with fail
 clear hb hW1
 obtain ⟨M0, hM0⟩ : ∃ M0 : List UInt8, L = M0 := ⟨_, rfl⟩
 have HM0 : Hid (L = M0) := hM0
 have lm0 : M0.length ≤ 200 := by rw [← hM0]; exact hL
 rw [hM0] at HZ0
 clear hM0 hL
 have C : Hid (∀ W : World, 1 = 1 → Calls Tryz.prog 155 #[.int .u16 551, .int .u16 16] W fun r w' => r = .returned (.bool false) ∧ W = w') := fun W _ => has41 551 16 W (by omega) (by omega)
 go_wp2_with fail
 refine (C.out _ (by trivial)).mono ?_
 rintro r wx ⟨rfl, rfl⟩
 clear C
 have C : Hid (∀ W : World, 1 = 1 → Calls Tryz.prog 155 #[.int .u16 551, .int .u16 32] W fun r w' => r = .returned (.bool true) ∧ W = w') := fun W _ => has41 551 32 W (by omega) (by omega)
 go_wp2_with fail
 refine (C.out _ (by trivial)).mono ?_
 rintro r wx ⟨rfl, rfl⟩
 clear C
 have C : Hid (1 = 1 → Calls Tryz.prog 103 #[.pointer (some ⟨pb, 0, none⟩), .int .u64 (pt : Int)] W1 fun r w' => r = .returned (.tuple #[]) ∧ WrAt pb (M0 ++ numForm pt) w' ∧ KeptW pb W1 w') := fun _ => num10 pb M0 pt W1 (by have := HK.out.pt; omega) HZ0.out.wr (by omega)
 have p10 := block_cell (j := 10) HZ0.out.x rfl
 have x1 := u64w (n := pt) (by have := HK.out.pt; omega)
 go_wp2_with fail
 refine (C.out (by simp)).mono ?_
 rintro r y1 ⟨rfl, hw, hk⟩
 have HX : Hid (Pz w B b pb (En.mk k c n sp sq ap aq mp mq prim pt dn []) ao cp (M0 ++ numForm pt) y1) := HZ0.out.go hw hk
 have lf : (numForm pt).length ≤ 9 := nf_len (by have := HK.out.pt; omega)
 obtain ⟨M1, hL⟩ : ∃ q, M0 ++ numForm pt = q := ⟨_, rfl⟩
 have lm1 : M1.length ≤ 209 := by rw [← hL, List.length_append]; omega
 have HM1 : Hid (M0 ++ numForm pt = M1) := hL
 rw [hL] at HX
 have HZ1 : Hid (Pz w B b pb (En.mk k c n sp sq ap aq mp mq prim pt dn []) ao cp M1 y1) := HX.out
 clear hw hk HX C lf hL HZ0 lm0 p10  x1
 have C : Hid (∀ W : World, 1 = 1 → Calls Tryz.prog 155 #[.int .u16 551, .int .u16 64] W fun r w' => r = .returned (.bool false) ∧ W = w') := fun W _ => has41 551 64 W (by omega) (by omega)
 go_wp2_with fail
 refine (C.out _ (by trivial)).mono ?_
 rintro r wx ⟨rfl, rfl⟩
 clear C
 have C : Hid (∀ W : World, 1 = 1 → Calls Tryz.prog 155 #[.int .u16 551, .int .u16 128] W fun r w' => r = .returned (.bool false) ∧ W = w') := fun W _ => has41 551 128 W (by omega) (by omega)
 go_wp2_with fail
 refine (C.out _ (by trivial)).mono ?_
 rintro r wx ⟨rfl, rfl⟩
 clear C
 have p12 := block_cell (j := 12) HZ1.out.x rfl
 go_wp2_with fail
 clear p12
 go_loopw [43] (fun i wr => i = .int .i64 0 ∧ Hid (Pz w B b pb (En.mk k c n sp sq ap aq mp mq prim pt dn []) ao cp M1 wr)) (fun _ _ => 0)
 case atStart => exact ⟨rfl, HZ1.out⟩
 case round =>
  obtain ⟨rfl, HE⟩ := hrel
  clear HZ1
  have HF : Hid (L ++ (numForm pt) = M1) := by
   show _ = _
   rw [← HM1.out]
   rw [← HM0.out]
   try simp [List.append_assoc]
  go_wp2_with fail
  go_end0
  exact ⟨rfl, (by have h := HE.out.wr; rw [← HF.out] at h; first | exact h | simpa only [List.append_assoc] using h), HE.out.k⟩
end Go.Proofs.YtajjnmdomabmkaaGreat.Ent
namespace Go.Proofs.YtajjnmdomabmkaaGreat.Ent
open Go.RowKit Go.Sort
theorem pr17_155 (k : Int) (c n sp sq ap aq mp mq : Nat) (prim : List UInt8) (pt : Nat) (dn : Bool) (ws : List Wr) (ao : Option Addr) (cp : Nat) (w : World) (B pb : Nat) (L : List UInt8) (hk : Wk c n sp sq ap aq mp mq prim pt ws) (hws : WsAt B (.slice ao ws.length cp) ws w) (hB : B ≤ pb) (hw : WrAt pb L w) (hL : L.length ≤ 200) :
  Calls Tryz.prog 105 #[.pointer (some ⟨pb, 0, none⟩), .agg #[.int .i64 k, .int .u32 (c : Int), .int .u32 (n : Int), .int .u64 (sp : Int), .int .u32 (sq : Int), .int .u64 (ap : Int), .int .u32 (aq : Int), .int .u64 (mp : Int), .int .u32 (mq : Int), .string (bs prim), .int .u8 (pt : Int), .bool dn, .slice ao ws.length cp], .int .u16 155] w fun r w' => r = .returned (.tuple #[]) ∧ WrAt pb (L ++ (textForm prim ++ numForm ws.length ++ wsForm ws)) w' ∧ KeptW pb w w' := by
 have H0 : Hid _ := pz_new (e := (En.mk k c n sp sq ap aq mp mq prim pt dn ws)) hw hws hB
 obtain ⟨ao', cap, he, hla, hma⟩ := hws.shape
 simp only [Value.slice.injEq, true_and] at he
 obtain ⟨rfl, rfl⟩ := he
 have hL1 : ws.length < 9223372036854775808 := by omega
 obtain ⟨W1, hW1⟩ : ∃ W1, w.alloc (.cells #[.int .i64 k, .int .u32 (c : Int), .int .u32 (n : Int), .int .u64 (sp : Int), .int .u32 (sq : Int), .int .u64 (ap : Int), .int .u32 (aq : Int), .int .u64 (mp : Int), .int .u32 (mq : Int), .string (bs prim), .int .u8 (pt : Int), .bool dn, .slice ao ws.length cp] 124) = W1 := ⟨_, rfl⟩
 obtain ⟨b, hb⟩ : ∃ b, w.heap.size = b := ⟨_, rfl⟩
 have HZ0 : Hid (Pz w B b pb (En.mk k c n sp sq ap aq mp mq prim pt dn ws) ao cp L W1) := by rw [← hb, ← hW1]; exact H0.out
 have HK : Hid _ := hk
 clear H0 hws hla hma hk hw hB
 go_enter Tryz.func105, Tryz.ntmps105
 go_upto_region 1 with fail
 clear hb hW1
 obtain ⟨M0, hM0⟩ : ∃ M0 : List UInt8, L = M0 := ⟨_, rfl⟩
 have HM0 : Hid (L = M0) := hM0
 have lm0 : M0.length ≤ 200 := by rw [← hM0]; exact hL
 rw [hM0] at HZ0
 clear hM0 hL
 have C : Hid (∀ W : World, 1 = 1 → Calls Tryz.prog 155 #[.int .u16 155, .int .u16 16] W fun r w' => r = .returned (.bool true) ∧ W = w') := fun W _ => has41 155 16 W (by omega) (by omega)
 go_wp2_with fail
 refine (C.out _ (by trivial)).mono ?_
 rintro r wx ⟨rfl, rfl⟩
 clear C
 have C : Hid (1 = 1 → Calls Tryz.prog 205 #[.pointer (some ⟨pb, 0, none⟩), .string (bs prim)] W1 fun r w' => r = .returned (.tuple #[]) ∧ WrAt pb (M0 ++ textForm prim) w' ∧ KeptW pb W1 w') := fun _ => text19 pb M0 prim W1 HZ0.out.wr (by have := HK.out.prim; omega)
 have p9 := block_cell (j := 9) HZ0.out.x rfl
 go_wp2_with fail
 refine (C.out (by simp)).mono ?_
 rintro r y1 ⟨rfl, hw, hk⟩
 have HX : Hid (Pz w B b pb (En.mk k c n sp sq ap aq mp mq prim pt dn ws) ao cp (M0 ++ textForm prim) y1) := HZ0.out.go hw hk
 have lf : (textForm prim).length ≤ 1009 := tf_len HK.out.prim
 obtain ⟨M1, hL⟩ : ∃ q, M0 ++ textForm prim = q := ⟨_, rfl⟩
 have lm1 : M1.length ≤ 1209 := by rw [← hL, List.length_append]; omega
 have HM1 : Hid (M0 ++ textForm prim = M1) := hL
 rw [hL] at HX
 have HZ1 : Hid (Pz w B b pb (En.mk k c n sp sq ap aq mp mq prim pt dn ws) ao cp M1 y1) := HX.out
 clear hw hk HX C lf hL HZ0 lm0 p9  
 have C : Hid (∀ W : World, 1 = 1 → Calls Tryz.prog 155 #[.int .u16 155, .int .u16 32] W fun r w' => r = .returned (.bool false) ∧ W = w') := fun W _ => has41 155 32 W (by omega) (by omega)
 go_wp2_with fail
 refine (C.out _ (by trivial)).mono ?_
 rintro r wx ⟨rfl, rfl⟩
 clear C
 have C : Hid (∀ W : World, 1 = 1 → Calls Tryz.prog 155 #[.int .u16 155, .int .u16 64] W fun r w' => r = .returned (.bool false) ∧ W = w') := fun W _ => has41 155 64 W (by omega) (by omega)
 go_wp2_with fail
 refine (C.out _ (by trivial)).mono ?_
 rintro r wx ⟨rfl, rfl⟩
 clear C
 have C : Hid (∀ W : World, 1 = 1 → Calls Tryz.prog 155 #[.int .u16 155, .int .u16 128] W fun r w' => r = .returned (.bool true) ∧ W = w') := fun W _ => has41 155 128 W (by omega) (by omega)
 go_wp2_with fail
 refine (C.out _ (by trivial)).mono ?_
 rintro r wx ⟨rfl, rfl⟩
 clear C
 have C : Hid (∀ W : World, 1 = 1 → Calls Tryz.prog 155 #[.int .u16 155, .int .u16 256] W fun r w' => r = .returned (.bool false) ∧ W = w') := fun W _ => has41 155 256 W (by omega) (by omega)
 go_wp2_with fail
 refine (C.out _ (by trivial)).mono ?_
 rintro r wx ⟨rfl, rfl⟩
 clear C
 have C : Hid (1 = 1 → Calls Tryz.prog 103 #[.pointer (some ⟨pb, 0, none⟩), .int .u64 (ws.length : Int)] y1 fun r w' => r = .returned (.tuple #[]) ∧ WrAt pb (M1 ++ numForm ws.length) w' ∧ KeptW pb y1 w') := fun _ => num10 pb M1 ws.length y1 (by omega) HZ1.out.wr (by omega)
 have p12 := block_cell (j := 12) HZ1.out.x rfl
 have x1 := u64w (n := ws.length) (by omega)
 go_wp2_with fail
 refine (C.out (by simp)).mono ?_
 rintro r y2 ⟨rfl, hw, hk⟩
 have HX : Hid (Pz w B b pb (En.mk k c n sp sq ap aq mp mq prim pt dn ws) ao cp (M1 ++ numForm ws.length) y2) := HZ1.out.go hw hk
 have lf : (numForm ws.length).length ≤ 9 := nf_len (by omega)
 obtain ⟨M2, hL⟩ : ∃ q, M1 ++ numForm ws.length = q := ⟨_, rfl⟩
 have lm2 : M2.length ≤ 1218 := by rw [← hL, List.length_append]; omega
 have HM2 : Hid (M1 ++ numForm ws.length = M2) := hL
 rw [hL] at HX
 have HZ2 : Hid (Pz w B b pb (En.mk k c n sp sq ap aq mp mq prim pt dn ws) ao cp M2 y2) := HX.out
 clear hw hk HX C lf hL HZ1 lm1 p12  x1
 have p12 := block_cell (j := 12) HZ2.out.x rfl
 go_wp2_with fail
 clear p12
 have HW0 : Hid (M2 ++ wsForm (ws.take 0) = M2) := by show _ = _; simp [wsForm]
 go_loopw [43] (fun i wr => ∃ m : Nat, m ≤ ws.length ∧ i = .int .i64 m ∧ Hid (Pz w B b pb (En.mk k c n sp sq ap aq mp mq prim pt dn ws) ao cp (M2 ++ wsForm (ws.take m)) wr)) (fun i _ => ws.length - (intOf i).toNat)
 case atStart => exact ⟨0, Nat.zero_le _, rfl, by rw [HW0.out]; exact HZ2.out⟩
 case round =>
  obtain ⟨m, hm, rfl, HE⟩ := hrel
  clear HW0 HZ2
  by_cases hml : m < ws.length
  ·obtain ⟨c1, o1, rfl, d0, d1, d2⟩ := HE.out.ws.el hml
   have hml1 : (m : Int) < ws.length := by omega
   have HX0 : Hid (wOk (ws.getD m dw) = true) := HK.out.ws _ (getD_memW hml)
   have lt1 : (wsForm (ws.take m)).length ≤ 307 * 16 := by
    have h1 := ws_len (ws := ws.take m) (fun x hx => HK.out.ws x (List.mem_of_mem_take hx))
    have h2 : (ws.take m).length ≤ 16 := by have := HK.out.len; rw [List.length_take]; omega
    omega
   have HT : Hid (M2 ++ wsForm (ws.take m) ++ wrForm (ws.getD m dw) = M2 ++ wsForm (ws.take (m + 1))) := by show _ = _; rw [take_form hml, List.append_assoc]
   have HQ : Hid (m + 1 ≤ ws.length) := hml
   obtain ⟨LM, hLM⟩ : ∃ LM, M2 ++ wsForm (ws.take m) = LM := ⟨_, rfl⟩
   have lm90 : LM.length ≤ 6130 := by rw [← hLM, List.length_append]; omega
   rw [hLM] at HE HT
   clear hLM lt1 lm2
   generalize ws.getD m dw = x at *
   have HB0 : Hid _ := HE.out.box x
   go_upto_region 12 with fail
   obtain ⟨y90, hy⟩ : ∃ y90, wr.alloc (.cells #[.string (bs x.key), .string (bs x.val), .bool x.dead] 144) = y90 := ⟨_, rfl⟩
   obtain ⟨bw, hbw⟩ : ∃ bw, wr.heap.size = bw := ⟨_, rfl⟩
   have HZ90 : Hid (Pb w B b pb bw (En.mk k c n sp sq ap aq mp mq prim pt dn ws) (some ⟨c1, o1, none⟩) cp LM x y90) := by rw [← hy, ← hbw]; exact HB0.out
   rw [hy, hbw]
   clear HB0 hy hbw HE d0 d1 d2
   have C : Hid (1 = 1 → Calls Tryz.prog 205 #[.pointer (some ⟨pb, 0, none⟩), .string (bs x.key)] y90 fun r w' => r = .returned (.tuple #[]) ∧ WrAt pb (LM ++ textForm x.key) w' ∧ KeptW pb y90 w') := fun _ => text19 pb LM x.key y90 HZ90.out.z.wr (by have := (wOk_iff HX0.out).1; omega)
   have g0 := block_cell (j := 0) HZ90.out.bx rfl
   go_wp2_with fail
   refine (C.out (by simp)).mono ?_
   rintro r y91 ⟨rfl, hw, hk⟩
   have HX : Hid (Pb w B b pb bw (En.mk k c n sp sq ap aq mp mq prim pt dn ws) (some ⟨c1, o1, none⟩) cp (LM ++ textForm x.key) x y91) := HZ90.out.go hw hk
   have lf : (textForm x.key).length ≤ 1009 := tf_len (by have := (wOk_iff HX0.out).1; omega)
   obtain ⟨M91, hL⟩ : ∃ q, LM ++ textForm x.key = q := ⟨_, rfl⟩
   have lm91 : M91.length ≤ 7139 := by rw [← hL, List.length_append]; omega
   have HM91 : Hid (LM ++ textForm x.key = M91) := hL
   rw [hL] at HX
   have HZ91 : Hid (Pb w B b pb bw (En.mk k c n sp sq ap aq mp mq prim pt dn ws) (some ⟨c1, o1, none⟩) cp M91 x y91) := HX.out
   clear hw hk HX C lf hL HZ90 lm90  g0 
   have C : Hid (1 = 1 → Calls Tryz.prog 206 #[.pointer (some ⟨pb, 0, none⟩), .bool x.dead] y91 fun r w' => r = .returned (.tuple #[]) ∧ WrAt pb (M91 ++ flagForm x.dead) w' ∧ KeptW pb y91 w') := fun _ => flag14 pb M91 x.dead y91 HZ91.out.z.wr (by omega)
   have g2 := block_cell (j := 2) HZ91.out.bx rfl
   go_wp2_with fail
   refine (C.out (by simp)).mono ?_
   rintro r y92 ⟨rfl, hw, hk⟩
   have HX : Hid (Pb w B b pb bw (En.mk k c n sp sq ap aq mp mq prim pt dn ws) (some ⟨c1, o1, none⟩) cp (M91 ++ flagForm x.dead) x y92) := HZ91.out.go hw hk
   have lf : (flagForm x.dead).length ≤ 1 := by rw [ff_len]; exact Nat.le_refl _
   obtain ⟨M92, hL⟩ : ∃ q, M91 ++ flagForm x.dead = q := ⟨_, rfl⟩
   have lm92 : M92.length ≤ 7140 := by rw [← hL, List.length_append]; omega
   have HM92 : Hid (M91 ++ flagForm x.dead = M92) := hL
   rw [hL] at HX
   have HZ92 : Hid (Pb w B b pb bw (En.mk k c n sp sq ap aq mp mq prim pt dn ws) (some ⟨c1, o1, none⟩) cp M92 x y92) := HX.out
   clear hw hk HX C lf hL HZ91 lm91  g2 
   have C : Hid (1 = 1 → Calls Tryz.prog 205 #[.pointer (some ⟨pb, 0, none⟩), .string (bs x.val)] y92 fun r w' => r = .returned (.tuple #[]) ∧ WrAt pb (M92 ++ textForm x.val) w' ∧ KeptW pb y92 w') := fun _ => text19 pb M92 x.val y92 HZ92.out.z.wr (by have := (wOk_iff HX0.out).2; omega)
   have g1 := block_cell (j := 1) HZ92.out.bx rfl
   go_wp2_with fail
   refine (C.out (by simp)).mono ?_
   rintro r y93 ⟨rfl, hw, hk⟩
   have HX : Hid (Pb w B b pb bw (En.mk k c n sp sq ap aq mp mq prim pt dn ws) (some ⟨c1, o1, none⟩) cp (M92 ++ textForm x.val) x y93) := HZ92.out.go hw hk
   have lf : (textForm x.val).length ≤ 1009 := tf_len (by have := (wOk_iff HX0.out).2; omega)
   obtain ⟨M93, hL⟩ : ∃ q, M92 ++ textForm x.val = q := ⟨_, rfl⟩
   have lm93 : M93.length ≤ 8149 := by rw [← hL, List.length_append]; omega
   have HM93 : Hid (M92 ++ textForm x.val = M93) := hL
   rw [hL] at HX
   have HZ93 : Hid (Pb w B b pb bw (En.mk k c n sp sq ap aq mp mq prim pt dn ws) (some ⟨c1, o1, none⟩) cp M93 x y93) := HX.out
   clear hw hk HX C lf hL HZ92 lm92  g1 
   have HLF : Hid (M93 = M2 ++ wsForm (ws.take (m + 1))) := by
    show _ = _
    rw [← HM93.out, ← HM92.out, ← HM91.out, ← HT.out]
    unfold wrForm
    simp only [List.append_assoc]
   clear HM91 HM92 HM93 HT
   go_wp2_with fail
   go_roundw
   case rel => exact ⟨m + 1, HQ.out, by go_num, by rw [← HLF.out]; exact HZ93.out.z⟩
   case measure => simp [intOf]; omega
  ·have hml1 : ¬ (m : Int) < ws.length := by omega
   have HTW : Hid (ws.take m = ws) := List.take_of_length_le (by omega)
   rw [HTW.out] at HE
   obtain ⟨LW, hLW⟩ : ∃ LW, M2 ++ wsForm ws = LW := ⟨_, rfl⟩
   have HLW : Hid (M2 ++ wsForm ws = LW) := hLW
   rw [hLW] at HE
   clear hLW
   have HF : Hid (L ++ (textForm prim ++ numForm ws.length ++ wsForm ws) = LW) := by
    show _ = _
    rw [← HLW.out]
    rw [← HM2.out]
    rw [← HM1.out]
    rw [← HM0.out]
    try simp [List.append_assoc]
   go_wp2_with fail
   go_end0
   exact ⟨rfl, (by have h := HE.out.wr; rw [← HF.out] at h; first | exact h | simpa only [List.append_assoc] using h), HE.out.k⟩
end Go.Proofs.YtajjnmdomabmkaaGreat.Ent
