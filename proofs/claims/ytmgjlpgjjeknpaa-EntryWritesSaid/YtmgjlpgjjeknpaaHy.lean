/-
  The program's putRest.
-/
import Derived.Test.YtmgjlpgjjeknpaaHp
namespace Go.Proofs.Ytmgjlpgjjeknpaa
open Go.RowKit Go.Sort

set_option maxHeartbeats 3200000 in
set_option maxRecDepth 100000 in
theorem pr17_4 (k : Int) (c n sp sq ap aq mp mq : Nat) (prim : List UInt8) (pt : Nat) (dn : Bool) (ao : Option Addr) (cp : Nat) (w : World) (B pb : Nat) (L : List UInt8) (hk : Wk c n sp sq ap aq mp mq prim pt []) (hws : WsAt B (.slice ao 0 cp) [] w) (hB : B ≤ pb) (hw : WrAt pb L w) (hL : L.length ≤ 200) :
    Calls Try.prog 17 #[.pointer (some ⟨pb, 0, none⟩), .agg #[.int .i64 k, .int .u32 (c : Int), .int .u32 (n : Int), .int .u64 (sp : Int), .int .u32 (sq : Int), .int .u64 (ap : Int), .int .u32 (aq : Int), .int .u64 (mp : Int), .int .u32 (mq : Int), .string (bs prim), .int .u8 (pt : Int), .bool dn, .slice ao 0 cp], .int .u16 4] w fun r w' => r = .returned (.tuple #[]) ∧ WrAt pb (L ++ ([] : List UInt8)) w' ∧ KeptW pb w w' := by
  have H0 : Hid _ := pz_new (e := (En.mk k c n sp sq ap aq mp mq prim pt dn [])) hw hws hB
  skip
  obtain ⟨W1, hW1⟩ : ∃ W1, w.alloc (.cells #[.int .i64 k, .int .u32 (c : Int), .int .u32 (n : Int), .int .u64 (sp : Int), .int .u32 (sq : Int), .int .u64 (ap : Int), .int .u32 (aq : Int), .int .u64 (mp : Int), .int .u32 (mq : Int), .string (bs prim), .int .u8 (pt : Int), .bool dn, .slice ao 0 cp] 30) = W1 := ⟨_, rfl⟩
  obtain ⟨b, hb⟩ : ∃ b, w.heap.size = b := ⟨_, rfl⟩
  have HZ0 : Hid (Pz w B b pb (En.mk k c n sp sq ap aq mp mq prim pt dn []) ao cp L W1) := by rw [← hb, ← hW1]; exact H0.out
  have HK : Hid _ := hk
  clear H0 hws  hk hw hB
  go_enter Try.func17, Try.ntmps17
  go_upto_region 1 with fail
  clear hb hW1
  obtain ⟨M0, hM0⟩ : ∃ M0 : List UInt8, L = M0 := ⟨_, rfl⟩
  have HM0 : Hid (L = M0) := hM0
  have lm0 : M0.length ≤ 200 := by rw [← hM0]; exact hL
  rw [hM0] at HZ0
  clear hM0 hL
  have C : Hid (∀ W : World, 1 = 1 → Calls Try.prog 41 #[.int .u16 4, .int .u16 16] W fun r w' => r = .returned (.bool false) ∧ W = w') := fun W _ => has41 4 16 W (by omega) (by omega)
  go_wp2_with fail
  refine (C.out _ (by trivial)).mono ?_
  rintro r wx ⟨rfl, rfl⟩
  clear C
  have C : Hid (∀ W : World, 1 = 1 → Calls Try.prog 41 #[.int .u16 4, .int .u16 32] W fun r w' => r = .returned (.bool false) ∧ W = w') := fun W _ => has41 4 32 W (by omega) (by omega)
  go_wp2_with fail
  refine (C.out _ (by trivial)).mono ?_
  rintro r wx ⟨rfl, rfl⟩
  clear C
  have C : Hid (∀ W : World, 1 = 1 → Calls Try.prog 41 #[.int .u16 4, .int .u16 64] W fun r w' => r = .returned (.bool false) ∧ W = w') := fun W _ => has41 4 64 W (by omega) (by omega)
  go_wp2_with fail
  refine (C.out _ (by trivial)).mono ?_
  rintro r wx ⟨rfl, rfl⟩
  clear C
  have C : Hid (∀ W : World, 1 = 1 → Calls Try.prog 41 #[.int .u16 4, .int .u16 128] W fun r w' => r = .returned (.bool false) ∧ W = w') := fun W _ => has41 4 128 W (by omega) (by omega)
  go_wp2_with fail
  refine (C.out _ (by trivial)).mono ?_
  rintro r wx ⟨rfl, rfl⟩
  clear C
  have p12 : W1.cell? ⟨b, 12, none⟩ = some (.slice ao 0 cp) := block_cell HZ0.out.x rfl
  go_wp2_with fail
  clear p12
  go_loopw [43] (fun i wr => i = .int .i64 0 ∧ Hid (Pz w B b pb (En.mk k c n sp sq ap aq mp mq prim pt dn []) ao cp M0 wr)) (fun _ _ => 0)
  case atStart => exact ⟨rfl, HZ0.out⟩
  case round =>
    obtain ⟨rfl, HE⟩ := hrel
    clear HZ0
    have HF : Hid (L ++ ([] : List UInt8) = M0) := by
      show _ = _
      rw [← HM0.out]
      try simp
    go_wp2_with fail
    go_end0
    exact ⟨rfl, (by have h := HE.out.wr; rw [← HF.out] at h; first | exact h | simpa only [List.append_assoc] using h), HE.out.k⟩
set_option maxHeartbeats 3200000 in
set_option maxRecDepth 100000 in
theorem pr17_517 (k : Int) (c n sp sq ap aq mp mq : Nat) (prim : List UInt8) (pt : Nat) (dn : Bool) (ao : Option Addr) (cp : Nat) (w : World) (B pb : Nat) (L : List UInt8) (hk : Wk c n sp sq ap aq mp mq prim pt []) (hws : WsAt B (.slice ao 0 cp) [] w) (hB : B ≤ pb) (hw : WrAt pb L w) (hL : L.length ≤ 200) :
    Calls Try.prog 17 #[.pointer (some ⟨pb, 0, none⟩), .agg #[.int .i64 k, .int .u32 (c : Int), .int .u32 (n : Int), .int .u64 (sp : Int), .int .u32 (sq : Int), .int .u64 (ap : Int), .int .u32 (aq : Int), .int .u64 (mp : Int), .int .u32 (mq : Int), .string (bs prim), .int .u8 (pt : Int), .bool dn, .slice ao 0 cp], .int .u16 517] w fun r w' => r = .returned (.tuple #[]) ∧ WrAt pb (L ++ ([] : List UInt8)) w' ∧ KeptW pb w w' := by
  have H0 : Hid _ := pz_new (e := (En.mk k c n sp sq ap aq mp mq prim pt dn [])) hw hws hB
  skip
  obtain ⟨W1, hW1⟩ : ∃ W1, w.alloc (.cells #[.int .i64 k, .int .u32 (c : Int), .int .u32 (n : Int), .int .u64 (sp : Int), .int .u32 (sq : Int), .int .u64 (ap : Int), .int .u32 (aq : Int), .int .u64 (mp : Int), .int .u32 (mq : Int), .string (bs prim), .int .u8 (pt : Int), .bool dn, .slice ao 0 cp] 30) = W1 := ⟨_, rfl⟩
  obtain ⟨b, hb⟩ : ∃ b, w.heap.size = b := ⟨_, rfl⟩
  have HZ0 : Hid (Pz w B b pb (En.mk k c n sp sq ap aq mp mq prim pt dn []) ao cp L W1) := by rw [← hb, ← hW1]; exact H0.out
  have HK : Hid _ := hk
  clear H0 hws  hk hw hB
  go_enter Try.func17, Try.ntmps17
  go_upto_region 1 with fail
  clear hb hW1
  obtain ⟨M0, hM0⟩ : ∃ M0 : List UInt8, L = M0 := ⟨_, rfl⟩
  have HM0 : Hid (L = M0) := hM0
  have lm0 : M0.length ≤ 200 := by rw [← hM0]; exact hL
  rw [hM0] at HZ0
  clear hM0 hL
  have C : Hid (∀ W : World, 1 = 1 → Calls Try.prog 41 #[.int .u16 517, .int .u16 16] W fun r w' => r = .returned (.bool false) ∧ W = w') := fun W _ => has41 517 16 W (by omega) (by omega)
  go_wp2_with fail
  refine (C.out _ (by trivial)).mono ?_
  rintro r wx ⟨rfl, rfl⟩
  clear C
  have C : Hid (∀ W : World, 1 = 1 → Calls Try.prog 41 #[.int .u16 517, .int .u16 32] W fun r w' => r = .returned (.bool false) ∧ W = w') := fun W _ => has41 517 32 W (by omega) (by omega)
  go_wp2_with fail
  refine (C.out _ (by trivial)).mono ?_
  rintro r wx ⟨rfl, rfl⟩
  clear C
  have C : Hid (∀ W : World, 1 = 1 → Calls Try.prog 41 #[.int .u16 517, .int .u16 64] W fun r w' => r = .returned (.bool false) ∧ W = w') := fun W _ => has41 517 64 W (by omega) (by omega)
  go_wp2_with fail
  refine (C.out _ (by trivial)).mono ?_
  rintro r wx ⟨rfl, rfl⟩
  clear C
  have C : Hid (∀ W : World, 1 = 1 → Calls Try.prog 41 #[.int .u16 517, .int .u16 128] W fun r w' => r = .returned (.bool false) ∧ W = w') := fun W _ => has41 517 128 W (by omega) (by omega)
  go_wp2_with fail
  refine (C.out _ (by trivial)).mono ?_
  rintro r wx ⟨rfl, rfl⟩
  clear C
  have p12 : W1.cell? ⟨b, 12, none⟩ = some (.slice ao 0 cp) := block_cell HZ0.out.x rfl
  go_wp2_with fail
  clear p12
  go_loopw [43] (fun i wr => i = .int .i64 0 ∧ Hid (Pz w B b pb (En.mk k c n sp sq ap aq mp mq prim pt dn []) ao cp M0 wr)) (fun _ _ => 0)
  case atStart => exact ⟨rfl, HZ0.out⟩
  case round =>
    obtain ⟨rfl, HE⟩ := hrel
    clear HZ0
    have HF : Hid (L ++ ([] : List UInt8) = M0) := by
      show _ = _
      rw [← HM0.out]
      try simp
    go_wp2_with fail
    go_end0
    exact ⟨rfl, (by have h := HE.out.wr; rw [← HF.out] at h; first | exact h | simpa only [List.append_assoc] using h), HE.out.k⟩
set_option maxHeartbeats 3200000 in
set_option maxRecDepth 100000 in
theorem pr17_3 (k : Int) (c n sp sq ap aq mp mq : Nat) (prim : List UInt8) (pt : Nat) (dn : Bool) (ao : Option Addr) (cp : Nat) (w : World) (B pb : Nat) (L : List UInt8) (hk : Wk c n sp sq ap aq mp mq prim pt []) (hws : WsAt B (.slice ao 0 cp) [] w) (hB : B ≤ pb) (hw : WrAt pb L w) (hL : L.length ≤ 200) :
    Calls Try.prog 17 #[.pointer (some ⟨pb, 0, none⟩), .agg #[.int .i64 k, .int .u32 (c : Int), .int .u32 (n : Int), .int .u64 (sp : Int), .int .u32 (sq : Int), .int .u64 (ap : Int), .int .u32 (aq : Int), .int .u64 (mp : Int), .int .u32 (mq : Int), .string (bs prim), .int .u8 (pt : Int), .bool dn, .slice ao 0 cp], .int .u16 3] w fun r w' => r = .returned (.tuple #[]) ∧ WrAt pb (L ++ ([] : List UInt8)) w' ∧ KeptW pb w w' := by
  have H0 : Hid _ := pz_new (e := (En.mk k c n sp sq ap aq mp mq prim pt dn [])) hw hws hB
  skip
  obtain ⟨W1, hW1⟩ : ∃ W1, w.alloc (.cells #[.int .i64 k, .int .u32 (c : Int), .int .u32 (n : Int), .int .u64 (sp : Int), .int .u32 (sq : Int), .int .u64 (ap : Int), .int .u32 (aq : Int), .int .u64 (mp : Int), .int .u32 (mq : Int), .string (bs prim), .int .u8 (pt : Int), .bool dn, .slice ao 0 cp] 30) = W1 := ⟨_, rfl⟩
  obtain ⟨b, hb⟩ : ∃ b, w.heap.size = b := ⟨_, rfl⟩
  have HZ0 : Hid (Pz w B b pb (En.mk k c n sp sq ap aq mp mq prim pt dn []) ao cp L W1) := by rw [← hb, ← hW1]; exact H0.out
  have HK : Hid _ := hk
  clear H0 hws  hk hw hB
  go_enter Try.func17, Try.ntmps17
  go_upto_region 1 with fail
  clear hb hW1
  obtain ⟨M0, hM0⟩ : ∃ M0 : List UInt8, L = M0 := ⟨_, rfl⟩
  have HM0 : Hid (L = M0) := hM0
  have lm0 : M0.length ≤ 200 := by rw [← hM0]; exact hL
  rw [hM0] at HZ0
  clear hM0 hL
  have C : Hid (∀ W : World, 1 = 1 → Calls Try.prog 41 #[.int .u16 3, .int .u16 16] W fun r w' => r = .returned (.bool false) ∧ W = w') := fun W _ => has41 3 16 W (by omega) (by omega)
  go_wp2_with fail
  refine (C.out _ (by trivial)).mono ?_
  rintro r wx ⟨rfl, rfl⟩
  clear C
  have C : Hid (∀ W : World, 1 = 1 → Calls Try.prog 41 #[.int .u16 3, .int .u16 32] W fun r w' => r = .returned (.bool false) ∧ W = w') := fun W _ => has41 3 32 W (by omega) (by omega)
  go_wp2_with fail
  refine (C.out _ (by trivial)).mono ?_
  rintro r wx ⟨rfl, rfl⟩
  clear C
  have C : Hid (∀ W : World, 1 = 1 → Calls Try.prog 41 #[.int .u16 3, .int .u16 64] W fun r w' => r = .returned (.bool false) ∧ W = w') := fun W _ => has41 3 64 W (by omega) (by omega)
  go_wp2_with fail
  refine (C.out _ (by trivial)).mono ?_
  rintro r wx ⟨rfl, rfl⟩
  clear C
  have C : Hid (∀ W : World, 1 = 1 → Calls Try.prog 41 #[.int .u16 3, .int .u16 128] W fun r w' => r = .returned (.bool false) ∧ W = w') := fun W _ => has41 3 128 W (by omega) (by omega)
  go_wp2_with fail
  refine (C.out _ (by trivial)).mono ?_
  rintro r wx ⟨rfl, rfl⟩
  clear C
  have p12 : W1.cell? ⟨b, 12, none⟩ = some (.slice ao 0 cp) := block_cell HZ0.out.x rfl
  go_wp2_with fail
  clear p12
  go_loopw [43] (fun i wr => i = .int .i64 0 ∧ Hid (Pz w B b pb (En.mk k c n sp sq ap aq mp mq prim pt dn []) ao cp M0 wr)) (fun _ _ => 0)
  case atStart => exact ⟨rfl, HZ0.out⟩
  case round =>
    obtain ⟨rfl, HE⟩ := hrel
    clear HZ0
    have HF : Hid (L ++ ([] : List UInt8) = M0) := by
      show _ = _
      rw [← HM0.out]
      try simp
    go_wp2_with fail
    go_end0
    exact ⟨rfl, (by have h := HE.out.wr; rw [← HF.out] at h; first | exact h | simpa only [List.append_assoc] using h), HE.out.k⟩
set_option maxHeartbeats 3200000 in
set_option maxRecDepth 100000 in
theorem pr17_1 (k : Int) (c n sp sq ap aq mp mq : Nat) (prim : List UInt8) (pt : Nat) (dn : Bool) (ao : Option Addr) (cp : Nat) (w : World) (B pb : Nat) (L : List UInt8) (hk : Wk c n sp sq ap aq mp mq prim pt []) (hws : WsAt B (.slice ao 0 cp) [] w) (hB : B ≤ pb) (hw : WrAt pb L w) (hL : L.length ≤ 200) :
    Calls Try.prog 17 #[.pointer (some ⟨pb, 0, none⟩), .agg #[.int .i64 k, .int .u32 (c : Int), .int .u32 (n : Int), .int .u64 (sp : Int), .int .u32 (sq : Int), .int .u64 (ap : Int), .int .u32 (aq : Int), .int .u64 (mp : Int), .int .u32 (mq : Int), .string (bs prim), .int .u8 (pt : Int), .bool dn, .slice ao 0 cp], .int .u16 1] w fun r w' => r = .returned (.tuple #[]) ∧ WrAt pb (L ++ ([] : List UInt8)) w' ∧ KeptW pb w w' := by
  have H0 : Hid _ := pz_new (e := (En.mk k c n sp sq ap aq mp mq prim pt dn [])) hw hws hB
  skip
  obtain ⟨W1, hW1⟩ : ∃ W1, w.alloc (.cells #[.int .i64 k, .int .u32 (c : Int), .int .u32 (n : Int), .int .u64 (sp : Int), .int .u32 (sq : Int), .int .u64 (ap : Int), .int .u32 (aq : Int), .int .u64 (mp : Int), .int .u32 (mq : Int), .string (bs prim), .int .u8 (pt : Int), .bool dn, .slice ao 0 cp] 30) = W1 := ⟨_, rfl⟩
  obtain ⟨b, hb⟩ : ∃ b, w.heap.size = b := ⟨_, rfl⟩
  have HZ0 : Hid (Pz w B b pb (En.mk k c n sp sq ap aq mp mq prim pt dn []) ao cp L W1) := by rw [← hb, ← hW1]; exact H0.out
  have HK : Hid _ := hk
  clear H0 hws  hk hw hB
  go_enter Try.func17, Try.ntmps17
  go_upto_region 1 with fail
  clear hb hW1
  obtain ⟨M0, hM0⟩ : ∃ M0 : List UInt8, L = M0 := ⟨_, rfl⟩
  have HM0 : Hid (L = M0) := hM0
  have lm0 : M0.length ≤ 200 := by rw [← hM0]; exact hL
  rw [hM0] at HZ0
  clear hM0 hL
  have C : Hid (∀ W : World, 1 = 1 → Calls Try.prog 41 #[.int .u16 1, .int .u16 16] W fun r w' => r = .returned (.bool false) ∧ W = w') := fun W _ => has41 1 16 W (by omega) (by omega)
  go_wp2_with fail
  refine (C.out _ (by trivial)).mono ?_
  rintro r wx ⟨rfl, rfl⟩
  clear C
  have C : Hid (∀ W : World, 1 = 1 → Calls Try.prog 41 #[.int .u16 1, .int .u16 32] W fun r w' => r = .returned (.bool false) ∧ W = w') := fun W _ => has41 1 32 W (by omega) (by omega)
  go_wp2_with fail
  refine (C.out _ (by trivial)).mono ?_
  rintro r wx ⟨rfl, rfl⟩
  clear C
  have C : Hid (∀ W : World, 1 = 1 → Calls Try.prog 41 #[.int .u16 1, .int .u16 64] W fun r w' => r = .returned (.bool false) ∧ W = w') := fun W _ => has41 1 64 W (by omega) (by omega)
  go_wp2_with fail
  refine (C.out _ (by trivial)).mono ?_
  rintro r wx ⟨rfl, rfl⟩
  clear C
  have C : Hid (∀ W : World, 1 = 1 → Calls Try.prog 41 #[.int .u16 1, .int .u16 128] W fun r w' => r = .returned (.bool false) ∧ W = w') := fun W _ => has41 1 128 W (by omega) (by omega)
  go_wp2_with fail
  refine (C.out _ (by trivial)).mono ?_
  rintro r wx ⟨rfl, rfl⟩
  clear C
  have p12 : W1.cell? ⟨b, 12, none⟩ = some (.slice ao 0 cp) := block_cell HZ0.out.x rfl
  go_wp2_with fail
  clear p12
  go_loopw [43] (fun i wr => i = .int .i64 0 ∧ Hid (Pz w B b pb (En.mk k c n sp sq ap aq mp mq prim pt dn []) ao cp M0 wr)) (fun _ _ => 0)
  case atStart => exact ⟨rfl, HZ0.out⟩
  case round =>
    obtain ⟨rfl, HE⟩ := hrel
    clear HZ0
    have HF : Hid (L ++ ([] : List UInt8) = M0) := by
      show _ = _
      rw [← HM0.out]
      try simp
    go_wp2_with fail
    go_end0
    exact ⟨rfl, (by have h := HE.out.wr; rw [← HF.out] at h; first | exact h | simpa only [List.append_assoc] using h), HE.out.k⟩
end Go.Proofs.Ytmgjlpgjjeknpaa

namespace Go.Proofs.Ytmgjlpgjjeknpaa
open Go.RowKit Go.Sort

set_option maxHeartbeats 3200000 in
set_option maxRecDepth 100000 in
theorem pr17_551 (k : Int) (c n sp sq ap aq mp mq : Nat) (prim : List UInt8) (pt : Nat) (dn : Bool) (ao : Option Addr) (cp : Nat) (w : World) (B pb : Nat) (L : List UInt8) (hk : Wk c n sp sq ap aq mp mq prim pt []) (hws : WsAt B (.slice ao 0 cp) [] w) (hB : B ≤ pb) (hw : WrAt pb L w) (hL : L.length ≤ 200) :
    Calls Try.prog 17 #[.pointer (some ⟨pb, 0, none⟩), .agg #[.int .i64 k, .int .u32 (c : Int), .int .u32 (n : Int), .int .u64 (sp : Int), .int .u32 (sq : Int), .int .u64 (ap : Int), .int .u32 (aq : Int), .int .u64 (mp : Int), .int .u32 (mq : Int), .string (bs prim), .int .u8 (pt : Int), .bool dn, .slice ao 0 cp], .int .u16 551] w fun r w' => r = .returned (.tuple #[]) ∧ WrAt pb (L ++ (numForm pt)) w' ∧ KeptW pb w w' := by
  have H0 : Hid _ := pz_new (e := (En.mk k c n sp sq ap aq mp mq prim pt dn [])) hw hws hB
  skip
  obtain ⟨W1, hW1⟩ : ∃ W1, w.alloc (.cells #[.int .i64 k, .int .u32 (c : Int), .int .u32 (n : Int), .int .u64 (sp : Int), .int .u32 (sq : Int), .int .u64 (ap : Int), .int .u32 (aq : Int), .int .u64 (mp : Int), .int .u32 (mq : Int), .string (bs prim), .int .u8 (pt : Int), .bool dn, .slice ao 0 cp] 30) = W1 := ⟨_, rfl⟩
  obtain ⟨b, hb⟩ : ∃ b, w.heap.size = b := ⟨_, rfl⟩
  have HZ0 : Hid (Pz w B b pb (En.mk k c n sp sq ap aq mp mq prim pt dn []) ao cp L W1) := by rw [← hb, ← hW1]; exact H0.out
  have HK : Hid _ := hk
  clear H0 hws  hk hw hB
  go_enter Try.func17, Try.ntmps17
  go_upto_region 1 with fail
  clear hb hW1
  obtain ⟨M0, hM0⟩ : ∃ M0 : List UInt8, L = M0 := ⟨_, rfl⟩
  have HM0 : Hid (L = M0) := hM0
  have lm0 : M0.length ≤ 200 := by rw [← hM0]; exact hL
  rw [hM0] at HZ0
  clear hM0 hL
  have C : Hid (∀ W : World, 1 = 1 → Calls Try.prog 41 #[.int .u16 551, .int .u16 16] W fun r w' => r = .returned (.bool false) ∧ W = w') := fun W _ => has41 551 16 W (by omega) (by omega)
  go_wp2_with fail
  refine (C.out _ (by trivial)).mono ?_
  rintro r wx ⟨rfl, rfl⟩
  clear C
  have C : Hid (∀ W : World, 1 = 1 → Calls Try.prog 41 #[.int .u16 551, .int .u16 32] W fun r w' => r = .returned (.bool true) ∧ W = w') := fun W _ => has41 551 32 W (by omega) (by omega)
  go_wp2_with fail
  refine (C.out _ (by trivial)).mono ?_
  rintro r wx ⟨rfl, rfl⟩
  clear C
  have C : Hid (1 = 1 → Calls Try.prog 14 #[.pointer (some ⟨pb, 0, none⟩), .int .u64 (pt : Int)] W1 fun r w' => r = .returned (.tuple #[]) ∧ WrAt pb (M0 ++ numForm pt) w' ∧ KeptW pb W1 w') := fun _ => num10 pb M0 pt W1 (by have := HK.out.pt; omega) HZ0.out.wr (by omega)
  have p10 : W1.cell? ⟨b, 10, none⟩ = some (.int .u8 (pt : Int)) := block_cell HZ0.out.x rfl
  have x1 := u64w (n := pt) (by have := HK.out.pt; omega)
  go_wp2_with fail
  refine (C.out (by simp)).mono ?_
  rintro r y1 ⟨rfl, hw, hk⟩
  have HX : Hid (Pz w B b pb (En.mk k c n sp sq ap aq mp mq prim pt dn []) ao cp (M0 ++ numForm pt) y1) := HZ0.out.go hw hk
  have lf : (numForm pt).length ≤ 9 := nf_len (by have := HK.out.pt; omega)
  obtain ⟨M1, hL⟩ : ∃ q, M0 ++ numForm pt = q := ⟨_, rfl⟩
  have lm1 : M1.length ≤ 209 := by rw [← hL, List.length_append]; omega
  have HM1 : Hid (M0 ++ numForm pt = M1) := hL
  rw [hL] at HX
  have HZ1 : Hid (Pz w B b pb (En.mk k c n sp sq ap aq mp mq prim pt dn []) ao cp M1 y1) := HX.out
  clear hw hk HX C lf hL HZ0 lm0 p10  x1
  have C : Hid (∀ W : World, 1 = 1 → Calls Try.prog 41 #[.int .u16 551, .int .u16 64] W fun r w' => r = .returned (.bool false) ∧ W = w') := fun W _ => has41 551 64 W (by omega) (by omega)
  go_wp2_with fail
  refine (C.out _ (by trivial)).mono ?_
  rintro r wx ⟨rfl, rfl⟩
  clear C
  have C : Hid (∀ W : World, 1 = 1 → Calls Try.prog 41 #[.int .u16 551, .int .u16 128] W fun r w' => r = .returned (.bool false) ∧ W = w') := fun W _ => has41 551 128 W (by omega) (by omega)
  go_wp2_with fail
  refine (C.out _ (by trivial)).mono ?_
  rintro r wx ⟨rfl, rfl⟩
  clear C
  have p12 : y1.cell? ⟨b, 12, none⟩ = some (.slice ao 0 cp) := block_cell HZ1.out.x rfl
  go_wp2_with fail
  clear p12
  go_loopw [43] (fun i wr => i = .int .i64 0 ∧ Hid (Pz w B b pb (En.mk k c n sp sq ap aq mp mq prim pt dn []) ao cp M1 wr)) (fun _ _ => 0)
  case atStart => exact ⟨rfl, HZ1.out⟩
  case round =>
    obtain ⟨rfl, HE⟩ := hrel
    clear HZ1
    have HF : Hid (L ++ (numForm pt) = M1) := by
      show _ = _
      rw [← HM1.out]
      rw [← HM0.out]
      try simp [List.append_assoc]
    go_wp2_with fail
    go_end0
    exact ⟨rfl, (by have h := HE.out.wr; rw [← HF.out] at h; first | exact h | simpa only [List.append_assoc] using h), HE.out.k⟩
set_option maxHeartbeats 3200000 in
set_option maxRecDepth 100000 in
theorem pr17_103 (k : Int) (c n sp sq ap aq mp mq : Nat) (prim : List UInt8) (pt : Nat) (dn : Bool) (ao : Option Addr) (cp : Nat) (w : World) (B pb : Nat) (L : List UInt8) (hk : Wk c n sp sq ap aq mp mq prim pt []) (hws : WsAt B (.slice ao 0 cp) [] w) (hB : B ≤ pb) (hw : WrAt pb L w) (hL : L.length ≤ 200) :
    Calls Try.prog 17 #[.pointer (some ⟨pb, 0, none⟩), .agg #[.int .i64 k, .int .u32 (c : Int), .int .u32 (n : Int), .int .u64 (sp : Int), .int .u32 (sq : Int), .int .u64 (ap : Int), .int .u32 (aq : Int), .int .u64 (mp : Int), .int .u32 (mq : Int), .string (bs prim), .int .u8 (pt : Int), .bool dn, .slice ao 0 cp], .int .u16 103] w fun r w' => r = .returned (.tuple #[]) ∧ WrAt pb (L ++ (numForm pt ++ flagForm dn)) w' ∧ KeptW pb w w' := by
  have H0 : Hid _ := pz_new (e := (En.mk k c n sp sq ap aq mp mq prim pt dn [])) hw hws hB
  skip
  obtain ⟨W1, hW1⟩ : ∃ W1, w.alloc (.cells #[.int .i64 k, .int .u32 (c : Int), .int .u32 (n : Int), .int .u64 (sp : Int), .int .u32 (sq : Int), .int .u64 (ap : Int), .int .u32 (aq : Int), .int .u64 (mp : Int), .int .u32 (mq : Int), .string (bs prim), .int .u8 (pt : Int), .bool dn, .slice ao 0 cp] 30) = W1 := ⟨_, rfl⟩
  obtain ⟨b, hb⟩ : ∃ b, w.heap.size = b := ⟨_, rfl⟩
  have HZ0 : Hid (Pz w B b pb (En.mk k c n sp sq ap aq mp mq prim pt dn []) ao cp L W1) := by rw [← hb, ← hW1]; exact H0.out
  have HK : Hid _ := hk
  clear H0 hws  hk hw hB
  go_enter Try.func17, Try.ntmps17
  go_upto_region 1 with fail
  clear hb hW1
  obtain ⟨M0, hM0⟩ : ∃ M0 : List UInt8, L = M0 := ⟨_, rfl⟩
  have HM0 : Hid (L = M0) := hM0
  have lm0 : M0.length ≤ 200 := by rw [← hM0]; exact hL
  rw [hM0] at HZ0
  clear hM0 hL
  have C : Hid (∀ W : World, 1 = 1 → Calls Try.prog 41 #[.int .u16 103, .int .u16 16] W fun r w' => r = .returned (.bool false) ∧ W = w') := fun W _ => has41 103 16 W (by omega) (by omega)
  go_wp2_with fail
  refine (C.out _ (by trivial)).mono ?_
  rintro r wx ⟨rfl, rfl⟩
  clear C
  have C : Hid (∀ W : World, 1 = 1 → Calls Try.prog 41 #[.int .u16 103, .int .u16 32] W fun r w' => r = .returned (.bool true) ∧ W = w') := fun W _ => has41 103 32 W (by omega) (by omega)
  go_wp2_with fail
  refine (C.out _ (by trivial)).mono ?_
  rintro r wx ⟨rfl, rfl⟩
  clear C
  have C : Hid (1 = 1 → Calls Try.prog 14 #[.pointer (some ⟨pb, 0, none⟩), .int .u64 (pt : Int)] W1 fun r w' => r = .returned (.tuple #[]) ∧ WrAt pb (M0 ++ numForm pt) w' ∧ KeptW pb W1 w') := fun _ => num10 pb M0 pt W1 (by have := HK.out.pt; omega) HZ0.out.wr (by omega)
  have p10 : W1.cell? ⟨b, 10, none⟩ = some (.int .u8 (pt : Int)) := block_cell HZ0.out.x rfl
  have x1 := u64w (n := pt) (by have := HK.out.pt; omega)
  go_wp2_with fail
  refine (C.out (by simp)).mono ?_
  rintro r y1 ⟨rfl, hw, hk⟩
  have HX : Hid (Pz w B b pb (En.mk k c n sp sq ap aq mp mq prim pt dn []) ao cp (M0 ++ numForm pt) y1) := HZ0.out.go hw hk
  have lf : (numForm pt).length ≤ 9 := nf_len (by have := HK.out.pt; omega)
  obtain ⟨M1, hL⟩ : ∃ q, M0 ++ numForm pt = q := ⟨_, rfl⟩
  have lm1 : M1.length ≤ 209 := by rw [← hL, List.length_append]; omega
  have HM1 : Hid (M0 ++ numForm pt = M1) := hL
  rw [hL] at HX
  have HZ1 : Hid (Pz w B b pb (En.mk k c n sp sq ap aq mp mq prim pt dn []) ao cp M1 y1) := HX.out
  clear hw hk HX C lf hL HZ0 lm0 p10  x1
  have C : Hid (∀ W : World, 1 = 1 → Calls Try.prog 41 #[.int .u16 103, .int .u16 64] W fun r w' => r = .returned (.bool true) ∧ W = w') := fun W _ => has41 103 64 W (by omega) (by omega)
  go_wp2_with fail
  refine (C.out _ (by trivial)).mono ?_
  rintro r wx ⟨rfl, rfl⟩
  clear C
  have C : Hid (1 = 1 → Calls Try.prog 44 #[.pointer (some ⟨pb, 0, none⟩), .bool dn] y1 fun r w' => r = .returned (.tuple #[]) ∧ WrAt pb (M1 ++ flagForm dn) w' ∧ KeptW pb y1 w') := fun _ => flag14 pb M1 dn y1 HZ1.out.wr (by omega)
  have p11 : y1.cell? ⟨b, 11, none⟩ = some (.bool dn) := block_cell HZ1.out.x rfl
  go_wp2_with fail
  refine (C.out (by simp)).mono ?_
  rintro r y2 ⟨rfl, hw, hk⟩
  have HX : Hid (Pz w B b pb (En.mk k c n sp sq ap aq mp mq prim pt dn []) ao cp (M1 ++ flagForm dn) y2) := HZ1.out.go hw hk
  have lf : (flagForm dn).length ≤ 1 := by rw [ff_len]; exact Nat.le_refl _
  obtain ⟨M2, hL⟩ : ∃ q, M1 ++ flagForm dn = q := ⟨_, rfl⟩
  have lm2 : M2.length ≤ 210 := by rw [← hL, List.length_append]; omega
  have HM2 : Hid (M1 ++ flagForm dn = M2) := hL
  rw [hL] at HX
  have HZ2 : Hid (Pz w B b pb (En.mk k c n sp sq ap aq mp mq prim pt dn []) ao cp M2 y2) := HX.out
  clear hw hk HX C lf hL HZ1 lm1 p11  
  have C : Hid (∀ W : World, 1 = 1 → Calls Try.prog 41 #[.int .u16 103, .int .u16 128] W fun r w' => r = .returned (.bool false) ∧ W = w') := fun W _ => has41 103 128 W (by omega) (by omega)
  go_wp2_with fail
  refine (C.out _ (by trivial)).mono ?_
  rintro r wx ⟨rfl, rfl⟩
  clear C
  have p12 : y2.cell? ⟨b, 12, none⟩ = some (.slice ao 0 cp) := block_cell HZ2.out.x rfl
  go_wp2_with fail
  clear p12
  go_loopw [43] (fun i wr => i = .int .i64 0 ∧ Hid (Pz w B b pb (En.mk k c n sp sq ap aq mp mq prim pt dn []) ao cp M2 wr)) (fun _ _ => 0)
  case atStart => exact ⟨rfl, HZ2.out⟩
  case round =>
    obtain ⟨rfl, HE⟩ := hrel
    clear HZ2
    have HF : Hid (L ++ (numForm pt ++ flagForm dn) = M2) := by
      show _ = _
      rw [← HM2.out]
      rw [← HM1.out]
      rw [← HM0.out]
      try simp [List.append_assoc]
    go_wp2_with fail
    go_end0
    exact ⟨rfl, (by have h := HE.out.wr; rw [← HF.out] at h; first | exact h | simpa only [List.append_assoc] using h), HE.out.k⟩
end Go.Proofs.Ytmgjlpgjjeknpaa

namespace Go.Proofs.Ytmgjlpgjjeknpaa
open Go.RowKit Go.Sort

set_option maxHeartbeats 3200000 in
set_option maxRecDepth 100000 in
theorem pr17_155 (k : Int) (c n sp sq ap aq mp mq : Nat) (prim : List UInt8) (pt : Nat) (dn : Bool) (ws : List Wr) (ao : Option Addr) (cp : Nat) (w : World) (B pb : Nat) (L : List UInt8) (hk : Wk c n sp sq ap aq mp mq prim pt ws) (hws : WsAt B (.slice ao ws.length cp) ws w) (hB : B ≤ pb) (hw : WrAt pb L w) (hL : L.length ≤ 200) :
    Calls Try.prog 17 #[.pointer (some ⟨pb, 0, none⟩), .agg #[.int .i64 k, .int .u32 (c : Int), .int .u32 (n : Int), .int .u64 (sp : Int), .int .u32 (sq : Int), .int .u64 (ap : Int), .int .u32 (aq : Int), .int .u64 (mp : Int), .int .u32 (mq : Int), .string (bs prim), .int .u8 (pt : Int), .bool dn, .slice ao ws.length cp], .int .u16 155] w fun r w' => r = .returned (.tuple #[]) ∧ WrAt pb (L ++ (textForm prim ++ numForm ws.length ++ wsForm ws)) w' ∧ KeptW pb w w' := by
  have H0 : Hid _ := pz_new (e := (En.mk k c n sp sq ap aq mp mq prim pt dn ws)) hw hws hB
  obtain ⟨ao', cap, he, hla, hma⟩ := hws.shape
  simp only [Value.slice.injEq, true_and] at he
  obtain ⟨rfl, rfl⟩ := he
  have hL1 : ws.length < 9223372036854775808 := by omega
  obtain ⟨W1, hW1⟩ : ∃ W1, w.alloc (.cells #[.int .i64 k, .int .u32 (c : Int), .int .u32 (n : Int), .int .u64 (sp : Int), .int .u32 (sq : Int), .int .u64 (ap : Int), .int .u32 (aq : Int), .int .u64 (mp : Int), .int .u32 (mq : Int), .string (bs prim), .int .u8 (pt : Int), .bool dn, .slice ao ws.length cp] 30) = W1 := ⟨_, rfl⟩
  obtain ⟨b, hb⟩ : ∃ b, w.heap.size = b := ⟨_, rfl⟩
  have HZ0 : Hid (Pz w B b pb (En.mk k c n sp sq ap aq mp mq prim pt dn ws) ao cp L W1) := by rw [← hb, ← hW1]; exact H0.out
  have HK : Hid _ := hk
  clear H0 hws hla hma hk hw hB
  go_enter Try.func17, Try.ntmps17
  go_upto_region 1 with fail
  clear hb hW1
  obtain ⟨M0, hM0⟩ : ∃ M0 : List UInt8, L = M0 := ⟨_, rfl⟩
  have HM0 : Hid (L = M0) := hM0
  have lm0 : M0.length ≤ 200 := by rw [← hM0]; exact hL
  rw [hM0] at HZ0
  clear hM0 hL
  have C : Hid (∀ W : World, 1 = 1 → Calls Try.prog 41 #[.int .u16 155, .int .u16 16] W fun r w' => r = .returned (.bool true) ∧ W = w') := fun W _ => has41 155 16 W (by omega) (by omega)
  go_wp2_with fail
  refine (C.out _ (by trivial)).mono ?_
  rintro r wx ⟨rfl, rfl⟩
  clear C
  have C : Hid (1 = 1 → Calls Try.prog 43 #[.pointer (some ⟨pb, 0, none⟩), .string (bs prim)] W1 fun r w' => r = .returned (.tuple #[]) ∧ WrAt pb (M0 ++ textForm prim) w' ∧ KeptW pb W1 w') := fun _ => text19 pb M0 prim W1 HZ0.out.wr (by have := HK.out.prim; omega)
  have p9 : W1.cell? ⟨b, 9, none⟩ = some (.string (bs prim)) := block_cell HZ0.out.x rfl
  go_wp2_with fail
  refine (C.out (by simp)).mono ?_
  rintro r y1 ⟨rfl, hw, hk⟩
  have HX : Hid (Pz w B b pb (En.mk k c n sp sq ap aq mp mq prim pt dn ws) ao cp (M0 ++ textForm prim) y1) := HZ0.out.go hw hk
  have lf : (textForm prim).length ≤ 1009 := tf_len HK.out.prim
  obtain ⟨M1, hL⟩ : ∃ q, M0 ++ textForm prim = q := ⟨_, rfl⟩
  have lm1 : M1.length ≤ 1209 := by rw [← hL, List.length_append]; omega
  have HM1 : Hid (M0 ++ textForm prim = M1) := hL
  rw [hL] at HX
  have HZ1 : Hid (Pz w B b pb (En.mk k c n sp sq ap aq mp mq prim pt dn ws) ao cp M1 y1) := HX.out
  clear hw hk HX C lf hL HZ0 lm0 p9  
  have C : Hid (∀ W : World, 1 = 1 → Calls Try.prog 41 #[.int .u16 155, .int .u16 32] W fun r w' => r = .returned (.bool false) ∧ W = w') := fun W _ => has41 155 32 W (by omega) (by omega)
  go_wp2_with fail
  refine (C.out _ (by trivial)).mono ?_
  rintro r wx ⟨rfl, rfl⟩
  clear C
  have C : Hid (∀ W : World, 1 = 1 → Calls Try.prog 41 #[.int .u16 155, .int .u16 64] W fun r w' => r = .returned (.bool false) ∧ W = w') := fun W _ => has41 155 64 W (by omega) (by omega)
  go_wp2_with fail
  refine (C.out _ (by trivial)).mono ?_
  rintro r wx ⟨rfl, rfl⟩
  clear C
  have C : Hid (∀ W : World, 1 = 1 → Calls Try.prog 41 #[.int .u16 155, .int .u16 128] W fun r w' => r = .returned (.bool true) ∧ W = w') := fun W _ => has41 155 128 W (by omega) (by omega)
  go_wp2_with fail
  refine (C.out _ (by trivial)).mono ?_
  rintro r wx ⟨rfl, rfl⟩
  clear C
  have C : Hid (∀ W : World, 1 = 1 → Calls Try.prog 41 #[.int .u16 155, .int .u16 256] W fun r w' => r = .returned (.bool false) ∧ W = w') := fun W _ => has41 155 256 W (by omega) (by omega)
  go_wp2_with fail
  refine (C.out _ (by trivial)).mono ?_
  rintro r wx ⟨rfl, rfl⟩
  clear C
  have C : Hid (1 = 1 → Calls Try.prog 14 #[.pointer (some ⟨pb, 0, none⟩), .int .u64 (ws.length : Int)] y1 fun r w' => r = .returned (.tuple #[]) ∧ WrAt pb (M1 ++ numForm ws.length) w' ∧ KeptW pb y1 w') := fun _ => num10 pb M1 ws.length y1 (by omega) HZ1.out.wr (by omega)
  have p12 : y1.cell? ⟨b, 12, none⟩ = some (.slice ao ws.length cp) := block_cell HZ1.out.x rfl
  have x1 := u64w (n := ws.length) (by omega)
  go_wp2_with fail
  refine (C.out (by simp)).mono ?_
  rintro r y2 ⟨rfl, hw, hk⟩
  have HX : Hid (Pz w B b pb (En.mk k c n sp sq ap aq mp mq prim pt dn ws) ao cp (M1 ++ numForm ws.length) y2) := HZ1.out.go hw hk
  have lf : (numForm ws.length).length ≤ 9 := nf_len (by omega)
  obtain ⟨M2, hL⟩ : ∃ q, M1 ++ numForm ws.length = q := ⟨_, rfl⟩
  have lm2 : M2.length ≤ 1218 := by rw [← hL, List.length_append]; omega
  have HM2 : Hid (M1 ++ numForm ws.length = M2) := hL
  rw [hL] at HX
  have HZ2 : Hid (Pz w B b pb (En.mk k c n sp sq ap aq mp mq prim pt dn ws) ao cp M2 y2) := HX.out
  clear hw hk HX C lf hL HZ1 lm1 p12  x1
  have p12 : y2.cell? ⟨b, 12, none⟩ = some (.slice ao ws.length cp) := block_cell HZ2.out.x rfl
  go_wp2_with fail
  clear p12
  have HW0 : Hid (M2 ++ wsForm (ws.take 0) = M2) := by show _ = _; simp [wsForm]
  go_loopw [43] (fun i wr => ∃ m : Nat, m ≤ ws.length ∧ i = .int .i64 m ∧ Hid (Pz w B b pb (En.mk k c n sp sq ap aq mp mq prim pt dn ws) ao cp (M2 ++ wsForm (ws.take m)) wr)) (fun i _ => ws.length - (intOf i).toNat)
  case atStart => exact ⟨0, Nat.zero_le _, rfl, by rw [HW0.out]; exact HZ2.out⟩
  case round =>
    obtain ⟨m, hm, rfl, HE⟩ := hrel
    clear HW0 HZ2
    by_cases hml : m < ws.length
    · obtain ⟨c1, o1, rfl, d0, d1, d2⟩ := HE.out.ws.el hml
      have hml1 : (m : Int) < ws.length := by omega
      have HX0 : Hid (wOk (ws.getD m dw) = true) := HK.out.ws _ (getD_memW hml)
      have lt1 : (wsForm (ws.take m)).length ≤ 307 * 16 := by
        have h1 := ws_len (ws := ws.take m) (fun x hx => HK.out.ws x (List.mem_of_mem_take hx))
        have h2 : (ws.take m).length ≤ 16 := by have := HK.out.len; rw [List.length_take]; omega
        omega
      have HT : Hid (M2 ++ wsForm (ws.take m) ++ wrForm (ws.getD m dw) = M2 ++ wsForm (ws.take (m + 1))) := by show _ = _; rw [take_form hml, List.append_assoc]
      have HQ : Hid (m + 1 ≤ ws.length) := hml
      obtain ⟨LM, hLM⟩ : ∃ LM, M2 ++ wsForm (ws.take m) = LM := ⟨_, rfl⟩
      have lm90 : LM.length ≤ 6130 := by rw [← hLM, List.length_append]; omega
      rw [hLM] at HE HT
      clear hLM lt1 lm2
      generalize ws.getD m dw = x at *
      have HB0 : Hid _ := HE.out.box x
      go_upto_region 12 with fail
      obtain ⟨y90, hy⟩ : ∃ y90, wr.alloc (.cells #[.string (bs x.key), .string (bs x.val), .bool x.dead] 60) = y90 := ⟨_, rfl⟩
      obtain ⟨bw, hbw⟩ : ∃ bw, wr.heap.size = bw := ⟨_, rfl⟩
      have HZ90 : Hid (Pb w B b pb bw (En.mk k c n sp sq ap aq mp mq prim pt dn ws) (some ⟨c1, o1, none⟩) cp LM x y90) := by rw [← hy, ← hbw]; exact HB0.out
      rw [hy, hbw]
      clear HB0 hy hbw HE d0 d1 d2
      have C : Hid (1 = 1 → Calls Try.prog 43 #[.pointer (some ⟨pb, 0, none⟩), .string (bs x.key)] y90 fun r w' => r = .returned (.tuple #[]) ∧ WrAt pb (LM ++ textForm x.key) w' ∧ KeptW pb y90 w') := fun _ => text19 pb LM x.key y90 HZ90.out.z.wr (by have := (wOk_iff HX0.out).1; omega)
      have g0 : y90.cell? ⟨bw, 0, none⟩ = some (.string (bs x.key)) := block_cell HZ90.out.bx rfl
      go_wp2_with fail
      refine (C.out (by simp)).mono ?_
      rintro r y91 ⟨rfl, hw, hk⟩
      have HX : Hid (Pb w B b pb bw (En.mk k c n sp sq ap aq mp mq prim pt dn ws) (some ⟨c1, o1, none⟩) cp (LM ++ textForm x.key) x y91) := HZ90.out.go hw hk
      have lf : (textForm x.key).length ≤ 1009 := tf_len (by have := (wOk_iff HX0.out).1; omega)
      obtain ⟨M91, hL⟩ : ∃ q, LM ++ textForm x.key = q := ⟨_, rfl⟩
      have lm91 : M91.length ≤ 7139 := by rw [← hL, List.length_append]; omega
      have HM91 : Hid (LM ++ textForm x.key = M91) := hL
      rw [hL] at HX
      have HZ91 : Hid (Pb w B b pb bw (En.mk k c n sp sq ap aq mp mq prim pt dn ws) (some ⟨c1, o1, none⟩) cp M91 x y91) := HX.out
      clear hw hk HX C lf hL HZ90 lm90  g0 
      have C : Hid (1 = 1 → Calls Try.prog 44 #[.pointer (some ⟨pb, 0, none⟩), .bool x.dead] y91 fun r w' => r = .returned (.tuple #[]) ∧ WrAt pb (M91 ++ flagForm x.dead) w' ∧ KeptW pb y91 w') := fun _ => flag14 pb M91 x.dead y91 HZ91.out.z.wr (by omega)
      have g2 : y91.cell? ⟨bw, 2, none⟩ = some (.bool x.dead) := block_cell HZ91.out.bx rfl
      go_wp2_with fail
      refine (C.out (by simp)).mono ?_
      rintro r y92 ⟨rfl, hw, hk⟩
      have HX : Hid (Pb w B b pb bw (En.mk k c n sp sq ap aq mp mq prim pt dn ws) (some ⟨c1, o1, none⟩) cp (M91 ++ flagForm x.dead) x y92) := HZ91.out.go hw hk
      have lf : (flagForm x.dead).length ≤ 1 := by rw [ff_len]; exact Nat.le_refl _
      obtain ⟨M92, hL⟩ : ∃ q, M91 ++ flagForm x.dead = q := ⟨_, rfl⟩
      have lm92 : M92.length ≤ 7140 := by rw [← hL, List.length_append]; omega
      have HM92 : Hid (M91 ++ flagForm x.dead = M92) := hL
      rw [hL] at HX
      have HZ92 : Hid (Pb w B b pb bw (En.mk k c n sp sq ap aq mp mq prim pt dn ws) (some ⟨c1, o1, none⟩) cp M92 x y92) := HX.out
      clear hw hk HX C lf hL HZ91 lm91  g2 
      have C : Hid (1 = 1 → Calls Try.prog 43 #[.pointer (some ⟨pb, 0, none⟩), .string (bs x.val)] y92 fun r w' => r = .returned (.tuple #[]) ∧ WrAt pb (M92 ++ textForm x.val) w' ∧ KeptW pb y92 w') := fun _ => text19 pb M92 x.val y92 HZ92.out.z.wr (by have := (wOk_iff HX0.out).2; omega)
      have g1 : y92.cell? ⟨bw, 1, none⟩ = some (.string (bs x.val)) := block_cell HZ92.out.bx rfl
      go_wp2_with fail
      refine (C.out (by simp)).mono ?_
      rintro r y93 ⟨rfl, hw, hk⟩
      have HX : Hid (Pb w B b pb bw (En.mk k c n sp sq ap aq mp mq prim pt dn ws) (some ⟨c1, o1, none⟩) cp (M92 ++ textForm x.val) x y93) := HZ92.out.go hw hk
      have lf : (textForm x.val).length ≤ 1009 := tf_len (by have := (wOk_iff HX0.out).2; omega)
      obtain ⟨M93, hL⟩ : ∃ q, M92 ++ textForm x.val = q := ⟨_, rfl⟩
      have lm93 : M93.length ≤ 8149 := by rw [← hL, List.length_append]; omega
      have HM93 : Hid (M92 ++ textForm x.val = M93) := hL
      rw [hL] at HX
      have HZ93 : Hid (Pb w B b pb bw (En.mk k c n sp sq ap aq mp mq prim pt dn ws) (some ⟨c1, o1, none⟩) cp M93 x y93) := HX.out
      clear hw hk HX C lf hL HZ92 lm92  g1 
      have HLF : Hid (M93 = M2 ++ wsForm (ws.take (m + 1))) := by
        show _ = _
        rw [← HM93.out, ← HM92.out, ← HM91.out, ← HT.out]
        unfold wrForm
        simp only [List.append_assoc]
      clear HM91 HM92 HM93 HT
      go_wp2_with fail
      go_roundw
      case rel => exact ⟨m + 1, HQ.out, by go_num, by rw [← HLF.out]; exact HZ93.out.z⟩
      case measure => simp [intOf]; omega
    · have hml1 : ¬ (m : Int) < ws.length := by omega
      have HTW : Hid (ws.take m = ws) := List.take_of_length_le (by omega)
      rw [HTW.out] at HE
      obtain ⟨LW, hLW⟩ : ∃ LW, M2 ++ wsForm ws = LW := ⟨_, rfl⟩
      have HLW : Hid (M2 ++ wsForm ws = LW) := hLW
      rw [hLW] at HE
      clear hLW
      have HF : Hid (L ++ (textForm prim ++ numForm ws.length ++ wsForm ws) = LW) := by
        show _ = _
        rw [← HLW.out]
        rw [← HM2.out]
        rw [← HM1.out]
        rw [← HM0.out]
        try simp [List.append_assoc]
      go_wp2_with fail
      go_end0
      exact ⟨rfl, (by have h := HE.out.wr; rw [← HF.out] at h; first | exact h | simpa only [List.append_assoc] using h), HE.out.k⟩
end Go.Proofs.Ytmgjlpgjjeknpaa

namespace Go.Proofs.Ytmgjlpgjjeknpaa
open Go.RowKit Go.Sort

set_option maxHeartbeats 3200000 in
set_option maxRecDepth 100000 in
theorem pr17_389 (k : Int) (c n sp sq ap aq mp mq : Nat) (prim : List UInt8) (pt : Nat) (dn : Bool) (ws : List Wr) (ao : Option Addr) (cp : Nat) (w : World) (B pb : Nat) (L : List UInt8) (hk : Wk c n sp sq ap aq mp mq prim pt ws) (hws : WsAt B (.slice ao ws.length cp) ws w) (hB : B ≤ pb) (hw : WrAt pb L w) (hL : L.length ≤ 200) :
    Calls Try.prog 17 #[.pointer (some ⟨pb, 0, none⟩), .agg #[.int .i64 k, .int .u32 (c : Int), .int .u32 (n : Int), .int .u64 (sp : Int), .int .u32 (sq : Int), .int .u64 (ap : Int), .int .u32 (aq : Int), .int .u64 (mp : Int), .int .u32 (mq : Int), .string (bs prim), .int .u8 (pt : Int), .bool dn, .slice ao ws.length cp], .int .u16 389] w fun r w' => r = .returned (.tuple #[]) ∧ WrAt pb (L ++ (wsForm ws)) w' ∧ KeptW pb w w' := by
  have H0 : Hid _ := pz_new (e := (En.mk k c n sp sq ap aq mp mq prim pt dn ws)) hw hws hB
  obtain ⟨ao', cap, he, hla, hma⟩ := hws.shape
  simp only [Value.slice.injEq, true_and] at he
  obtain ⟨rfl, rfl⟩ := he
  have hL1 : ws.length < 9223372036854775808 := by omega
  obtain ⟨W1, hW1⟩ : ∃ W1, w.alloc (.cells #[.int .i64 k, .int .u32 (c : Int), .int .u32 (n : Int), .int .u64 (sp : Int), .int .u32 (sq : Int), .int .u64 (ap : Int), .int .u32 (aq : Int), .int .u64 (mp : Int), .int .u32 (mq : Int), .string (bs prim), .int .u8 (pt : Int), .bool dn, .slice ao ws.length cp] 30) = W1 := ⟨_, rfl⟩
  obtain ⟨b, hb⟩ : ∃ b, w.heap.size = b := ⟨_, rfl⟩
  have HZ0 : Hid (Pz w B b pb (En.mk k c n sp sq ap aq mp mq prim pt dn ws) ao cp L W1) := by rw [← hb, ← hW1]; exact H0.out
  have HK : Hid _ := hk
  clear H0 hws hla hma hk hw hB
  go_enter Try.func17, Try.ntmps17
  go_upto_region 1 with fail
  clear hb hW1
  obtain ⟨M0, hM0⟩ : ∃ M0 : List UInt8, L = M0 := ⟨_, rfl⟩
  have HM0 : Hid (L = M0) := hM0
  have lm0 : M0.length ≤ 200 := by rw [← hM0]; exact hL
  rw [hM0] at HZ0
  clear hM0 hL
  have C : Hid (∀ W : World, 1 = 1 → Calls Try.prog 41 #[.int .u16 389, .int .u16 16] W fun r w' => r = .returned (.bool false) ∧ W = w') := fun W _ => has41 389 16 W (by omega) (by omega)
  go_wp2_with fail
  refine (C.out _ (by trivial)).mono ?_
  rintro r wx ⟨rfl, rfl⟩
  clear C
  have C : Hid (∀ W : World, 1 = 1 → Calls Try.prog 41 #[.int .u16 389, .int .u16 32] W fun r w' => r = .returned (.bool false) ∧ W = w') := fun W _ => has41 389 32 W (by omega) (by omega)
  go_wp2_with fail
  refine (C.out _ (by trivial)).mono ?_
  rintro r wx ⟨rfl, rfl⟩
  clear C
  have C : Hid (∀ W : World, 1 = 1 → Calls Try.prog 41 #[.int .u16 389, .int .u16 64] W fun r w' => r = .returned (.bool false) ∧ W = w') := fun W _ => has41 389 64 W (by omega) (by omega)
  go_wp2_with fail
  refine (C.out _ (by trivial)).mono ?_
  rintro r wx ⟨rfl, rfl⟩
  clear C
  have C : Hid (∀ W : World, 1 = 1 → Calls Try.prog 41 #[.int .u16 389, .int .u16 128] W fun r w' => r = .returned (.bool true) ∧ W = w') := fun W _ => has41 389 128 W (by omega) (by omega)
  go_wp2_with fail
  refine (C.out _ (by trivial)).mono ?_
  rintro r wx ⟨rfl, rfl⟩
  clear C
  have C : Hid (∀ W : World, 1 = 1 → Calls Try.prog 41 #[.int .u16 389, .int .u16 256] W fun r w' => r = .returned (.bool true) ∧ W = w') := fun W _ => has41 389 256 W (by omega) (by omega)
  go_wp2_with fail
  refine (C.out _ (by trivial)).mono ?_
  rintro r wx ⟨rfl, rfl⟩
  clear C
  have p12 : W1.cell? ⟨b, 12, none⟩ = some (.slice ao ws.length cp) := block_cell HZ0.out.x rfl
  go_wp2_with fail
  clear p12
  have HW0 : Hid (M0 ++ wsForm (ws.take 0) = M0) := by show _ = _; simp [wsForm]
  go_loopw [43] (fun i wr => ∃ m : Nat, m ≤ ws.length ∧ i = .int .i64 m ∧ Hid (Pz w B b pb (En.mk k c n sp sq ap aq mp mq prim pt dn ws) ao cp (M0 ++ wsForm (ws.take m)) wr)) (fun i _ => ws.length - (intOf i).toNat)
  case atStart => exact ⟨0, Nat.zero_le _, rfl, by rw [HW0.out]; exact HZ0.out⟩
  case round =>
    obtain ⟨m, hm, rfl, HE⟩ := hrel
    clear HW0 HZ0
    by_cases hml : m < ws.length
    · obtain ⟨c1, o1, rfl, d0, d1, d2⟩ := HE.out.ws.el hml
      have hml1 : (m : Int) < ws.length := by omega
      have HX0 : Hid (wOk (ws.getD m dw) = true) := HK.out.ws _ (getD_memW hml)
      have lt1 : (wsForm (ws.take m)).length ≤ 307 * 16 := by
        have h1 := ws_len (ws := ws.take m) (fun x hx => HK.out.ws x (List.mem_of_mem_take hx))
        have h2 : (ws.take m).length ≤ 16 := by have := HK.out.len; rw [List.length_take]; omega
        omega
      have HT : Hid (M0 ++ wsForm (ws.take m) ++ wrForm (ws.getD m dw) = M0 ++ wsForm (ws.take (m + 1))) := by show _ = _; rw [take_form hml, List.append_assoc]
      have HQ : Hid (m + 1 ≤ ws.length) := hml
      obtain ⟨LM, hLM⟩ : ∃ LM, M0 ++ wsForm (ws.take m) = LM := ⟨_, rfl⟩
      have lm90 : LM.length ≤ 5112 := by rw [← hLM, List.length_append]; omega
      rw [hLM] at HE HT
      clear hLM lt1 lm0
      generalize ws.getD m dw = x at *
      have HB0 : Hid _ := HE.out.box x
      go_upto_region 12 with fail
      obtain ⟨y90, hy⟩ : ∃ y90, wr.alloc (.cells #[.string (bs x.key), .string (bs x.val), .bool x.dead] 60) = y90 := ⟨_, rfl⟩
      obtain ⟨bw, hbw⟩ : ∃ bw, wr.heap.size = bw := ⟨_, rfl⟩
      have HZ90 : Hid (Pb w B b pb bw (En.mk k c n sp sq ap aq mp mq prim pt dn ws) (some ⟨c1, o1, none⟩) cp LM x y90) := by rw [← hy, ← hbw]; exact HB0.out
      rw [hy, hbw]
      clear HB0 hy hbw HE d0 d1 d2
      have C : Hid (1 = 1 → Calls Try.prog 43 #[.pointer (some ⟨pb, 0, none⟩), .string (bs x.key)] y90 fun r w' => r = .returned (.tuple #[]) ∧ WrAt pb (LM ++ textForm x.key) w' ∧ KeptW pb y90 w') := fun _ => text19 pb LM x.key y90 HZ90.out.z.wr (by have := (wOk_iff HX0.out).1; omega)
      have g0 : y90.cell? ⟨bw, 0, none⟩ = some (.string (bs x.key)) := block_cell HZ90.out.bx rfl
      go_wp2_with fail
      refine (C.out (by simp)).mono ?_
      rintro r y91 ⟨rfl, hw, hk⟩
      have HX : Hid (Pb w B b pb bw (En.mk k c n sp sq ap aq mp mq prim pt dn ws) (some ⟨c1, o1, none⟩) cp (LM ++ textForm x.key) x y91) := HZ90.out.go hw hk
      have lf : (textForm x.key).length ≤ 1009 := tf_len (by have := (wOk_iff HX0.out).1; omega)
      obtain ⟨M91, hL⟩ : ∃ q, LM ++ textForm x.key = q := ⟨_, rfl⟩
      have lm91 : M91.length ≤ 6121 := by rw [← hL, List.length_append]; omega
      have HM91 : Hid (LM ++ textForm x.key = M91) := hL
      rw [hL] at HX
      have HZ91 : Hid (Pb w B b pb bw (En.mk k c n sp sq ap aq mp mq prim pt dn ws) (some ⟨c1, o1, none⟩) cp M91 x y91) := HX.out
      clear hw hk HX C lf hL HZ90 lm90  g0 
      have C : Hid (1 = 1 → Calls Try.prog 44 #[.pointer (some ⟨pb, 0, none⟩), .bool x.dead] y91 fun r w' => r = .returned (.tuple #[]) ∧ WrAt pb (M91 ++ flagForm x.dead) w' ∧ KeptW pb y91 w') := fun _ => flag14 pb M91 x.dead y91 HZ91.out.z.wr (by omega)
      have g2 : y91.cell? ⟨bw, 2, none⟩ = some (.bool x.dead) := block_cell HZ91.out.bx rfl
      go_wp2_with fail
      refine (C.out (by simp)).mono ?_
      rintro r y92 ⟨rfl, hw, hk⟩
      have HX : Hid (Pb w B b pb bw (En.mk k c n sp sq ap aq mp mq prim pt dn ws) (some ⟨c1, o1, none⟩) cp (M91 ++ flagForm x.dead) x y92) := HZ91.out.go hw hk
      have lf : (flagForm x.dead).length ≤ 1 := by rw [ff_len]; exact Nat.le_refl _
      obtain ⟨M92, hL⟩ : ∃ q, M91 ++ flagForm x.dead = q := ⟨_, rfl⟩
      have lm92 : M92.length ≤ 6122 := by rw [← hL, List.length_append]; omega
      have HM92 : Hid (M91 ++ flagForm x.dead = M92) := hL
      rw [hL] at HX
      have HZ92 : Hid (Pb w B b pb bw (En.mk k c n sp sq ap aq mp mq prim pt dn ws) (some ⟨c1, o1, none⟩) cp M92 x y92) := HX.out
      clear hw hk HX C lf hL HZ91 lm91  g2 
      have C : Hid (1 = 1 → Calls Try.prog 43 #[.pointer (some ⟨pb, 0, none⟩), .string (bs x.val)] y92 fun r w' => r = .returned (.tuple #[]) ∧ WrAt pb (M92 ++ textForm x.val) w' ∧ KeptW pb y92 w') := fun _ => text19 pb M92 x.val y92 HZ92.out.z.wr (by have := (wOk_iff HX0.out).2; omega)
      have g1 : y92.cell? ⟨bw, 1, none⟩ = some (.string (bs x.val)) := block_cell HZ92.out.bx rfl
      go_wp2_with fail
      refine (C.out (by simp)).mono ?_
      rintro r y93 ⟨rfl, hw, hk⟩
      have HX : Hid (Pb w B b pb bw (En.mk k c n sp sq ap aq mp mq prim pt dn ws) (some ⟨c1, o1, none⟩) cp (M92 ++ textForm x.val) x y93) := HZ92.out.go hw hk
      have lf : (textForm x.val).length ≤ 1009 := tf_len (by have := (wOk_iff HX0.out).2; omega)
      obtain ⟨M93, hL⟩ : ∃ q, M92 ++ textForm x.val = q := ⟨_, rfl⟩
      have lm93 : M93.length ≤ 7131 := by rw [← hL, List.length_append]; omega
      have HM93 : Hid (M92 ++ textForm x.val = M93) := hL
      rw [hL] at HX
      have HZ93 : Hid (Pb w B b pb bw (En.mk k c n sp sq ap aq mp mq prim pt dn ws) (some ⟨c1, o1, none⟩) cp M93 x y93) := HX.out
      clear hw hk HX C lf hL HZ92 lm92  g1 
      have HLF : Hid (M93 = M0 ++ wsForm (ws.take (m + 1))) := by
        show _ = _
        rw [← HM93.out, ← HM92.out, ← HM91.out, ← HT.out]
        unfold wrForm
        simp only [List.append_assoc]
      clear HM91 HM92 HM93 HT
      go_wp2_with fail
      go_roundw
      case rel => exact ⟨m + 1, HQ.out, by go_num, by rw [← HLF.out]; exact HZ93.out.z⟩
      case measure => simp [intOf]; omega
    · have hml1 : ¬ (m : Int) < ws.length := by omega
      have HTW : Hid (ws.take m = ws) := List.take_of_length_le (by omega)
      rw [HTW.out] at HE
      obtain ⟨LW, hLW⟩ : ∃ LW, M0 ++ wsForm ws = LW := ⟨_, rfl⟩
      have HLW : Hid (M0 ++ wsForm ws = LW) := hLW
      rw [hLW] at HE
      clear hLW
      have HF : Hid (L ++ (wsForm ws) = LW) := by
        show _ = _
        rw [← HLW.out]
        rw [← HM0.out]
        try simp [List.append_assoc]
      go_wp2_with fail
      go_end0
      exact ⟨rfl, (by have h := HE.out.wr; rw [← HF.out] at h; first | exact h | simpa only [List.append_assoc] using h), HE.out.k⟩
end Go.Proofs.Ytmgjlpgjjeknpaa
