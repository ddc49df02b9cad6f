/-
  Contracts of latch's leaves: isKey, isRight, justAbove, Right's closure; slices.IndexFunc, ContainsFunc of writes, whatever closure they are told by.
-/
import Derived.Test.YtknfkpnicjellaaInt
import Derived.Shelf.Abstract
namespace Go.Proofs.Ytknfkpnicjellaa
open Go.RowKit

theorem key28 (k : List UInt8) (w : World) : Calls Try.prog 28 #[.string (bs k)] w fun e w' => e = .returned (.bool (kOk k)) ∧ w' = w := by
  have hs := bs_size k
  by_cases h1 : 1 ≤ k.length
  · by_cases h2 : k.length ≤ 32
    · have hk : kOk k = true := by simp [kOk, h1, h2]
      rw [hk]
      have h1' : (1 : Int) ≤ k.length := by omega
      have h2' : (k.length : Int) ≤ 32 := by omega
      clear hk
      go_enter Try.func28, Try.ntmps28
      go_wp2_with fail
      go_ret
      exact ⟨rfl, rfl⟩
    · have hk : kOk k = false := by simp [kOk, h2]
      rw [hk]
      have h1' : (1 : Int) ≤ k.length := by omega
      have h2' : ¬ (k.length : Int) ≤ 32 := by omega
      clear hk
      go_enter Try.func28, Try.ntmps28
      go_wp2_with fail
      go_ret
      exact ⟨rfl, rfl⟩
  · have hk : kOk k = false := by simp [kOk, h1]
    rw [hk]
    have h1' : ¬ (1 : Int) ≤ k.length := by omega
    clear hk
    go_enter Try.func28, Try.ntmps28
    go_wp2_with fail
    go_ret
    exact ⟨rfl, rfl⟩

set_option maxHeartbeats 800000 in
set_option maxRecDepth 100000 in
theorem right50 (x : Wr) (w : World) : Calls Try.prog 50 #[.agg #[.string (bs x.key), .string (bs x.val), .bool x.dead]] w fun e w' => e = .returned (.bool (wOk x)) ∧ Below w.heap.size w w' := by
  obtain ⟨xk, xv, xd⟩ := x
  dsimp only
  have hs := bs_size xv
  have q0 : ((bs xv).toList == []) = xv.isEmpty := by rw [bs_list]; cases xv <;> rfl
  have CK : Hid (∀ W, Calls Try.prog 28 #[.string (bs xk)] W fun e w' => e = .returned (.bool (kOk xk)) ∧ w' = W) := fun W => key28 xk W
  have HOk : Hid (∀ kb, kOk xk = kb → ∀ eb, xv.isEmpty = eb → wOk ⟨xk, xv, xd⟩ = (kb && decide (xv.length ≤ 256) && !(xd && !eb))) := fun kb h1 eb h2 => by subst h1 h2; rfl
  obtain ⟨kb, hkb⟩ : ∃ kb, kOk xk = kb := ⟨_, rfl⟩
  obtain ⟨eb, heb⟩ : ∃ eb, xv.isEmpty = eb := ⟨_, rfl⟩
  rw [HOk.out kb hkb eb heb]
  rw [hkb] at CK
  rw [heb] at q0
  have HB : Hid (∀ o, Below w.heap.size w (w.alloc o)) := fun o => al o
  clear hkb heb HOk
  cases kb
  · go_enter Try.func50, Try.ntmps50
    go_wp2_with fail
    refine (CK.out _).mono ?_
    rintro e w1 ⟨rfl, rfl⟩
    go_wp2_with fail
    go_ret
    exact ⟨rfl, HB.out _⟩
  · by_cases hv : (xv.length : Int) ≤ 256
    · have hv2 : decide (xv.length ≤ 256) = true := by simp; omega
      rw [hv2]
      clear hv2
      cases xd
      · go_enter Try.func50, Try.ntmps50
        go_wp2_with fail
        refine (CK.out _).mono ?_
        rintro e w1 ⟨rfl, rfl⟩
        go_wp2_with fail
        go_ret
        exact ⟨rfl, HB.out _⟩
      · cases eb
        · go_enter Try.func50, Try.ntmps50
          go_wp2_with fail
          refine (CK.out _).mono ?_
          rintro e w1 ⟨rfl, rfl⟩
          go_wp2_with fail
          go_ret
          exact ⟨rfl, HB.out _⟩
        · go_enter Try.func50, Try.ntmps50
          go_wp2_with fail
          refine (CK.out _).mono ?_
          rintro e w1 ⟨rfl, rfl⟩
          go_wp2_with fail
          go_ret
          exact ⟨rfl, HB.out _⟩
    · have hv2 : decide (xv.length ≤ 256) = false := by simp; omega
      rw [hv2]
      clear hv2
      go_enter Try.func50, Try.ntmps50
      go_wp2_with fail
      refine (CK.out _).mono ?_
      rintro e w1 ⟨rfl, rfl⟩
      go_wp2_with fail
      go_ret
      exact ⟨rfl, HB.out _⟩

set_option maxHeartbeats 400000 in
set_option maxRecDepth 100000 in
theorem above44 (k : List UInt8) (w : World) (hl : k.length < 1000) : Calls Try.prog 44 #[.string (bs k)] w fun e w' => e = .returned (.string (bs (k ++ [0]))) ∧ w' = w := by
  have hs := bs_size k
  have hd := bs_data k
  have hl' : ¬ 9223372036854775807 < k.length + 1 := by omega
  have e1 : bs k ++ ⟨#[0]⟩ = bs (k ++ [0]) := by
    apply ByteArray.ext
    simp [bs]
  go_enter Try.func44, Try.ntmps44
  go_wp2_with fail
  go_ret
  exact ⟨rfl, rfl⟩

set_option maxHeartbeats 400000 in
set_option maxRecDepth 100000 in
theorem same51 (x : Wr) (bp : Nat) (k : List UInt8) (w : World) (h : w.cell? ⟨bp, 0, none⟩ = some (.string (bs k))) : Calls Try.prog 51 #[.agg #[.string (bs x.key), .string (bs x.val), .bool x.dead], .pointer (some ⟨bp, 0, none⟩)] w fun e w' => e = .returned (.bool (x.key == k)) ∧ Below w.heap.size w w' := by
  have hq := bs_beq x.key k
  obtain ⟨W0, hW0⟩ : ∃ W0, w.alloc (.cells #[.string (bs x.key), .string (bs x.val), .bool x.dead] 44) = W0 := ⟨_, rfl⟩
  have hb0 : Below w.heap.size w W0 := by rw [← hW0]; exact al _
  have hx0 : W0.heap[w.heap.size]? = some (.cells #[.string (bs x.key), .string (bs x.val), .bool x.dead] 44 (0, 0)) := by rw [← hW0]; exact heap_alloc_new w _
  have z0 : W0.cell? ⟨w.heap.size, 0, none⟩ = some (.string (bs x.key)) := block_cell hx0 rfl
  have h0 : W0.cell? ⟨bp, 0, none⟩ = some (.string (bs k)) := by rw [hb0.cell (World.block_lt_of_cell? _ _ h)]; exact h
  have HB : Hid (Below w.heap.size w W0) := hb0
  clear h hb0 hx0
  generalize (x.key == k) = z at *
  go_enter Try.func51, Try.ntmps51
  go_wp2_with fail
  go_ret
  exact ⟨rfl, HB.out⟩

theorem any_step {L : List Wr} {P : Wr → Bool} {m : Nat} (h : m < L.length) : (L.drop m).any P = (P (L.getD m dw) || (L.drop (m + 1)).any P) := by
  rw [List.drop_eq_getElem_cons h, List.any_cons, List.getD, List.getElem?_eq_getElem h]
  rfl

set_option maxHeartbeats 800000 in
set_option maxRecDepth 100000 in
theorem index52 (f : Nat) (cf : Array Value) (P : Wr → Bool) (L : List Wr) (v : Value) (w : World) (hL : WsAt w.heap.size v L w) (ef : ∀ args w, (callFunc f args).run Try.prog w = .ok (.enter f args) w)
    (HF : Hid (∀ (x : Wr) W, Below w.heap.size w W → Calls Try.prog f (#[.agg #[.string (bs x.key), .string (bs x.val), .bool x.dead]] ++ cf) W fun e w' => e = .returned (.bool (P x)) ∧ Below W.heap.size W w')) :
    Calls Try.prog 52 #[v, .func (.func f) #[] cf] w fun e w' => ∃ i : Int, e = .returned (.int .i64 i) ∧ decide (0 ≤ i) = L.any P ∧ Below w.heap.size w w' := by
  have HL : Hid (WsAt w.heap.size v L w) := hL
  obtain ⟨ao, cap, rfl, hlc, hcm⟩ := hL.shape
  have hL9 : L.length < 9223372036854775808 := by omega
  have H0 : Hid ((L.drop 0).any P = L.any P) := by show _ = _; rw [List.drop_zero]
  have HE : Hid (∀ W, Below w.heap.size w W → ∀ i, i < L.length → ∃ b off, ao = some ⟨b, off, none⟩ ∧ WrAt W b (off + i * 3) (L.getD i dw)) := fun W hW i hi => (HL.out.on hW).el hi
  obtain ⟨y, hy⟩ : ∃ y, L.any P = y := ⟨_, rfl⟩
  rw [hy] at H0 ⊢
  clear hL hlc hcm HL hy
  go_enter Try.func52, Try.ntmps52
  go_wp2_with fail
  go_loopw [8] (fun i wr => Below w.heap.size w wr ∧ ∃ m : Nat, m ≤ L.length ∧ i = .int .i64 m ∧ (L.drop m).any P = y) (fun i _ => L.length - (intOf i).toNat)
  case atStart => exact ⟨Below.refl _ _, 0, Nat.zero_le _, rfl, H0.out⟩
  case round =>
    obtain ⟨hbr, m, hm, rfl, hy⟩ := hrel
    have HBr : Hid (Below w.heap.size w wr) := hbr
    by_cases hml : m < L.length
    · obtain ⟨b, off, rfl, e0, e1, e2⟩ := HE.out wr hbr m hml
      have hml' : (m : Int) < L.length := by omega
      have hm9 : ¬ (m : Int) < 0 := by omega
      have hst := any_step (P := P) hml
      rw [hy] at hst
      have HQ : Hid (m + 1 ≤ L.length) := hml
      generalize L.getD m dw = x at *
      have CF : Hid (1 = 1 → _) := fun _ => HF.out x wr hbr
      obtain ⟨z, hz⟩ : ∃ z, P x = z := ⟨_, rfl⟩
      rw [hz] at CF hst
      clear hz hbr hy HE
      cases z
      · have HY : Hid ((L.drop (m + 1)).any P = y) := by show _ = _; rw [hst]; rfl
        clear hst
        go_wp2_with fail
        refine (CF.out (by trivial)).mono ?_
        rintro e w1 ⟨rfl, hb1⟩
        have HB1 : Hid (Below w.heap.size w w1) := HBr.out.trans (hb1.mono HBr.out.size)
        clear hb1 CF e0 e1 e2
        go_wp2_with fail
        go_roundw
        case rel => exact ⟨HB1.out, m + 1, HQ.out, by go_num, HY.out⟩
        case measure => simp [intOf]; omega
      · have hy1 : y = true := hst
        subst hy1
        clear hst
        go_wp2_with fail
        refine (CF.out (by trivial)).mono ?_
        rintro e w1 ⟨rfl, hb1⟩
        have HB1 : Hid (Below w.heap.size w w1) := HBr.out.trans (hb1.mono HBr.out.size)
        clear hb1 CF e0 e1 e2
        go_wp2_with fail
        go_ret
        exact ⟨_, rfl, by simp, HB1.out⟩
    · have hml' : ¬ (m : Int) < L.length := by omega
      have hy1 : y = false := by rw [← hy, List.drop_eq_nil_of_le (by omega)]; rfl
      subst hy1
      clear hy hbr
      go_wp2_with fail
      go_ret
      exact ⟨_, rfl, by decide, HBr.out⟩

set_option maxHeartbeats 800000 in
set_option maxRecDepth 100000 in
theorem cont30 (f : Nat) (cf : Array Value) (P : Wr → Bool) (L : List Wr) (v : Value) (w : World) (hL : WsAt w.heap.size v L w) (ef : ∀ args w, (callFunc f args).run Try.prog w = .ok (.enter f args) w)
    (HF : Hid (∀ (x : Wr) W, Below w.heap.size w W → Calls Try.prog f (#[.agg #[.string (bs x.key), .string (bs x.val), .bool x.dead]] ++ cf) W fun e w' => e = .returned (.bool (P x)) ∧ Below W.heap.size W w')) :
    Calls Try.prog 30 #[v, .func (.func f) #[] cf] w fun e w' => e = .returned (.bool (L.any P)) ∧ Below w.heap.size w w' := by
  have CI : Hid (1 = 1 → _) := fun _ => index52 f cf P L v w hL ef HF
  obtain ⟨ao, cap, rfl, hlc, hcm⟩ := hL.shape
  clear hL HF ef hlc hcm
  generalize L.any P = y at *
  go_enter Try.func30, Try.ntmps30
  go_wp2_with fail
  refine (CI.out (by trivial)).mono ?_
  rintro e w1 ⟨i, rfl, hi, hb1⟩
  have HB : Hid _ := hb1
  have HI : Hid (decide (0 ≤ i) = y) := hi
  clear CI hb1 hi
  go_wp2_with fail
  go_ret
  exact ⟨by rw [← HI.out]; rfl, HB.out⟩
end Go.Proofs.Ytknfkpnicjellaa
