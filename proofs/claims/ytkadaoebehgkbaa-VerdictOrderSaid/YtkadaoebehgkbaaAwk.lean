/-
  awake: one verdict.
-/
import Derived.Test.YtkadaoebehgkbaaIfv
namespace Go.Proofs.Ytkadaoebehgkbaa
open Go.RowKit
variable {BA : Nat → Nat → (Nat → Prop) → Bk → World → Prop}

def va7 : Vd := ⟨1, 0, 0, 0, 9, 0, 0, false⟩
def vb7 : Vd := ⟨1, 0, 0, 0, 0, 0, 0, false⟩
def vd7 : Vd := ⟨1, 0, 0, 0, 9, 0, 0, true⟩
theorem aw1 : setB va7 [] = ([va7], 0) := rfl
theorem aw2 : setB vb7 [va7] = ([va7], 40) := rfl
theorem aw3 : retB 100 0 [] [va7] = [va7] := rfl
theorem aw4 : doneB 1 0 [va7] = ([vd7], true) := rfl
theorem aw5 : retB 100 0 [] [vd7] = [] := rfl
theorem ts_nil (B : Nat) (w : World) : TsAt B (.slice none 0 0) [] w := RwAt.nil _ _ _
theorem rg_va : RgV va7 := ⟨by simp [R32, va7], by simp [R32, va7], by simp [R64, va7], by simp [R32, va7], by simp [R64, va7], by simp [R32, va7], by simp [R8, va7]⟩
theorem rg_vb : RgV vb7 := ⟨by simp [R32, vb7], by simp [R32, vb7], by simp [R64, vb7], by simp [R32, vb7], by simp [R64, vb7], by simp [R32, vb7], by simp [R8, vb7]⟩
theorem rg_nil : RgT [] := fun _ h => by cases h

set_option maxHeartbeats 1600000 in
set_option maxRecDepth 100000 in
theorem awake7 (I : Ifv BA) (w : World) : Calls Try.prog 7 #[] w fun e w' => e = .returned (.bool true) ∧ Below w.heap.size w w' := by
  have C1 : Hid (1 = 1 → _) := fun _ => pz_new I (F := fun _ => False) (Below.refl w.heap.size w) (fun _ h => h.elim)
  have C2 : Hid (∀ p F W, Pz BA w p [] F W → Calls Try.prog 9 #[.pointer (some ⟨p, 0, none⟩), .agg #[.int .u32 1, .int .u32 0, .int .u64 0, .int .u32 0, .int .u64 9, .int .u32 0, .int .u8 0, .bool false]] W fun e w' => e = .returned (.int .i64 0) ∧ Pz BA w p [va7] F w' ∧ Kp F w W w') := fun p F W h => by
    have h2 := pz_set I va7 h (by simp) rg_va
    rw [aw1] at h2
    exact h2
  have C3 : Hid (∀ p F W, Pz BA w p [va7] F W → Calls Try.prog 9 #[.pointer (some ⟨p, 0, none⟩), .agg #[.int .u32 1, .int .u32 0, .int .u64 0, .int .u32 0, .int .u64 0, .int .u32 0, .int .u8 0, .bool false]] W fun e w' => e = .returned (.int .i64 40) ∧ Pz BA w p [va7] F w' ∧ Kp F w W w') := fun p F W h => by
    have h2 := pz_set I vb7 h (by simp) rg_vb
    rw [aw2] at h2
    exact h2
  have C4 : Hid (∀ p F W, Pz BA w p [va7] F W → Calls Try.prog 13 #[.pointer (some ⟨p, 0, none⟩), .agg #[.int .u64 100, .int .u32 0], .slice none 0 0] W fun e w' => e = .returned (.int .i64 0) ∧ Pz BA w p [va7] F w' ∧ Kp F w W w') := fun p F W h => by
    have h2 := pz_retire I 100 0 [] (.slice none 0 0) h (by simp [R64, R32]) rg_nil (by simp) (ts_nil _ _) (fun h0 => absurd h0 (by simp))
    rw [aw3] at h2
    exact h2
  have C5 : Hid (∀ p F W, Pz BA w p [va7] F W → Calls Try.prog 11 #[.pointer (some ⟨p, 0, none⟩), .agg #[.int .u32 1, .int .u32 0]] W fun e w' => e = .returned (.bool true) ∧ Pz BA w p [vd7] F w' ∧ Kp F w W w') := fun p F W h => by
    have h2 := pz_done I 1 0 h (by simp [R32])
    rw [aw4] at h2
    exact h2
  have C6 : Hid (∀ p F W, Pz BA w p [vd7] F W → Calls Try.prog 13 #[.pointer (some ⟨p, 0, none⟩), .agg #[.int .u64 100, .int .u32 0], .slice none 0 0] W fun e w' => e = .returned (.int .i64 1) ∧ Below w.heap.size w w') := fun p F W h => by
    have h2 := pz_retire I 100 0 [] (.slice none 0 0) h (by simp [R64, R32]) rg_nil (by simp) (ts_nil _ _) (fun h0 => absurd h0 (by simp))
    rw [aw5] at h2
    refine Calls.mono h2 ?_
    rintro e w' ⟨rfl, h3, _⟩
    exact ⟨rfl, h3.bel⟩
  go_enter Try.func7, Try.ntmps7
  go_wp2_with fail
  refine (C1.out (by trivial)).mono ?_
  rintro e w1 ⟨p, rfl, h1, _⟩
  have H1 : Hid _ := h1
  clear h1 C1
  go_wp2_with fail
  obtain ⟨W2, hW2⟩ : ∃ W2, w1.alloc (.cells #[.int .u32 1, .int .u32 0] 32) = W2 := ⟨_, rfl⟩
  obtain ⟨bx, hbx⟩ : ∃ bx, w1.heap.size = bx := ⟨_, rfl⟩
  have H2 : Hid (Pz BA w p [] (fun k => k = bx) W2 ∧ W2.heap[bx]? = some (.cells #[.int .u32 1, .int .u32 0] 32 (0, 0))) := by
    rw [← hW2, ← hbx]
    exact ⟨H1.out.more I (al _) (fun k hk => .inr ⟨by omega, by rw [hk]; simp⟩), heap_alloc_new w1 _⟩
  rw [hW2, hbx]
  clear hW2 hbx H1
  refine (C2.out p _ W2 H2.out.1).mono ?_
  rintro e w3 ⟨rfl, h3, k3⟩
  have H3 : Hid (Pz BA w p [va7] (fun k => k = bx) w3 ∧ w3.heap[bx]? = some (.cells #[.int .u32 1, .int .u32 0] 32 (0, 0))) := ⟨h3, k3.block (.inl rfl) H2.out.2⟩
  have x0 : w3.cell? ⟨bx, 0, none⟩ = some (.int .u32 1) := block_cell H3.out.2 rfl
  have x1 : w3.cell? ⟨bx, 1, none⟩ = some (.int .u32 0) := block_cell H3.out.2 rfl
  clear h3 k3 H2 C2
  go_wp2_with fail
  refine (C3.out p _ w3 H3.out.1).mono ?_
  rintro e w4 ⟨rfl, h4, k4⟩
  have H4 : Hid (Pz BA w p [va7] (fun k => k = bx) w4 ∧ w4.heap[bx]? = some (.cells #[.int .u32 1, .int .u32 0] 32 (0, 0))) := ⟨h4, k4.block (.inl rfl) H3.out.2⟩
  clear h4 k4 H3 C3 x0 x1
  go_wp2_with fail
  refine (C4.out p _ w4 H4.out.1).mono ?_
  rintro e w5 ⟨rfl, h5, k5⟩
  have H5 : Hid (Pz BA w p [va7] (fun k => k = bx) w5 ∧ w5.heap[bx]? = some (.cells #[.int .u32 1, .int .u32 0] 32 (0, 0))) := ⟨h5, k5.block (.inl rfl) H4.out.2⟩
  have x0 : w5.cell? ⟨bx, 0, none⟩ = some (.int .u32 1) := block_cell H5.out.2 rfl
  have x1 : w5.cell? ⟨bx, 1, none⟩ = some (.int .u32 0) := block_cell H5.out.2 rfl
  clear h5 k5 H4 C4
  go_wp2_with fail
  refine (C5.out p _ w5 H5.out.1).mono ?_
  rintro e w6 ⟨rfl, h6, k6⟩
  have H6 : Hid (Pz BA w p [vd7] (fun k => k = bx) w6) := h6
  clear h6 k6 H5 C5 x0 x1
  go_wp2_with fail
  refine (C6.out p _ w6 H6.out).mono ?_
  rintro e w7 ⟨rfl, h7⟩
  have H7 : Hid _ := h7
  clear h7 H6 C6
  go_wp2_with fail
  go_ret
  exact ⟨rfl, H7.out⟩
end Go.Proofs.Ytkadaoebehgkbaa
