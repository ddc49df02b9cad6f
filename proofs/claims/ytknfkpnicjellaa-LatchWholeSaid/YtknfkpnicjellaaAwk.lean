/-
  awake: one of two takes a key. LatchNothing.
-/
import Derived.Test.YtknfkpnicjellaaIfl
namespace Go.Proofs.Ytknfkpnicjellaa
open Go.RowKit
variable {TA : Nat → Nat → (Nat → Prop) → Tb → World → Prop}

def wa8 : Wr := ⟨[97], [], false⟩
def wb8 : Wr := ⟨[98], [], false⟩
def ia8 : Ii := ⟨1, 0, 5, 0, 6, 0, [97], [], false⟩
theorem aw1 : layF (rightB 5 0 && rightB 6 0 && kOk [97]) 1 0 5 0 6 0 [97] [wa8, wb8] [] = ([([97], ia8), ([98], ia8)], 0) := rfl
theorem aw2 : layF (rightB 7 0 && rightB 8 0 && kOk [98]) 2 0 7 0 8 0 [98] [wb8] [([97], ia8), ([98], ia8)] = ([([97], ia8), ([98], ia8)], 40) := rfl
theorem aw3 : firstF [] [] 5 0 [] [([97], ia8), ([98], ia8)] = none := rfl
theorem aw4 : firstF [] [] 6 0 [] [([97], ia8), ([98], ia8)] = some ([97], ia8) := rfl
theorem ws_new (w : World) (L : List Wr) (hl : L.length < 1000) : WsAt (w.alloc (.cells (rowC wrc L).toArray 44)).heap.size (.slice (some ⟨w.heap.size, 0, none⟩) L.length L.length) L (w.alloc (.cells (rowC wrc L).toArray 44)) := by
  refine ⟨_, L.length, rfl, by rw [rowC_length wrc_len], Nat.le_refl _, by omega, fun _ => ⟨w.heap.size, 0, rfl, fun _ => by simp, fun j u hj => ?_⟩⟩
  rw [Nat.zero_add]
  exact block_cell (heap_alloc_new w _) (by simpa using hj)
theorem ts_nil (B : Nat) (w : World) : TsAt B (.slice none 0 0) [] w := RwAt.nil _ _ _

set_option maxHeartbeats 1600000 in
set_option maxRecDepth 100000 in
theorem awake8 (I : Ifl TA) (w : World) : Calls Try.prog 8 #[] w fun e w' => e = .returned (.bool true) ∧ Below w.heap.size w w' := by
  have C1 : Hid (1 = 1 → _) := fun _ => pz_new I (F := fun _ => False) (Below.refl w.heap.size w) (fun _ h => h.elim)
  have C2 : Hid (∀ p F W, Pz TA w p [] F W → Calls Try.prog 10 #[.pointer (some ⟨p, 0, none⟩), .agg #[.int .u32 1, .int .u32 0], .agg #[.int .u64 5, .int .u32 0], .agg #[.int .u64 6, .int .u32 0], .string ⟨#[97]⟩, .slice (some ⟨W.heap.size, 0, none⟩) 2 2] (W.alloc (.cells #[.string ⟨#[97]⟩, .string ⟨#[]⟩, .bool false, .string ⟨#[98]⟩, .string ⟨#[]⟩, .bool false] 44)) fun e w' => e = .returned (.int .i64 0) ∧ Pz TA w p [([97], ia8), ([98], ia8)] F w' ∧ Kp F w W w') := fun p F W h => by
    have h1 := h.more I (G := fun k => F k ∨ k = W.heap.size) (al (.cells (rowC wrc [wa8, wb8]).toArray 44)) (fun k hk => by rcases hk with e | e; exact .inl e; exact .inr ⟨by omega, by rw [e]; simp⟩)
    have h2 := pz_lay I 1 0 5 0 6 0 [97] [wa8, wb8] (.slice (some ⟨W.heap.size, 0, none⟩) 2 2) h1 (by simp) (ws_new W [wa8, wb8] (by simp)) (fun _ k hk => by injection hk with hk; exact .inr (.inr hk.symm)) (by decide)
    rw [aw1] at h2
    refine Calls.mono h2 ?_
    rintro e w' ⟨rfl, h3, h4⟩
    exact ⟨rfl, h3.less (fun k hk => .inl hk), (Kp.of_below (al _)).trans (h4.mono (fun k hk => .inl hk))⟩
  have C3 : Hid (∀ p F W, Pz TA w p [([97], ia8), ([98], ia8)] F W → Calls Try.prog 10 #[.pointer (some ⟨p, 0, none⟩), .agg #[.int .u32 2, .int .u32 0], .agg #[.int .u64 7, .int .u32 0], .agg #[.int .u64 8, .int .u32 0], .string ⟨#[98]⟩, .slice (some ⟨W.heap.size, 0, none⟩) 1 1] (W.alloc (.cells #[.string ⟨#[98]⟩, .string ⟨#[]⟩, .bool false] 44)) fun e w' => e = .returned (.int .i64 40) ∧ Pz TA w p [([97], ia8), ([98], ia8)] F w' ∧ Kp F w W w') := fun p F W h => by
    have h1 := h.more I (G := fun k => F k ∨ k = W.heap.size) (al (.cells (rowC wrc [wb8]).toArray 44)) (fun k hk => by rcases hk with e | e; exact .inl e; exact .inr ⟨by omega, by rw [e]; simp⟩)
    have h2 := pz_lay I 2 0 7 0 8 0 [98] [wb8] (.slice (some ⟨W.heap.size, 0, none⟩) 1 1) h1 (by simp) (ws_new W [wb8] (by simp)) (fun _ k hk => by injection hk with hk; exact .inr (.inr hk.symm)) (by decide)
    rw [aw2] at h2
    refine Calls.mono h2 ?_
    rintro e w' ⟨rfl, h3, h4⟩
    exact ⟨rfl, h3.less (fun k hk => .inl hk), (Kp.of_below (al _)).trans (h4.mono (fun k hk => .inl hk))⟩
  have C4 : Hid (∀ p F W, Pz TA w p [([97], ia8), ([98], ia8)] F W → Calls Try.prog 17 #[.pointer (some ⟨p, 0, none⟩), .string ⟨#[]⟩, .string ⟨#[]⟩, .agg #[.int .u64 5, .int .u32 0], .slice none 0 0] W fun e w' => e = .returned (.tuple #[.agg #[.int .u32 0, .int .u32 0, .int .u64 0, .int .u32 0, .int .u64 0, .int .u32 0, .string ⟨#[]⟩, .string ⟨#[]⟩, .string ⟨#[]⟩, .bool false], .bool false]) ∧ Pz TA w p [([97], ia8), ([98], ia8)] F w' ∧ Below W.heap.size W w') := fun p F W h => by
    have h2 := pz_first I [] [] 5 0 [] _ h (ts_nil _ _)
    rw [aw3] at h2
    exact h2
  have C5 : Hid (∀ p F W, Pz TA w p [([97], ia8), ([98], ia8)] F W → Calls Try.prog 17 #[.pointer (some ⟨p, 0, none⟩), .string ⟨#[]⟩, .string ⟨#[]⟩, .agg #[.int .u64 6, .int .u32 0], .slice none 0 0] W fun e w' => e = .returned (.tuple #[.agg #[.int .u32 1, .int .u32 0, .int .u64 5, .int .u32 0, .int .u64 6, .int .u32 0, .string ⟨#[97]⟩, .string ⟨#[97]⟩, .string ⟨#[]⟩, .bool false], .bool true]) ∧ Pz TA w p [([97], ia8), ([98], ia8)] F w' ∧ Below W.heap.size W w') := fun p F W h => by
    have h2 := pz_first I [] [] 6 0 [] _ h (ts_nil _ _)
    rw [aw4] at h2
    exact h2
  go_enter Try.func8, Try.ntmps8
  go_wp2_with fail
  refine (C1.out (by trivial)).mono ?_
  rintro e w1 ⟨p, rfl, h1, _⟩
  have H1 : Hid _ := h1
  clear h1 C1
  go_wp2_with fail
  obtain ⟨W2, hW2⟩ : ∃ W2, (w1.alloc (.cells #[.int .u32 1, .int .u32 0] 32)).alloc (.cells #[.int .u32 2, .int .u32 0] 32) = W2 := ⟨_, rfl⟩
  have hs2 : W2.heap.size = w1.heap.size + 1 + 1 := by rw [← hW2]; simp
  have HX : Hid (W2.heap[w1.heap.size]? = some (.cells #[.int .u32 1, .int .u32 0] 32 (0, 0)) ∧ W2.heap[w1.heap.size + 1]? = some (.cells #[.int .u32 2, .int .u32 0] 32 (0, 0)) ∧ Pz TA w p [] (fun k => k = w1.heap.size ∨ k = w1.heap.size + 1) W2) := by
    obtain ⟨h1, h2, h3⟩ := two_boxes w1 (.cells #[.int .u32 1, .int .u32 0] 32) (.cells #[.int .u32 2, .int .u32 0] 32)
    rw [← hW2]
    exact ⟨h1, h2, H1.out.more I h3 (fun k hk => .inr ⟨by omega, by rw [hW2, hs2]; omega⟩)⟩
  have CX := C2.out p _ W2 HX.out.2.2
  rw [hs2] at CX
  rw [hW2]
  have HC : Hid (1 = 1 → _) := fun _ => CX
  clear CX hW2 hs2 C2 H1
  obtain ⟨bx, hbx⟩ : ∃ bx, w1.heap.size = bx := ⟨_, rfl⟩
  rw [hbx] at HX HC ⊢
  clear hbx
  refine (HC.out (by trivial)).mono ?_
  rintro e w3 ⟨rfl, h3, k3⟩
  have H3 : Hid (Pz TA w p [([97], ia8), ([98], ia8)] (fun k => k = bx ∨ k = bx + 1) w3 ∧ w3.heap[bx]? = some (.cells #[.int .u32 1, .int .u32 0] 32 (0, 0)) ∧ w3.heap[bx + 1]? = some (.cells #[.int .u32 2, .int .u32 0] 32 (0, 0))) := ⟨h3, k3.block (.inl (.inl rfl)) HX.out.1, k3.block (.inl (.inr rfl)) HX.out.2.1⟩
  clear h3 k3 HC HX
  have x0 : w3.cell? ⟨bx + 1, 0, none⟩ = some (.int .u32 2) := block_cell H3.out.2.2 rfl
  have x1 : w3.cell? ⟨bx + 1, 1, none⟩ = some (.int .u32 0) := block_cell H3.out.2.2 rfl
  go_wp2_with fail
  refine (C3.out p _ _ H3.out.1).mono ?_
  rintro e w4 ⟨rfl, h4, k4⟩
  have H4 : Hid (Pz TA w p [([97], ia8), ([98], ia8)] (fun k => k = bx ∨ k = bx + 1) w4 ∧ w4.heap[bx]? = some (.cells #[.int .u32 1, .int .u32 0] 32 (0, 0))) := ⟨h4, k4.block (.inl (.inl rfl)) H3.out.2.1⟩
  clear h4 k4 H3 C3 x0 x1
  go_wp2_with fail
  refine (C4.out p _ _ H4.out.1).mono ?_
  rintro e w5 ⟨rfl, h5, k5⟩
  have H5 : Hid (Pz TA w p [([97], ia8), ([98], ia8)] (fun k => k = bx ∨ k = bx + 1) w5 ∧ w5.heap[bx]? = some (.cells #[.int .u32 1, .int .u32 0] 32 (0, 0))) := ⟨h5, (Kp.of_below k5 : Kp (fun k => k = bx ∨ k = bx + 1) w _ _).block (.inl (.inl rfl)) H4.out.2⟩
  clear h5 k5 H4 C4
  go_wp2_with fail
  obtain ⟨W5, hW5⟩ : ∃ W5, w5.alloc (.cells #[.int .u32 0, .int .u32 0, .int .u64 0, .int .u32 0, .int .u64 0, .int .u32 0, .string ⟨#[]⟩, .string ⟨#[]⟩, .string ⟨#[]⟩, .bool false] 49) = W5 := ⟨_, rfl⟩
  have H5b : Hid (Pz TA w p [([97], ia8), ([98], ia8)] (fun k => k = bx ∨ k = bx + 1) W5 ∧ W5.heap[bx]? = some (.cells #[.int .u32 1, .int .u32 0] 32 (0, 0))) := by
    rw [← hW5]
    exact ⟨H5.out.1.on I (al _), (Kp.of_below (al _) : Kp (fun k => k = bx ∨ k = bx + 1) w _ _).block (.inl (.inl rfl)) H5.out.2⟩
  rw [hW5]
  clear hW5 H5
  refine (C5.out p _ _ H5b.out.1).mono ?_
  rintro e w6 ⟨rfl, h6, k6⟩
  have H6 : Hid (Below w.heap.size w w6 ∧ w6.heap[bx]? = some (.cells #[.int .u32 1, .int .u32 0] 32 (0, 0))) := ⟨h6.bel, (Kp.of_below k6 : Kp (fun k => k = bx ∨ k = bx + 1) w _ _).block (.inl (.inl rfl)) H5b.out.2⟩
  clear h6 k6 H5b C5
  have hq := run_eql32 1 0 1 0
  have hbl : bx < w6.heap.size := (Array.getElem?_eq_some_iff.1 H6.out.2).1
  have x0 : w6.cell? ⟨bx, 0, none⟩ = some (.int .u32 1) := block_cell H6.out.2 rfl
  have x1 : w6.cell? ⟨bx, 1, none⟩ = some (.int .u32 0) := block_cell H6.out.2 rfl
  go_wp2_with fail
  go_ret
  exact ⟨rfl, H6.out.1.alloc H6.out.1.size _⟩
end Go.Proofs.Ytknfkpnicjellaa
