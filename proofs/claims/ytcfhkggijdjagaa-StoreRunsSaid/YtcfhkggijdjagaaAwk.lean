/-
  The law's awake; StoreNothing.
-/
import Derived.Test.YtcfhkggijdjagaaIfs
namespace Go.Proofs.Ytcfhkggijdjagaa
open Go.RowKit
variable {SA : Nat → Nat → (Nat → Prop) → Sk → World → Prop}

def va9 : Ve := ⟨5, 0, 0, 0, [120], false⟩
def vb9 : Ve := ⟨6, 0, 0, 0, [121], false⟩
theorem aw1 : putS [97] va9 [] = ([([97], [va9])], 0) := by rfl
theorem aw2 : putS [98] vb9 [([97], [va9])] = ([([97], [va9]), ([98], [vb9])], 0) := by rfl
theorem aw3 : scanS [] [] 5 0 9 [([97], [va9]), ([98], [vb9])] = [([97], [120])] := by rfl

theorem run_eql59 (a b a' b' : List UInt8) (w : World) : (binOp .eql 59 (.agg #[.string (bs a), .string (bs b)]) (.agg #[.string (bs a'), .string (bs b')])).run Try.prog w = .ok (.bool (a == a' && b == b')) w := by
  simp [go_sem, bs_beq]
  repeat' split
  all_goals simp_all

set_option maxHeartbeats 1600000 in
set_option maxRecDepth 100000 in
theorem awake9 (I : Ifs SA) (w : World) : Calls Try.prog 9 #[] w fun e w' => e = .returned (.bool true) ∧ Below w.heap.size w w' := by
  have C1 : Hid (1 = 1 → Calls Try.prog 10 #[] w fun e w' => ∃ p, e = .returned (.pointer (some ⟨p, 0, none⟩)) ∧ Pw SA w p [] w') := fun _ => pw_new I (Below.refl _ _)
  have C2 : Hid (∀ p W, Pw SA w p [] W → Calls Try.prog 11 #[.pointer (some ⟨p, 0, none⟩), .string ⟨#[97]⟩, .agg #[.int .u64 5, .int .u32 0, .int .u32 0, .int .u32 0, .string ⟨#[120]⟩, .bool false]] W fun e w' => e = .returned (.int .i64 0) ∧ Pw SA w p [([97], [va9])] w') := fun p W h => by
    have := pw_put I [97] va9 h (by decide)
    rw [aw1] at this
    exact this
  have C3 : Hid (∀ p W, Pw SA w p [([97], [va9])] W → Calls Try.prog 11 #[.pointer (some ⟨p, 0, none⟩), .string ⟨#[98]⟩, .agg #[.int .u64 6, .int .u32 0, .int .u32 0, .int .u32 0, .string ⟨#[121]⟩, .bool false]] W fun e w' => e = .returned (.int .i64 0) ∧ Pw SA w p [([97], [va9]), ([98], [vb9])] w') := fun p W h => by
    have := pw_put I [98] vb9 h (by decide)
    rw [aw2] at this
    exact this
  have C4 : Hid (∀ p W, Pw SA w p [([97], [va9]), ([98], [vb9])] W → Calls Try.prog 22 #[.pointer (some ⟨p, 0, none⟩), .string ⟨#[]⟩, .string ⟨#[]⟩, .agg #[.int .u64 5, .int .u32 0], .int .i64 9] W fun e w' => ∃ v', e = .returned v' ∧ PsAt w'.heap.size v' [([97], [120])] w' ∧ Below w.heap.size w w') := fun p W h => by
    have := pw_scan I [] [] 5 0 9 h
    rw [aw3] at this
    refine this.mono ?_
    rintro e w' ⟨v', rfl, ho, hp, _⟩
    exact ⟨v', rfl, rw_own ho, hp.bel⟩
  go_enter Try.func9, Try.ntmps9
  go_wp2_with fail
  refine (C1.out (by trivial)).mono ?_
  rintro e w1 ⟨p, rfl, h1⟩
  have H1 : Hid _ := h1
  clear h1
  go_wp2_with fail
  refine (C2.out p _ H1.out).mono ?_
  rintro e w2 ⟨rfl, h2⟩
  have H2 : Hid _ := h2
  clear h2
  go_wp2_with fail
  refine (C3.out p _ H2.out).mono ?_
  rintro e w3 ⟨rfl, h3⟩
  have H3 : Hid _ := h3
  clear h3
  go_wp2_with fail
  refine (C4.out p _ H3.out).mono ?_
  rintro e w4 ⟨v4, rfl, hp4, hb4⟩
  have HB4 : Hid _ := hb4
  obtain ⟨sa, sc, rfl, _, hsc⟩ := hp4.shape
  obtain ⟨b, off, rfl, d0, d1⟩ := hp4.el (i := 0) (by simp)
  have e0 : w4.cell? ⟨b, off, none⟩ = some (.string ⟨#[97]⟩) := d0
  have e1 : w4.cell? ⟨b, off + 1, none⟩ = some (.string ⟨#[120]⟩) := d1
  have hrun : ∀ w, (binOp .eql 59 (.agg #[.string ⟨#[97]⟩, .string ⟨#[120]⟩]) (.agg #[.string ⟨#[97]⟩, .string ⟨#[120]⟩])).run Try.prog w = .ok (.bool true) w := fun w => run_eql59 [97] [120] [97] [120] w
  clear hb4 d0 d1 hp4 C1 C2 C3 C4 H1 H2 H3
  go_wp2_with fail
  go_ret
  exact ⟨rfl, HB4.out⟩

set_option maxHeartbeats 1600000 in
set_option maxRecDepth 100000 in
theorem nothing6 (I : Ifs SA) (k : List UInt8) (x : Ve) (w : World) : Calls Try.prog 6 #[.string (bs k), veV x] w fun e w' => e = .returned (.bool true) ∧ Below w.heap.size w w' := by
  obtain ⟨xp, xl, xc, xn, xs, xd⟩ := x
  have CA : Hid (∀ W : World, 1 = 1 → Calls Try.prog 9 #[] W fun e w' => e = .returned (.bool true) ∧ Below W.heap.size W w') := fun W _ => awake9 I W
  have C0 : Hid (∀ W : World, 1 = 1 → Calls Try.prog 15 #[.pointer none, .string (bs k), .agg #[.int .u64 xp, .int .u32 xl]] W fun e w' => e = .returned (.tuple #[.string ⟨#[]⟩, .bool false]) ∧ Below W.heap.size W w') := fun W _ => I.get0 k xp xl W
  have C1 : Hid (∀ W : World, 1 = 1 → Calls Try.prog 11 #[.pointer none, .string (bs k), .agg #[.int .u64 xp, .int .u32 xl, .int .u32 xc, .int .u32 xn, .string (bs xs), .bool xd]] W fun e w' => e = .returned (.int .i64 1) ∧ Below W.heap.size W w') := fun W _ => I.put0 k ⟨xp, xl, xc, xn, xs, xd⟩ W
  have C2 : Hid (∀ W : World, 1 = 1 → Calls Try.prog 17 #[.pointer none, .string (bs k)] W fun e w' => e = .returned (.agg #[.int .u64 0, .int .u32 0]) ∧ Below W.heap.size W w') := fun W _ => I.newest0 k W
  have C3 : Hid (∀ W : World, 1 = 1 → Calls Try.prog 19 #[.pointer none, .string (bs k)] W fun e w' => e = .returned (.int .i64 0) ∧ Below W.heap.size W w') := fun W _ => I.count0 k W
  have C4 : Hid (∀ W : World, 1 = 1 → Calls Try.prog 22 #[.pointer none, .string ⟨#[]⟩, .string ⟨#[]⟩, .agg #[.int .u64 xp, .int .u32 xl], .int .i64 9] W fun e w' => ∃ ao cap, e = .returned (.slice ao 0 cap) ∧ Below W.heap.size W w') := fun W _ => I.scan0 [] [] xp xl 9 W
  have C5 : Hid (∀ W : World, 1 = 1 → Calls Try.prog 13 #[.pointer none, .agg #[.int .u64 xp, .int .u32 xl]] W fun e w' => e = .returned (.int .i64 0) ∧ Below W.heap.size W w') := fun W _ => I.prune0 xp xl W
  have C6 : Hid (∀ W : World, 1 = 1 → Calls Try.prog 25 #[.pointer none] W fun e w' => ∃ ao cap, e = .returned (.slice ao 0 cap) ∧ Below W.heap.size W w') := fun W _ => I.items0  W
  have HB0 : Hid (Bx w w.heap.size ⟨xp, xl, xc, xn, xs, xd⟩ (w.alloc (.cells #[.int .u64 xp, .int .u32 xl, .int .u32 xc, .int .u32 xn, .string (bs xs), .bool xd] 37))) := ⟨ve_new _ _ _ _ _ _ _, (Below.refl _ _).alloc (Nat.le_refl _) _⟩
  simp only [veV]
  have hrun : ∀ w, (binOp .eql 33 (.agg #[.int .u64 0, .int .u32 0]) (.agg #[.int .u64 0, .int .u32 0])).run Try.prog w = .ok (.bool true) w := fun w => run_eql26 0 0 0 0 w
  go_enter Try.func6, Try.ntmps6
  go_wp2_with fail
  refine (CA.out _ (by trivial)).mono ?_
  rintro e w1 ⟨rfl, hb⟩
  have H1 : Hid (Bx w w.heap.size ⟨xp, xl, xc, xn, xs, xd⟩ w1) := HB0.out.on hb
  obtain ⟨x0, x1, x2, x3, x4, x5, -⟩ := H1.out.s7
  clear hb
  go_wp2_with fail
  refine (C0.out _ (by trivial)).mono ?_
  rintro e w2 ⟨rfl, hb⟩
  have H2 : Hid (Bx w w.heap.size ⟨xp, xl, xc, xn, xs, xd⟩ w2) := H1.out.on hb
  clear x0 x1 x2 x3 x4 x5
  obtain ⟨x0, x1, x2, x3, x4, x5, -⟩ := H2.out.s7
  clear hb H1
  go_wp2_with fail
  refine (C1.out _ (by trivial)).mono ?_
  rintro e w3 ⟨rfl, hb⟩
  have H3 : Hid (Bx w w.heap.size ⟨xp, xl, xc, xn, xs, xd⟩ w3) := H2.out.on hb
  clear x0 x1 x2 x3 x4 x5
  obtain ⟨x0, x1, x2, x3, x4, x5, -⟩ := H3.out.s7
  clear hb H2
  go_wp2_with fail
  refine (C2.out _ (by trivial)).mono ?_
  rintro e w4 ⟨rfl, hb⟩
  have H4 : Hid (Bx w w.heap.size ⟨xp, xl, xc, xn, xs, xd⟩ w4) := H3.out.on hb
  clear x0 x1 x2 x3 x4 x5
  obtain ⟨x0, x1, x2, x3, x4, x5, -⟩ := H4.out.s7
  clear hb H3
  go_wp2_with fail
  refine (C3.out _ (by trivial)).mono ?_
  rintro e w5 ⟨rfl, hb⟩
  have H5 : Hid (Bx w w.heap.size ⟨xp, xl, xc, xn, xs, xd⟩ w5) := H4.out.on hb
  clear x0 x1 x2 x3 x4 x5
  obtain ⟨x0, x1, x2, x3, x4, x5, -⟩ := H5.out.s7
  clear hb H4
  go_wp2_with fail
  refine (C4.out _ (by trivial)).mono ?_
  rintro e w6 ⟨ao4, cap4, rfl, hb⟩
  have H6 : Hid (Bx w w.heap.size ⟨xp, xl, xc, xn, xs, xd⟩ w6) := H5.out.on hb
  clear x0 x1 x2 x3 x4 x5
  obtain ⟨x0, x1, x2, x3, x4, x5, -⟩ := H6.out.s7
  clear hb H5
  go_wp2_with fail
  refine (C5.out _ (by trivial)).mono ?_
  rintro e w7 ⟨rfl, hb⟩
  have H7 : Hid (Bx w w.heap.size ⟨xp, xl, xc, xn, xs, xd⟩ w7) := H6.out.on hb
  clear x0 x1 x2 x3 x4 x5
  obtain ⟨x0, x1, x2, x3, x4, x5, -⟩ := H7.out.s7
  clear hb H6
  go_wp2_with fail
  refine (C6.out _ (by trivial)).mono ?_
  rintro e w8 ⟨ao6, cap6, rfl, hb⟩
  have H8 : Hid (Bx w w.heap.size ⟨xp, xl, xc, xn, xs, xd⟩ w8) := H7.out.on hb
  clear x0 x1 x2 x3 x4 x5
  obtain ⟨x0, x1, x2, x3, x4, x5, -⟩ := H8.out.s7
  clear hb H7
  go_wp2_with fail
  go_ret
  exact ⟨rfl, H8.out.bel⟩
end Go.Proofs.Ytcfhkggijdjagaa
