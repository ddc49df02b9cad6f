/-
  Contracts of a node's small calls: high, measure; a pointer stands for one tree.
-/
import Derived.Test.YtogkgibneddngaaHi
import Derived.Test.YtogkgibneddngaaIts
namespace Go.Proofs.Ytogkgibneddngaa
open Go.RowKit

/-- A node's five cells. -/
theorem nd_cells {w : World} {b : Nat} {k : List UInt8} {v : Int} {x : Nat} {l r : Value} (h : w.heap[b]? = some (.cells (nl.cells k v x l r) nl.ty (0, 0))) :
    w.cell? ⟨b, 0, none⟩ = some (.string (bs k)) ∧ w.cell? ⟨b, 1, none⟩ = some (.int .i64 v) ∧ w.cell? ⟨b, 2, none⟩ = some l ∧ w.cell? ⟨b, 3, none⟩ = some r ∧ w.cell? ⟨b, 4, none⟩ = some (.int .i64 (x : Int)) :=
  ⟨block_cell h rfl, block_cell h rfl, block_cell h rfl, block_cell h rfl, block_cell h rfl⟩
/-- The same memory. -/
structure Sw (w W : World) : Prop where
  heap : W.heap = w.heap
  os : W.os = w.os
  tape : W.tape = w.tape
  output : W.output = w.output
theorem Sw.refl (w : World) : Sw w w := ⟨rfl, rfl, rfl, rfl⟩
theorem Sw.drew {w W : World} (h : Sw w W) : Sw w W.drew := ⟨h.heap, h.os, h.tape, h.output⟩
theorem Sw.drewN {w W : World} (h : Sw w W) (n : Nat) : Sw w (W.drewN n) := ⟨h.heap, h.os, h.tape, h.output⟩
theorem Sw.cell {w W : World} (h : Sw w W) (a : Addr) : W.cell? a = w.cell? a := by unfold World.cell?; rw [h.heap]
theorem Sw.frozen {w W : World} (h : Sw w W) (a : Addr) : W.frozen? a = w.frozen? a := by unfold World.frozen?; rw [h.heap]
theorem Sw.below {w W : World} (h : Sw w W) (B : Nat) : Below B w W := ⟨h.os, h.tape, h.output, by rw [h.heap]; exact Nat.le_refl _, fun k _ => by rw [h.heap]⟩
theorem Kept.drew {F : Nat → Prop} {w w' : World} (h : Kept F w w') : Kept F w w'.drew := ⟨h.os, h.tape, h.output, h.size, h.block⟩
theorem Kept.drewN {F : Nat → Prop} {w w' : World} (h : Kept F w w') (n : Nat) : Kept F w (w'.drewN n) := ⟨h.os, h.tape, h.output, h.size, h.block⟩
theorem TrAt.sw {Y : Lay} {t : Tr} {w W : World} (h : TrAt Y t w) (s : Sw w W) : TrAt Y t W := h.on (s.below _)

set_option maxHeartbeats 800000 in
theorem high27 (t : Tr) (w : World) (h : TrAt nl t w) : Calls Try.prog 27 #[t.ptr] w fun e w' => e = .returned (.int .i64 t.hi) ∧ w' = w := by
  cases t using Tr.cas with
  | nil =>
    simp only [Tr.ptr, Tr.hi]
    go_enter Try.func27, Try.ntmps27
    go_wp2_with fail
    go_ret
    exact ⟨rfl, rfl⟩
  | node b l k v x r =>
    obtain ⟨-, -, -, -, c4⟩ := nd_cells h.1
    simp only [Tr.ptr, Tr.hi]
    clear h
    generalize (x : Int) = xi at *
    go_enter Try.func27, Try.ntmps27
    go_wp2_with fail
    go_ret
    exact ⟨rfl, rfl⟩

theorem max_wrap {a c : Int} (hl : 0 ≤ a ∧ a ≤ 1000000) (hr : 0 ≤ c ∧ c ≤ 1000000) : 0 ≤ max a c ∧ max a c ≤ 1000000 := by omega

set_option maxHeartbeats 800000 in
theorem measure30 {b : Nat} {l r : Tr} {k : List UInt8} {v : Int} {x : Nat} {w : World} (h : TrAt nl (.node b l k v x r) w) (hl : 0 ≤ l.hi ∧ l.hi ≤ 1000000) (hr : 0 ≤ r.hi ∧ r.hi ≤ 1000000) :
    Calls Try.prog 30 #[.pointer (some ⟨b, 0, none⟩)] w fun e w' => e = .returned (.tuple #[]) ∧ w'.heap[b]? = some (.cells (nl.cells k v (1 + max l.hn r.hn) l.ptr r.ptr) nl.ty (0, 0)) ∧ Kept (fun i => i = b) w w' := by
  have H : Hid (w.heap[b]? = some (.cells #[.string (bs k), .int .i64 v, l.ptr, r.ptr, .int .i64 (x : Int)] nl.ty (0, 0))) := h.1
  obtain ⟨-, -, c2, c3, c4⟩ := nd_cells h.1
  have f4 := block_frozen h.1 4
  have CL : Hid (∀ W, Sw w W → Calls Try.prog 27 #[l.ptr] W fun e w' => e = .returned (.int .i64 l.hi) ∧ w' = W) := fun W hs => high27 l W (h.2.1.sw hs)
  have CR : Hid (∀ W, Sw w W → Calls Try.prog 27 #[r.ptr] W fun e w' => e = .returned (.int .i64 r.hi) ∧ w' = W) := fun W hs => high27 r W (h.2.2.sw hs)
  have HH : Hid (((1 + max l.hn r.hn : Nat) : Int) = 1 + max l.hi r.hi) := max_hn l r
  clear h
  generalize 1 + max l.hn r.hn = hh at *
  generalize l.ptr = lp at *
  generalize r.ptr = rp at *
  generalize l.hi = a at *
  generalize r.hi = c at *
  generalize (x : Int) = xi at *
  obtain ⟨m, hm⟩ : ∃ m, (if a < c then c else a) = m := ⟨_, rfl⟩
  have HM : Hid (1 + max a c = 1 + m) := by show _ = _; rw [← hm]; split <;> omega
  have hmb : 0 ≤ m ∧ m ≤ 1000000 := by rw [← hm]; split <;> omega
  obtain ⟨hm0, hm1⟩ := hmb
  have HW : Hid (IntKind.i64.wrap (1 + m) = 1 + m) := by show _ = _; simp [IntKind.wrap, IntKind.bits, IntKind.signed]; omega
  clear hl hr hm0 hm1
  go_enter Try.func30, Try.ntmps30
  go_wp2_with fail
  go_region_held3 (fun W => W.cell? ⟨b, 2, none⟩ = some lp ∧ W.cell? ⟨b, 3, none⟩ = some rp ∧ W.frozen? ⟨b, 4, none⟩ = false)
    (first | exact ⟨c2, c3, f4⟩ | exact ⟨block_cell (block_set _ H.out) rfl, block_cell (block_set _ H.out) rfl, block_frozen (block_set _ H.out) _⟩)
    (first
    | (go_at_call_of 27 (lp); refine (CL.out _ (Sw.drew (Sw.refl _))).mono ?_; rintro e W1 ⟨rfl, rfl⟩)
    | (go_at_call_of 27 (rp); refine (CR.out _ (Sw.drew (Sw.refl _))).mono ?_; rintro e W1 ⟨rfl, rfl⟩))
  rw [HW.out]
  refine bodyPost_end (results_none Try.results30 _ _ _) rfl ?_
  exact ⟨rfl, by show _ = some (Obj.cells #[.string (bs k), .int .i64 v, lp, rp, .int .i64 (hh : Int)] nl.ty (0, 0)); rw [HH.out, HM.out]; exact block_set _ H.out, (set_kept' w b 4 _).drew⟩

def Tr.size : Tr → Nat
  | Go.Deep.BT.nil => 0
  | Go.Deep.BT.node _ _ _ l r => Tr.size l + Tr.size r + 1
theorem trAt_unique {w : World} {s : Tr} : ∀ {t : Tr}, TrAt nl s w → TrAt nl t w → s.ptr = t.ptr → s = t := by
  induction s using Tr.ind with
  | nil =>
    intro t _ _ h
    cases t using Tr.cas with
    | nil => rfl
    | node b l k v x r => simp [Tr.ptr] at h
  | node b l k v x r ihl ihr =>
    intro t ha hb h
    cases t using Tr.cas with
    | nil => simp [Tr.ptr] at h
    | node c m q u y s =>
      simp only [Tr.ptr, Value.pointer.injEq, Option.some.injEq, Addr.mk.injEq] at h
      obtain ⟨rfl, _⟩ := h
      obtain ⟨a1, a2, a3⟩ := ha
      obtain ⟨b1, b2, b3⟩ := hb
      rw [a1] at b1
      simp only [nl, Option.some.injEq, Obj.cells.injEq, Array.mk.injEq, List.cons.injEq, Value.string.injEq, Value.int.injEq] at b1
      obtain ⟨⟨e0, ⟨_, e1⟩, e2, e3, ⟨_, e4⟩, _⟩, _⟩ := b1
      have e5 : k = q := by rw [← bs_data k, ← bs_data q, e0]
      have e6 : x = y := by omega
      rw [e5, e1, e6, ihl a2 b2 e2, ihr a3 b3 e3]
/-- How great the tree is that a pointer stands for. -/
theorem szAt_ex : ∃ f : World → Value → Nat, ∀ {w : World} {s : Tr}, TrAt nl s w → f w s.ptr = s.size := by
  refine ⟨fun w n => @dite Nat (∃ s : Tr, TrAt nl s w ∧ s.ptr = n) (Classical.propDecidable _) (fun h => h.choose.size) (fun _ => 0), fun {w s} h => ?_⟩
  have hx : ∃ s' : Tr, TrAt nl s' w ∧ s'.ptr = s.ptr := ⟨s, h, rfl⟩
  show @dite Nat (∃ s' : Tr, TrAt nl s' w ∧ s'.ptr = s.ptr) (Classical.propDecidable _) (fun h => h.choose.size) (fun _ => 0) = s.size
  rw [dif_pos hx, trAt_unique hx.choose_spec.1 h hx.choose_spec.2]

end Go.Proofs.Ytogkgibneddngaa
