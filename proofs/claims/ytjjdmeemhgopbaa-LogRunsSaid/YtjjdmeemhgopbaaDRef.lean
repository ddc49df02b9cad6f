/-
  The document's drum in memory: the same plain drum; what asks it.
-/
import Derived.Test.YtjjdmeemhgopbaaDFall
namespace Go.Proofs.Ytjjdmeemhgopbaa.Drm
open Go.RowKit

/-- The fuel as the document has it: below 0 it is -1. -/
def Dr.lft (D : Dr) : Int := max D.fuel (-1)

/-- The document's drum's cells: the room, the fuel, is it down; of each area is it there, its sure bytes, its pending ones. -/
def rcells (D : Dr) : Array Value :=
  #[.int .i64 D.room, .int .i64 D.lft, .bool D.down,
    .bool (D.p 0).there, .string (bs ((D.p 0).l.take (D.p 0).sure)), .string (bs ((D.p 0).l.drop (D.p 0).sure)),
    .bool (D.p 1).there, .string (bs ((D.p 1).l.take (D.p 1).sure)), .string (bs ((D.p 1).l.drop (D.p 1).sure)),
    .bool (D.p 2).there, .string (bs ((D.p 2).l.take (D.p 2).sure)), .string (bs ((D.p 2).l.drop (D.p 2).sure)),
    .bool (D.p 3).there, .string (bs ((D.p 3).l.take (D.p 3).sure)), .string (bs ((D.p 3).l.drop (D.p 3).sure))]

/-- The document's drum D lies in block rb. -/
def RefAt (rb : Nat) (D : Dr) (w : World) : Prop := w.heap[rb]? = some (.cells (rcells D) 50 (0, 0))

section
variable {rb : Nat} {D : Dr} {w : World}
theorem RefAt.lt (h : RefAt rb D w) : rb < w.heap.size := lt_of_block h
theorem RefAt.free (h : RefAt rb D w) (k : Nat) : w.frozen? ⟨rb, k, none⟩ = false := blk_free h
theorem RefAt.room (h : RefAt rb D w) : w.cell? ⟨rb, 0, none⟩ = some (.int .i64 D.room) := blk_cell h rfl
theorem RefAt.left (h : RefAt rb D w) : w.cell? ⟨rb, 1, none⟩ = some (.int .i64 D.lft) := blk_cell h rfl
theorem RefAt.down (h : RefAt rb D w) : w.cell? ⟨rb, 2, none⟩ = some (.bool D.down) := blk_cell h rfl
theorem RefAt.there (h : RefAt rb D w) (a : Nat) (ha : a < 4) : w.cell? ⟨rb, 3 + a * 3, none⟩ = some (.bool (D.p a).there) := by
  refine blk_cell h ?_
  rcases four ha with rfl | rfl | rfl | rfl <;> rfl
theorem RefAt.sure (h : RefAt rb D w) (a : Nat) (ha : a < 4) : w.cell? ⟨rb, 3 + a * 3 + 1, none⟩ = some (.string (bs ((D.p a).l.take (D.p a).sure))) := by
  refine blk_cell h ?_
  rcases four ha with rfl | rfl | rfl | rfl <;> rfl
theorem RefAt.pend (h : RefAt rb D w) (a : Nat) (ha : a < 4) : w.cell? ⟨rb, 3 + a * 3 + 2, none⟩ = some (.string (bs ((D.p a).l.drop (D.p a).sure))) := by
  refine blk_cell h ?_
  rcases four ha with rfl | rfl | rfl | rfl <;> rfl
theorem RefAt.on {w' : World} (h : RefAt rb D w) (hb : Below w.heap.size w w') : RefAt rb D w' := by
  unfold RefAt
  rw [hb.block rb h.lt]
  exact h
theorem RefAt.same {D' : Dr} (h : RefAt rb D w) (hp : ∀ i, i < 4 → D'.p i = D.p i) (h1 : D'.room = D.room) (h2 : D'.lft = D.lft) (h3 : D'.down = D.down) : RefAt rb D' w := by
  have e : rcells D' = rcells D := by
    unfold rcells
    rw [hp 0 (by omega), hp 1 (by omega), hp 2 (by omega), hp 3 (by omega), h1, h2, h3]
  unfold RefAt
  rw [e]
  exact h
end

/-- Nothing but the document's drum's block has turned, and new blocks. -/
structure Sole (rb : Nat) (w w' : World) : Prop where
  os : w'.os = w.os
  tape : w'.tape = w.tape
  output : w'.output = w.output
  size : w.heap.size ≤ w'.heap.size
  block : ∀ k, k < w.heap.size → k ≠ rb → w'.heap[k]? = w.heap[k]?

theorem Sole.refl (rb : Nat) (w : World) : Sole rb w w := ⟨rfl, rfl, rfl, Nat.le_refl _, fun _ _ _ => rfl⟩
theorem Sole.trans {rb : Nat} {a b c : World} (h : Sole rb a b) (k : Sole rb b c) : Sole rb a c :=
  ⟨k.os.trans h.os, k.tape.trans h.tape, k.output.trans h.output, Nat.le_trans h.size k.size, fun i hi hne => by
    have := h.size
    exact (k.block i (by omega) hne).trans (h.block i hi hne)⟩
theorem Sole.of_below {rb : Nat} {w w' : World} (h : Below w.heap.size w w') : Sole rb w w' := ⟨h.os, h.tape, h.output, h.size, fun k hk _ => h.block k hk⟩
theorem Sole.set {rb : Nat} {w0 w : World} (h : Sole rb w0 w) (k : Nat) (v : Value) : Sole rb w0 (w.setCell ⟨rb, k, none⟩ v) :=
  ⟨h.os, h.tape, h.output, by simpa using h.size, fun i hi hne => by rw [Below.heap_setCell _ _ _ _ hne]; exact h.block i hi hne⟩
theorem Sole.drew {rb : Nat} {w0 w : World} (h : Sole rb w0 w) : Sole rb w0 w.drew := ⟨h.os, h.tape, h.output, h.size, h.block⟩
theorem Sole.alloc {rb : Nat} {w0 w : World} (h : Sole rb w0 w) (o : Obj) : Sole rb w0 (w.alloc o) := h.trans (Sole.of_below ((Below.refl _ _).alloc (Nat.le_refl _) o))
theorem Sole.below {rb B : Nat} {w w' : World} (h : Sole rb w w') (hb : B ≤ rb) (hs : B ≤ w.heap.size) : Below B w w' :=
  ⟨h.os, h.tape, h.output, h.size, fun k hk => h.block k (by omega) (by omega)⟩

/-- The document's drum is turned: the program's stays. -/
theorem DrumAt.sole {pb rb : Nat} {D D' : Dr} {w w' : World} (h : DrumAt pb D w) (hr : RefAt rb D' w) (hs : Sole rb w w') (hne : pb ≠ rb) : DrumAt pb D w' := by
  obtain ⟨vs, h⟩ := h
  refine ⟨vs, by rw [hs.block pb h.lt hne, h.blk], fun i hi => (h.own i hi).kept (row := some rb) ⟨hs.os, hs.tape, hs.output, hs.size, fun k hk hne => hs.block k hk (fun e => hne (by rw [e]))⟩ ?_, h.apart⟩
  rcases (h.own i hi).2 with ⟨hv, _⟩ | ⟨g, cap, cur, hv, _, hgg, _⟩
  · left; rw [hv]; rfl
  · right
    rw [hv]
    intro e
    simp only [Value.ownBlock, Option.some.injEq] at e
    subst e
    unfold RefAt at hr
    rw [hr] at hgg
    injection hgg with hgg
    injection hgg with _ h2 _
    exact absurd h2 (by decide)
/-- The program's drum is turned: the document's stays. -/
theorem RefAt.kept {pb rb : Nat} {D : Dr} {w w' : World} (h : RefAt rb D w) (hk : Kept pb w w') (hne : rb ≠ pb) : RefAt rb D w' :=
  hk.other rb _ h hne (by intro cs fz e; injection e with _ e _; exact absurd e (by decide))

set_option maxHeartbeats 400000 in
theorem rnew9_no (r : Int) (w : World) (h : ¬ (0 ≤ r ∧ r ≤ 1048576)) : Calls Try.prog 9 #[.int .i64 r] w fun e w' => e = .returned (.tuple #[.pointer none, .int .i64 1]) ∧ w = w' := by
  by_cases h0 : 0 ≤ r
  · have h1 : 1048576 < r := by omega
    clear h
    go_enter Try.func9, Try.ntmps9
    go_wp2
    go_ret2
    exact ⟨rfl, rfl⟩
  · have h1 : r < 0 := by omega
    clear h h0
    go_enter Try.func9, Try.ntmps9
    go_wp2
    go_ret2
    exact ⟨rfl, rfl⟩

set_option maxHeartbeats 400000 in
theorem rnew9 (r : Int) (w : World) (h0 : 0 ≤ r) (h1 : r ≤ 1048576) : Calls Try.prog 9 #[.int .i64 r] w fun e w' => e = .returned (.tuple #[.pointer (some ⟨w.heap.size, 0, none⟩), .int .i64 0]) ∧ RefAt w.heap.size (Dr.new r) w' ∧ Below w.heap.size w w' := by
  go_enter Try.func9, Try.ntmps9
  go_wp2
  go_ret2
  exact ⟨rfl, heap_alloc_new w _, (Below.refl _ _).alloc (Nat.le_refl _) _⟩

set_option maxHeartbeats 400000 in
theorem rhas25 (rb : Nat) (D : Dr) (a : Int) (w : World) (hD : RefAt rb D w) : Calls Try.prog 32 #[.pointer (some ⟨rb, 0, none⟩), .int .i64 a] w fun e w' => e = .returned (.bool (D.has a)) ∧ w = w' := by
  by_cases h : 0 ≤ a ∧ a < 4
  · obtain ⟨h0, h1⟩ := h
    obtain ⟨n, rfl⟩ := Int.eq_ofNat_of_zero_le h0
    have hc := hD.there n (by omega)
    have he : D.has n = (D.p n).there := by simp [Dr.has]; omega
    rw [he]
    generalize (D.p n).there = b at *
    clear he hD
    go_enter Try.func32, Try.ntmps32
    go_wp2
    go_ret
    exact ⟨rfl, rfl⟩
  · have he : D.has a = false := by simp [Dr.has]; omega
    rw [he]
    clear he hD
    by_cases h0 : 0 ≤ a
    · have h1 : decide (a < 4) = false := by simp; omega
      clear h
      go_enter Try.func32, Try.ntmps32
      go_wp2
      go_ret
      exact ⟨rfl, rfl⟩
    · have h1 : a < 0 := by omega
      clear h h0
      go_enter Try.func32, Try.ntmps32
      go_wp2
      go_ret
      exact ⟨rfl, rfl⟩

/-- What stands against a use of an area. -/
def Dr.thr (D : Dr) (a : Int) : Int := if D.down = true then 11 else if ¬ (0 ≤ a ∧ a < 4) then 1 else if (D.p a.toNat).there = true then 0 else 12

set_option maxHeartbeats 400000 in
theorem there37 (rb : Nat) (D : Dr) (a : Int) (w : World) (hD : RefAt rb D w) : Calls Try.prog 53 #[.pointer (some ⟨rb, 0, none⟩), .int .i64 a] w fun e w' => e = .returned (.int .i64 (D.thr a)) ∧ w = w' := by
  have hdn := hD.down
  obtain ⟨dn, hdn'⟩ : ∃ dn, D.down = dn := ⟨_, rfl⟩
  rw [hdn'] at hdn
  cases dn with
  | true =>
    have he : D.thr a = 11 := by rw [Dr.thr, if_pos hdn']
    rw [he]
    clear he hdn' hD
    go_enter Try.func53, Try.ntmps53
    go_wp2
    go_ret
    exact ⟨rfl, rfl⟩
  | false =>
    by_cases h : 0 ≤ a ∧ a < 4
    · obtain ⟨h0, h1⟩ := h
      obtain ⟨n, rfl⟩ := Int.eq_ofNat_of_zero_le h0
      have hc := hD.there n (by omega)
      have he : D.thr n = if (D.p n).there = true then 0 else 12 := by rw [Dr.thr, hdn', if_neg (by decide), if_neg (by omega)]; rfl
      rw [he]
      generalize (D.p n).there = b at *
      clear he hD hdn'
      cases b
      all_goals
        go_enter Try.func53, Try.ntmps53
        go_wp2
        go_ret
        exact ⟨rfl, rfl⟩
    · have he : D.thr a = 1 := by rw [Dr.thr, hdn', if_neg (by decide), if_pos h]
      rw [he]
      clear he hD hdn'
      by_cases h0 : 0 ≤ a
      · have h1 : 4 ≤ a := by omega
        clear h
        go_enter Try.func53, Try.ntmps53
        go_wp2
        go_ret
        exact ⟨rfl, rfl⟩
      · have h1 : a < 0 := by omega
        clear h h0
        go_enter Try.func53, Try.ntmps53
        go_wp2
        go_ret
        exact ⟨rfl, rfl⟩

end Go.Proofs.Ytjjdmeemhgopbaa.Drm
