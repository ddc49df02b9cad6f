/-
  DrumSure's walk: what was synced is there behind any fall, and what is there is a beginning of what was written.
-/
import Derived.Test.YtlgmnjjjaplgcaaActs
namespace Go.Proofs.Ytlgmnjjjaplgcaa
open Go.RowKit

theorem bs_take (l : List UInt8) (t : Nat) : (bs l).extract 0 t = bs (l.take t) := by
  have h : ((bs l).extract 0 t).data = (bs (l.take t)).data := by simp [bs, ByteArray.data_extract]
  cases hx : (bs l).extract 0 t with | mk d => cases hy : bs (l.take t) with | mk e => rw [hx, hy] at h; exact congrArg ByteArray.mk h

/-- A step is done, or nothing of the areas is turned. -/
theorem step_zero (D : Dr) (a : Nat) (r : Pt → Int) (f : Pt → Pt) : ((D.step a r f).1 = 0 → (D.step a r f).2.p a = f (D.p a)) ∧ ((D.step a r f).1 ≠ 0 → (D.step a r f).2.p = D.p) := by
  unfold Dr.step
  split
  · exact ⟨fun h => absurd h (by simp), fun _ => rfl⟩
  split
  · exact ⟨fun h => absurd h (by simp), fun _ => rfl⟩
  split
  · next h => exact ⟨fun h2 => absurd h2 h, fun _ => rfl⟩
  split
  · exact ⟨fun h => absurd h (by simp), fun _ => rfl⟩
  · refine ⟨fun _ => ?_, fun h => absurd rfl h⟩
    rw [Int.toNat_natCast, Dr.set_same]

/-- What holds of the drum all along: area 1 is there, with these bytes, so many of them sure. -/
structure SuInv (l : List UInt8) (su : Nat) (D : Dr) : Prop where
  ok : D.Ok
  room_eq : D.room = 100000
  p1 : D.p 1 = ⟨true, l, su⟩

theorem SuInv.le {l : List UInt8} {su : Nat} {D : Dr} (h : SuInv l su D) : su ≤ l.length ∧ l.length ≤ 100000 := by
  have h1 := h.ok.sure 1
  have h2 := D.len_le_used 1 (by omega)
  have h3 := h.ok.fits
  rw [h.room_eq] at h3
  rw [h.p1] at h1 h2
  dsimp only at h1 h2
  omega

theorem SuInv.write_ok {l : List UInt8} {su : Nat} {D : Dr} (h : SuInv l su D) (s : List UInt8) (h0 : (D.write 1 s).1 = 0) : SuInv (l ++ s) su (D.write 1 s).2 :=
  ⟨h.ok.write 1 s, by rw [Dr.write, step_room, h.room_eq], by
    have := (step_zero D 1 _ _).1 h0
    rw [h.p1] at this
    exact this⟩
theorem SuInv.write_no {l : List UInt8} {su : Nat} {D : Dr} (h : SuInv l su D) (s : List UInt8) (h0 : (D.write 1 s).1 ≠ 0) : SuInv l su (D.write 1 s).2 :=
  ⟨h.ok.write 1 s, by rw [Dr.write, step_room, h.room_eq], by
    have := (step_zero D 1 _ _).2 h0
    exact (congrFun this 1).trans h.p1⟩
theorem SuInv.sync_ok {l : List UInt8} {su : Nat} {D : Dr} (h : SuInv l su D) (h0 : (D.sync 1).1 = 0) : SuInv l l.length (D.sync 1).2 :=
  ⟨h.ok.sync 1, by rw [Dr.sync, step_room, h.room_eq], by
    have := (step_zero D 1 _ _).1 h0
    rw [h.p1] at this
    exact this.trans (by simp [Pt.settle])⟩
theorem SuInv.sync_no {l : List UInt8} {su : Nat} {D : Dr} (h : SuInv l su D) (h0 : (D.sync 1).1 ≠ 0) : SuInv l su (D.sync 1).2 :=
  ⟨h.ok.sync 1, by rw [Dr.sync, step_room, h.room_eq], by
    have := (step_zero D 1 _ _).2 h0
    exact (congrFun this 1).trans h.p1⟩
theorem SuInv.fuelled {l : List UInt8} {su : Nat} {D : Dr} (h : SuInv l su D) (n : Int) (h0 : -9223372036854775808 ≤ n) (h1 : n ≤ 9223372036854775807) : SuInv l su { D with fuel := n } :=
  ⟨h.ok.fuelled n h0 h1, h.room_eq, h.p1⟩
theorem SuInv.left {l : List UInt8} {su : Nat} {D : Dr} (h : SuInv l su D) (keep : List Int) : su ≤ D.left keep 1 ∧ D.left keep 1 ≤ l.length := by
  have := Dr.left_bound h.ok keep 1
  rw [h.p1] at this
  exact this
theorem SuInv.fall {l : List UInt8} {su : Nat} {D : Dr} (h : SuInv l su D) (keep : List Int) : SuInv (l.take (D.left keep 1)) (D.left keep 1) (D.fall keep) := by
  refine ⟨h.ok.fall _, h.room_eq, ?_⟩
  show (D.p 1).settle _ = _
  rw [h.p1]
  have := h.left keep
  simp only [Pt.settle, Pt.mk.injEq, true_and]
  omega
theorem SuInv.left_nil {l : List UInt8} {su : Nat} {D : Dr} (h : SuInv l su D) : D.left [] 1 = su := by
  unfold Dr.left
  rw [h.p1]
  have := h.le
  simp
  omega
theorem SuInv.read {l : List UInt8} {su : Nat} {D : Dr} (h : SuInv l su D) (keep : List Int) : (D.fall keep).read 1 = (l.take (D.left keep 1), 0) := by
  have e1 : (1 : Int).toNat = 1 := rfl
  have := (h.fall keep).p1
  simp [Dr.read, e1, this]
  rfl

theorem su_start : SuInv [] 0 ((Dr.new 100000).lay 1).2 := by
  refine ⟨(Dr.Ok.new _ (by omega) (by omega)).lay 1, by rw [Dr.lay, step_room]; rfl, ?_⟩
  simp [Dr.lay, Dr.step, Dr.new, Dr.set, Dr.burn, Pt.none]

/-- The box of an act whose area is set to 1, and what else is there. -/
structure SuBox (pb xb : Nat) (c : Ac) (D : Dr) (w W : World) : Prop where
  drum : DrumAt pb D W
  box : W.heap[xb]? = some (.cells #[.int .i64 c.what, .int .i64 1, .int .i64 c.n, .string (bs c.text), c.kv] 39 (0, 0))
  bel : Below w.heap.size w W

theorem su_box {pb : Nat} {c : Ac} {D : Dr} {w wr : World} (hD : DrumAt pb D wr) (hb : Below w.heap.size w wr) :
    SuBox pb wr.heap.size c D w (wr.alloc (.cells #[.int .i64 c.what, .int .i64 1, .int .i64 c.n, .string (bs c.text), c.kv] 39)) :=
  ⟨hD.alloc _, heap_alloc_new wr _, hb.alloc hb.size _⟩

theorem SuBox.next {pb xb : Nat} {c : Ac} {D D2 : Dr} {w W W2 : World} (h : SuBox pb xb c D w W) (hx : pb < xb) (hp : w.heap.size ≤ pb) (hD : DrumAt pb D2 W2) (hk : Kept pb W W2) : SuBox pb xb c D2 w W2 :=
  ⟨hD, hk.other xb _ h.box (by omega) (by intro cs fz e; injection e with _ e _; exact absurd e (by decide)), h.bel.trans (hk.below.mono hp)⟩

end Go.Proofs.Ytlgmnjjjaplgcaa
