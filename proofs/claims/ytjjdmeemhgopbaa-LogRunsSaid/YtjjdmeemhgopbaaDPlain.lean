/-
  A drum, plain: what its areas hold, and what each call makes of it and answers.
-/
import Derived.Lib.AppendStr
namespace Go.Proofs.Ytjjdmeemhgopbaa.Drm

/-- What an area holds: is it there, its bytes, how many of them are sure. -/
structure Pt where
  there : Bool
  l : List UInt8
  sure : Nat

/-- A drum: its areas by their numbers, its room, its fuel (below 0: no limit), is it down. -/
structure Dr where
  p : Nat → Pt
  room : Int
  fuel : Int
  down : Bool

def Pt.none : Pt := ⟨false, [], 0⟩
/-- The first n bytes at most are left, all of them sure. -/
def Pt.settle (q : Pt) (n : Nat) : Pt := ⟨q.there, q.l.take n, min n q.l.length⟩

def Dr.set (D : Dr) (a : Nat) (q : Pt) : Dr := { D with p := fun i => if i = a then q else D.p i }
def Dr.used (D : Dr) : Nat := (D.p 0).l.length + (D.p 1).l.length + (D.p 2).l.length + (D.p 3).l.length
def Dr.burn (D : Dr) : Dr := { D with fuel := if 0 < D.fuel then D.fuel - 1 else D.fuel }
def Dr.new (room : Int) : Dr := ⟨fun _ => Pt.none, room, -1, false⟩

/-- One step: what is refused, and what is done. -/
def Dr.step (D : Dr) (a : Int) (refuse : Pt → Int) (act : Pt → Pt) : Int × Dr :=
  if D.down = true then (11, D)
  else if ¬ (0 ≤ a ∧ a < 4) then (1, D)
  else if refuse (D.p a.toNat) ≠ 0 then (refuse (D.p a.toNat), D)
  else if D.fuel = 0 then (11, { D with down := true })
  else (0, D.burn.set a.toNat (act (D.p a.toNat)))

def missing (q : Pt) : Int := if q.there = true then 0 else 12
def Dr.lay (D : Dr) (a : Int) : Int × Dr := D.step a (fun q => if q.there = true then 1 else 0) (fun q => { q with there := true })
def Dr.cut (D : Dr) (a : Int) : Int × Dr := D.step a missing (fun _ => Pt.none)
def Dr.trim (D : Dr) (a n : Int) : Int × Dr := D.step a (fun q => if q.there = true then (if n < 0 then 1 else 0) else 12) (fun q => q.settle n.toNat)
def Dr.write (D : Dr) (a : Int) (s : List UInt8) : Int × Dr := D.step a (fun q => if q.there = true then (if D.room - D.used < s.length then 10 else 0) else 12) (fun q => { q with l := q.l ++ s })
def Dr.sync (D : Dr) (a : Int) : Int × Dr := D.step a missing (fun q => q.settle q.l.length)

/-- How many bytes of area i a fall leaves. -/
def Dr.left (D : Dr) (keep : List Int) (i : Nat) : Nat :=
  (D.p i).sure + (min (max (keep.getD i 0) 0) (((D.p i).l.length : Int) - (D.p i).sure)).toNat
def Dr.fall (D : Dr) (keep : List Int) : Dr := ⟨fun i => (D.p i).settle (D.left keep i), D.room, -1, false⟩
/-- .. of the areas below k alone. -/
def Dr.fallTo (D : Dr) (keep : List Int) (k : Nat) : Dr := { D with p := fun i => if i < k then (D.p i).settle (D.left keep i) else D.p i }

def Dr.read (D : Dr) (a : Int) : List UInt8 × Int :=
  if D.down = true then ([], 11)
  else if ¬ (0 ≤ a ∧ a < 4) then ([], 1)
  else if (D.p a.toNat).there = true then ((D.p a.toNat).l, 0) else ([], 12)
def Dr.has (D : Dr) (a : Int) : Bool := decide (0 ≤ a) && decide (a < 4) && (D.p a.toNat).there

/-- What every drum keeps to. -/
structure Dr.Ok (D : Dr) : Prop where
  room0 : 0 ≤ D.room
  room1 : D.room ≤ 1048576
  fits : (D.used : Int) ≤ D.room
  sure : ∀ i, (D.p i).sure ≤ (D.p i).l.length
  gone : ∀ i, (D.p i).there = false → (D.p i).l = []
  fuel0 : -9223372036854775808 ≤ D.fuel
  fuel1 : D.fuel ≤ 9223372036854775807

theorem Dr.set_same (D : Dr) (a : Nat) (q : Pt) : (D.set a q).p a = q := by simp [Dr.set]
theorem Dr.set_other (D : Dr) (a i : Nat) (q : Pt) (h : i ≠ a) : (D.set a q).p i = D.p i := by simp [Dr.set, h]

theorem Dr.used_set (D : Dr) (a : Nat) (q : Pt) (ha : a < 4) : (D.set a q).used + (D.p a).l.length = D.used + q.l.length := by
  rcases (by omega : a = 0 ∨ a = 1 ∨ a = 2 ∨ a = 3) with rfl | rfl | rfl | rfl <;> simp [Dr.used, Dr.set] <;> omega

theorem Dr.len_le_used (D : Dr) (a : Nat) (ha : a < 4) : (D.p a).l.length ≤ D.used := by
  rcases (by omega : a = 0 ∨ a = 1 ∨ a = 2 ∨ a = 3) with rfl | rfl | rfl | rfl <;> simp only [Dr.used] <;> omega

theorem Dr.Ok.new (room : Int) (h0 : 0 ≤ room) (h1 : room ≤ 1048576) : (Dr.new room).Ok :=
  ⟨h0, h1, by simp [Dr.new, Dr.used, Pt.none]; exact h0, fun _ => by simp [Dr.new, Pt.none], fun _ _ => rfl, by simp [Dr.new], by simp [Dr.new]⟩

theorem Pt.settle_len (q : Pt) (n : Nat) : (q.settle n).l.length = min n q.l.length := by simp [Pt.settle]

theorem Dr.Ok.burn {D : Dr} (h : D.Ok) (a : Nat) (ha : a < 4) (q : Pt) (hs : q.sure ≤ q.l.length) (hg : q.there = false → q.l = []) (hf : ((D.used + q.l.length : Nat) : Int) ≤ D.room + (D.p a).l.length) : (D.burn.set a q).Ok := by
  have hu := Dr.used_set D.burn a q ha
  have e1 : D.burn.used = D.used := rfl
  have e2 : D.burn.p = D.p := rfl
  rw [e1, e2] at hu
  refine ⟨h.room0, h.room1, ?_, ?_, ?_, ?_, ?_⟩
  · show ((D.burn.set a q).used : Int) ≤ D.room
    omega
  · intro i
    by_cases hi : i = a
    · subst hi; rw [Dr.set_same]; exact hs
    · rw [Dr.set_other _ _ _ _ hi]; exact h.sure i
  · intro i
    by_cases hi : i = a
    · subst hi; rw [Dr.set_same]; exact hg
    · rw [Dr.set_other _ _ _ _ hi]; exact h.gone i
  · show -9223372036854775808 ≤ (if 0 < D.fuel then D.fuel - 1 else D.fuel)
    have := h.fuel0
    split <;> omega
  · show (if 0 < D.fuel then D.fuel - 1 else D.fuel) ≤ 9223372036854775807
    have := h.fuel1
    split <;> omega

theorem Dr.Ok.down {D : Dr} (h : D.Ok) (b : Bool) : ({ D with down := b } : Dr).Ok := ⟨h.room0, h.room1, h.fits, h.sure, h.gone, h.fuel0, h.fuel1⟩
theorem Dr.Ok.fuelled {D : Dr} (h : D.Ok) (n : Int) (h0 : -9223372036854775808 ≤ n) (h1 : n ≤ 9223372036854775807) : ({ D with fuel := n } : Dr).Ok := ⟨h.room0, h.room1, h.fits, h.sure, h.gone, h0, h1⟩

theorem Dr.Ok.step {D : Dr} (h : D.Ok) (a : Int) (refuse : Pt → Int) (act : Pt → Pt)
    (H : 0 ≤ a → a < 4 → refuse (D.p a.toNat) = 0 → (act (D.p a.toNat)).sure ≤ (act (D.p a.toNat)).l.length ∧ ((act (D.p a.toNat)).there = false → (act (D.p a.toNat)).l = []) ∧ ((D.used + (act (D.p a.toNat)).l.length : Nat) : Int) ≤ D.room + (D.p a.toNat).l.length) : (D.step a refuse act).2.Ok := by
  unfold Dr.step
  split
  · exact h
  split
  · exact h
  · next hn =>
    have hn := Decidable.not_not.1 hn
    split
    · exact h
    · next hr =>
      have hr := Decidable.not_not.1 hr
      split
      · exact h.down _
      · obtain ⟨h1, h2, h3⟩ := H hn.1 hn.2 hr
        exact h.burn _ (by omega) _ h1 h2 h3

theorem Dr.Ok.lay {D : Dr} (h : D.Ok) (a : Int) : (D.lay a).2.Ok := by
  refine h.step a _ _ fun _ _ _ => ⟨h.sure _, by simp, ?_⟩
  have := h.fits
  simp only [Int.natCast_add]
  omega
theorem Dr.Ok.cut {D : Dr} (h : D.Ok) (a : Int) : (D.cut a).2.Ok := by
  refine h.step a _ _ fun _ _ _ => ⟨by simp [Pt.none], fun _ => rfl, ?_⟩
  have := h.fits
  simp only [Int.natCast_add]
  simp [Pt.none]
  omega
theorem Dr.Ok.settled {D : Dr} (h : D.Ok) (q : Pt) (n : Nat) (hq : q.there = false → q.l = []) : (q.settle n).sure ≤ (q.settle n).l.length ∧ ((q.settle n).there = false → (q.settle n).l = []) ∧ ((D.used + (q.settle n).l.length : Nat) : Int) ≤ D.room + q.l.length := by
  refine ⟨by rw [Pt.settle_len]; simp [Pt.settle], fun hh => ?_, ?_⟩
  · have : q.l = [] := hq hh
    simp [Pt.settle, this]
  · have := h.fits
    rw [Pt.settle_len]
    omega
theorem Dr.Ok.trim {D : Dr} (h : D.Ok) (a n : Int) : (D.trim a n).2.Ok :=
  h.step a _ _ fun _ _ _ => h.settled _ _ (h.gone _)
theorem Dr.Ok.sync {D : Dr} (h : D.Ok) (a : Int) : (D.sync a).2.Ok :=
  h.step a _ _ fun _ _ _ => h.settled _ _ (h.gone _)
theorem Dr.Ok.write {D : Dr} (h : D.Ok) (a : Int) (s : List UInt8) : (D.write a s).2.Ok := by
  refine h.step a _ _ fun _ _ hr => ?_
  have ht : (D.p a.toNat).there = true := by
    cases ht : (D.p a.toNat).there with
    | true => rfl
    | false => simp [ht] at hr
  refine ⟨?_, ?_, ?_⟩
  · have := h.sure a.toNat
    simp only [List.length_append]
    omega
  · intro hh
    rw [ht] at hh
    exact absurd hh (by decide)
  · simp only [ht, if_true] at hr
    have hr : ¬ (D.room - D.used < s.length) := fun hh => by rw [if_pos hh] at hr; exact absurd hr (by decide)
    simp only [List.length_append, Int.natCast_add]
    omega

theorem Dr.left_bound {D : Dr} (h : D.Ok) (keep : List Int) (i : Nat) : (D.p i).sure ≤ D.left keep i ∧ D.left keep i ≤ (D.p i).l.length := by
  have := h.sure i
  unfold Dr.left
  omega

theorem Dr.Ok.fall {D : Dr} (h : D.Ok) (keep : List Int) : (D.fall keep).Ok := by
  refine ⟨h.room0, h.room1, ?_, ?_, ?_, by simp [Dr.fall], by simp [Dr.fall]⟩
  · have := h.fits
    have e : (D.fall keep).used ≤ D.used := by
      simp only [Dr.used, Dr.fall, Pt.settle_len]
      omega
    show ((D.fall keep).used : Int) ≤ D.room
    omega
  · intro i; exact (h.settled (D.p i) _ (h.gone i)).1
  · intro i; exact (h.settled (D.p i) _ (h.gone i)).2.1

theorem Dr.fallTo_zero (D : Dr) (keep : List Int) : D.fallTo keep 0 = D := by simp [Dr.fallTo]
theorem Dr.fallTo_succ (D : Dr) (keep : List Int) (k : Nat) : (D.fallTo keep k).set k ((D.p k).settle (D.left keep k)) = D.fallTo keep (k + 1) := by
  simp only [Dr.fallTo, Dr.set]
  congr 1
  funext i
  by_cases hi : i = k
  · subst hi; simp
  · by_cases h2 : i < k
    · simp [hi, h2]; intro h3; omega
    · have : ¬ i < k + 1 := by omega
      simp [hi, h2, this]

end Go.Proofs.Ytjjdmeemhgopbaa.Drm
