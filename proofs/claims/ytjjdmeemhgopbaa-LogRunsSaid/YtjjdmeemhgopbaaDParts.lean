/-
  What a drum's memory holds, and what a call on one leaves as it was.
-/
import Derived.Test.YtjjdmeemhgopbaaProg
import Derived.Test.YtjjdmeemhgopbaaDPlain
import Derived.Test.YtjjdmeemhgopbaaForm
import Derived.WalkKit
import Derived.WalkSpells
import Derived.WalkLawsBesides
import Derived.Deep.RegionLaw
import Derived.Lib.AppendStr
import Derived.Laws.BytesArg
namespace Go.Proofs.Ytjjdmeemhgopbaa.Drm
open Go.RowKit

theorem bs_append (a b : List UInt8) : bs a ++ bs b = bs (a ++ b) := by
  have h : (bs a ++ bs b).data = (bs (a ++ b)).data := by simp [bs, ByteArray.data_append]
  cases hx : bs a ++ bs b with | mk d => cases hy : bs (a ++ b) with | mk e => rw [hx, hy] at h; exact congrArg ByteArray.mk h
theorem cl_take (l : List UInt8) (k : Nat) : (cl l).take k = cl (l.take k) := by simp [cl, List.map_take]

theorem info5 : (Try.prog.info? 5).map (fun i => (i.zero, i.size, i.bytes)) = some (some (.int .u8 0), 1, 1) := by kernel_rfl

/-- A drum's cells: of each area is it there, its row of bytes, how many are sure; the room, the fuel, is it down. -/
def dcells (D : Dr) (vs : Nat → Value) : Array Value :=
  #[.bool (D.p 0).there, vs 0, .int .i64 (D.p 0).sure, .bool (D.p 1).there, vs 1, .int .i64 (D.p 1).sure, .bool (D.p 2).there, vs 2, .int .i64 (D.p 2).sure, .bool (D.p 3).there, vs 3, .int .i64 (D.p 3).sure, .int .i64 D.room, .int .i64 D.fuel, .bool D.down]

/-- The drum D lies in block pb, its rows are the values vs. -/
structure DrumIn (pb : Nat) (D : Dr) (vs : Nat → Value) (w : World) : Prop where
  blk : w.heap[pb]? = some (.cells (dcells D vs) 69 (0, 0))
  own : ∀ i, i < 4 → w.ownsRow (pb + 1) 5 1 (vs i) (D.p i).l.length (cl (D.p i).l)
  apart : ∀ i j, i < 4 → j < 4 → i ≠ j → (vs i).ownBlock = none ∨ (vs i).ownBlock ≠ (vs j).ownBlock

/-- The drum D lies in block pb. -/
def DrumAt (pb : Nat) (D : Dr) (w : World) : Prop := ∃ vs, DrumIn pb D vs w

/-- Below pb all is as it was; from there on whatever is not the drum's (its block; rows of bytes). -/
structure Kept (pb : Nat) (w w' : World) : Prop where
  below : Below pb w w'
  other : ∀ k o, w.heap[k]? = some o → k ≠ pb → (∀ cs fz, o ≠ .cells cs 5 fz) → w'.heap[k]? = some o

theorem Kept.refl (pb : Nat) (w : World) : Kept pb w w := ⟨Below.refl _ _, fun _ _ h _ _ => h⟩
theorem Kept.trans {pb : Nat} {a b c : World} (h : Kept pb a b) (k : Kept pb b c) : Kept pb a c :=
  ⟨h.below.trans k.below, fun i o ho hne h5 => k.other i o (h.other i o ho hne h5) hne h5⟩
theorem Kept.alloc {pb : Nat} {w0 w : World} (h : Kept pb w0 w) (hp : pb ≤ w.heap.size) (o : Obj) : Kept pb w0 (w.alloc o) :=
  ⟨h.below.alloc hp o, fun k o' ho hne h5 => by
    have := h.other k o' ho hne h5
    rw [Below.heap_alloc w o k (lt_of_block this), this]⟩
theorem Kept.drew {pb : Nat} {w0 w : World} (h : Kept pb w0 w) : Kept pb w0 w.drew := ⟨h.below.drew, h.other⟩
theorem Kept.set {pb : Nat} {w0 w : World} (h : Kept pb w0 w) (o : Nat) (v : Value) : Kept pb w0 (w.setCell ⟨pb, o, none⟩ v) :=
  ⟨h.below.setCell (Nat.le_refl _) _, fun k o' ho hne h5 => by rw [Below.heap_setCell _ _ _ _ hne]; exact h.other k o' ho hne h5⟩

theorem own_shape {w : World} {base : Nat} {v : Value} {n : Nat} {xs : List Value} (h : w.ownsRow base 5 1 v n xs) : ∃ ao cp, v = .slice ao n cp ∧ n ≤ cp := by
  rcases h.2 with ⟨rfl, rfl⟩ | ⟨g, cap, cur, rfl, _, _, h, _⟩
  · exact ⟨_, _, rfl, Nat.le_refl _⟩
  · exact ⟨_, _, rfl, h⟩

/-- A block behind a store into one of its cells. -/
theorem blk_setCell {w : World} {b k : Nat} {cs : Array Value} {t : TypeId} {u : Value} (h : w.heap[b]? = some (.cells cs t (0, 0))) : (w.setCell ⟨b, k, none⟩ u).heap[b]? = some (.cells (cs.setIfInBounds k u) t (0, 0)) := by
  have hlt := lt_of_block h
  have h' : w.heap[b] = .cells cs t (0, 0) := by simpa [Array.getElem?_eq_getElem hlt] using h
  show (w.heap.modify b _)[b]? = _
  rw [Array.getElem?_eq_getElem (by simpa using hlt), Array.getElem_modify_self, h']
  rfl

theorem blk_cell {w : World} {b k : Nat} {cs : Array Value} {t : TypeId} {u : Value} (h : w.heap[b]? = some (.cells cs t (0, 0))) (hk : cs[k]? = some u) : w.cell? ⟨b, k, none⟩ = some u := by
  simp [World.cell?, h, hk]
theorem blk_free {w : World} {b k : Nat} {cs : Array Value} {t : TypeId} (h : w.heap[b]? = some (.cells cs t (0, 0))) : w.frozen? ⟨b, k, none⟩ = false := by
  simp [World.frozen?, h]

section
variable {pb : Nat} {D : Dr} {vs : Nat → Value} {w : World}

theorem four {a : Nat} (h : a < 4) : a = 0 ∨ a = 1 ∨ a = 2 ∨ a = 3 := by omega

theorem DrumIn.lt (h : DrumIn pb D vs w) : pb < w.heap.size := lt_of_block h.blk
theorem DrumIn.free (h : DrumIn pb D vs w) (k : Nat) : w.frozen? ⟨pb, k, none⟩ = false := blk_free h.blk
theorem DrumIn.there (h : DrumIn pb D vs w) (a : Nat) (ha : a < 4) : w.cell? ⟨pb, a * 3, none⟩ = some (.bool (D.p a).there) := by
  refine blk_cell h.blk ?_
  rcases four ha with rfl | rfl | rfl | rfl <;> rfl
theorem DrumIn.row (h : DrumIn pb D vs w) (a : Nat) (ha : a < 4) : w.cell? ⟨pb, a * 3 + 1, none⟩ = some (vs a) := by
  refine blk_cell h.blk ?_
  rcases four ha with rfl | rfl | rfl | rfl <;> rfl
theorem DrumIn.sure (h : DrumIn pb D vs w) (a : Nat) (ha : a < 4) : w.cell? ⟨pb, a * 3 + 2, none⟩ = some (.int .i64 (D.p a).sure) := by
  refine blk_cell h.blk ?_
  rcases four ha with rfl | rfl | rfl | rfl <;> rfl
theorem DrumIn.room (h : DrumIn pb D vs w) : w.cell? ⟨pb, 12, none⟩ = some (.int .i64 D.room) := blk_cell h.blk rfl
theorem DrumIn.fuel (h : DrumIn pb D vs w) : w.cell? ⟨pb, 13, none⟩ = some (.int .i64 D.fuel) := blk_cell h.blk rfl
theorem DrumIn.down (h : DrumIn pb D vs w) : w.cell? ⟨pb, 14, none⟩ = some (.bool D.down) := blk_cell h.blk rfl

theorem DrumIn.not_own (h : DrumIn pb D vs w) (i : Nat) (hi : i < 4) : (vs i).ownBlock ≠ some pb := by
  intro e
  have := (h.own i hi).lt pb e
  omega

/-- The drum's own cells turned, the rows as they were. -/
theorem DrumIn.turn (h : DrumIn pb D vs w) (k : Nat) (u : Value) (D' : Dr) (hc : (dcells D vs).setIfInBounds k u = dcells D' vs) (hl : ∀ i, i < 4 → (D'.p i).l = (D.p i).l) : DrumIn pb D' vs (w.setCell ⟨pb, k, none⟩ u) :=
  ⟨by rw [blk_setCell h.blk, hc], fun i hi => by rw [hl i hi]; exact ownsRow_setCell_other (h.own i hi) (h.not_own i hi) _, h.apart⟩

theorem DrumIn.set_there (h : DrumIn pb D vs w) (a : Nat) (ha : a < 4) (b : Bool) : DrumIn pb (D.set a { D.p a with there := b }) vs (w.setCell ⟨pb, a * 3, none⟩ (.bool b)) := by
  refine h.turn _ _ _ ?_ ?_
  · rcases four ha with rfl | rfl | rfl | rfl <;> rfl
  · intro i _
    by_cases hi : i = a
    · subst hi; rw [Dr.set_same]
    · rw [Dr.set_other _ _ _ _ hi]
theorem DrumIn.set_sure (h : DrumIn pb D vs w) (a : Nat) (ha : a < 4) (n : Nat) : DrumIn pb (D.set a { D.p a with sure := n }) vs (w.setCell ⟨pb, a * 3 + 2, none⟩ (.int .i64 n)) := by
  refine h.turn _ _ _ ?_ ?_
  · rcases four ha with rfl | rfl | rfl | rfl <;> rfl
  · intro i _
    by_cases hi : i = a
    · subst hi; rw [Dr.set_same]
    · rw [Dr.set_other _ _ _ _ hi]
theorem DrumIn.set_fuel (h : DrumIn pb D vs w) (n : Int) : DrumIn pb { D with fuel := n } vs (w.setCell ⟨pb, 13, none⟩ (.int .i64 n)) :=
  h.turn _ _ _ rfl fun _ _ => rfl
theorem DrumIn.set_down (h : DrumIn pb D vs w) (b : Bool) : DrumIn pb { D with down := b } vs (w.setCell ⟨pb, 14, none⟩ (.bool b)) :=
  h.turn _ _ _ rfl fun _ _ => rfl

/-- Area a's row is another one (grown, or new). -/
theorem DrumIn.set_row (h : DrumIn pb D vs w) (a : Nat) (ha : a < 4) {w1 : World} {v' : Value} {l' : List UInt8} (hg : w.grownBy w1 (vs a).ownBlock) (ho : w1.ownsRow (pb + 1) 5 1 v' l'.length (cl l'))
    (hn : ∀ k, v'.ownBlock = some k → (vs a).ownBlock = some k ∨ w.heap.size ≤ k) : ∃ vs', vs' a = v' ∧ DrumIn pb (D.set a { D.p a with l := l' }) vs' (w1.setCell ⟨pb, a * 3 + 1, none⟩ v') ∧ Kept pb w (w1.setCell ⟨pb, a * 3 + 1, none⟩ v') := by
  have hlt := h.lt
  have hne := h.not_own a ha
  have hb1 : w1.heap[pb]? = some (.cells (dcells D vs) 69 (0, 0)) := by rw [hg.block pb hlt (fun e => hne e.symm), h.blk]
  have hv' : v'.ownBlock ≠ some pb := by
    intro e
    have := ho.lt pb e
    omega
  refine ⟨fun i => if i = a then v' else vs i, by simp, ⟨?_, ?_, ?_⟩, ⟨?_, ?_⟩⟩
  · rw [blk_setCell hb1]
    congr 2
    rcases four ha with rfl | rfl | rfl | rfl <;> rfl
  · intro i hi
    by_cases hia : i = a
    · subst hia
      rw [Dr.set_same]
      simp only [if_true]
      exact ownsRow_setCell_other ho hv' _
    · rw [Dr.set_other _ _ _ _ hia]
      simp only [if_neg hia]
      exact ownsRow_setCell_other ((h.own i hi).kept hg (h.apart i a hi ha hia)) (h.not_own i hi) _
  · intro i j hi hj hij
    have key : ∀ i, i < 4 → i ≠ a → (vs i).ownBlock = none ∨ (vs i).ownBlock ≠ v'.ownBlock := by
      intro i hi hia
      cases hvi : (vs i).ownBlock with
      | none => exact .inl rfl
      | some k =>
        refine .inr fun e => ?_
        rcases hn k e.symm with h2 | h2
        · rcases h.apart i a hi ha hia with h3 | h3
          · rw [hvi] at h3; cases h3
          · exact h3 (hvi.trans h2.symm)
        · have := ((h.own i hi).lt k hvi).2
          omega
    by_cases hia : i = a
    · subst hia
      have hja : j ≠ i := fun e => hij e.symm
      simp only [if_true, if_neg hja]
      rcases key j hj hja with h2 | h2
      · cases hv2 : v'.ownBlock with
        | none => exact .inl rfl
        | some k => exact .inr (by rw [h2]; simp)
      · exact .inr (fun e => h2 e.symm)
    · simp only [if_neg hia]
      by_cases hja : j = a
      · simp only [if_pos hja]; exact key i hi hia
      · simp only [if_neg hja]; exact h.apart i j hi hj hij
  · have hb : Below pb w w1 := (Below.refl pb w).grown hg (by omega) (fun k hk => by have := (h.own a ha).lt k hk; omega)
    exact hb.setCell (Nat.le_refl _) _
  · intro k o hk hkp h5
    rw [Below.heap_setCell _ _ _ _ hkp, hg.block k (lt_of_block hk) ?_, hk]
    intro e
    rcases (h.own a ha).2 with ⟨hv, _⟩ | ⟨g, cap, cur, hv, _, hgg, _⟩
    · rw [hv] at e; simp [Value.ownBlock] at e
    · rw [hv] at e
      simp only [Value.ownBlock, Option.some.injEq] at e
      subst e
      rw [hgg] at hk
      injection hk with hk
      exact h5 _ _ hk.symm

/-- Where nothing old is turned the drum is as it was. -/
theorem DrumIn.on {w' : World} (h : DrumIn pb D vs w) (hb : Below w.heap.size w w') : DrumIn pb D vs w' :=
  ⟨by rw [hb.block pb h.lt, h.blk], fun i hi => (h.own i hi).kept (row := none) ⟨hb.os, hb.tape, hb.output, hb.size, fun k hk _ => hb.block k hk⟩ (by cases (vs i).ownBlock <;> simp), h.apart⟩
theorem DrumAt.on {w' : World} (h : DrumAt pb D w) (hb : Below w.heap.size w w') : DrumAt pb D w' := by
  obtain ⟨vs, h⟩ := h
  exact ⟨vs, h.on hb⟩
theorem DrumAt.drew (h : DrumAt pb D w) : DrumAt pb D w.drew := h.on (Below.refl _ _).drew
theorem DrumAt.alloc (h : DrumAt pb D w) (o : Obj) : DrumAt pb D (w.alloc o) := h.on ((Below.refl _ _).alloc (Nat.le_refl _) o)
theorem DrumAt.lt (h : DrumAt pb D w) : pb < w.heap.size := by
  obtain ⟨vs, h⟩ := h
  exact h.lt
/-- A store into a block that is no part of the drum's. -/
theorem DrumAt.store (h : DrumAt pb D w) {b : Nat} {cs : Array Value} {t : TypeId} {fz : Nat × Nat} (hb : w.heap[b]? = some (.cells cs t fz)) (hne : b ≠ pb) (ht : t ≠ 5) (k : Nat) (u : Value) : DrumAt pb D (w.setCell ⟨b, k, none⟩ u) := by
  obtain ⟨vs, h⟩ := h
  refine ⟨vs, by rw [Below.heap_setCell _ _ _ _ (fun e => hne e.symm), h.blk], fun i hi => ownsRow_setCell_other (h.own i hi) ?_ _, h.apart⟩
  intro e
  rcases (h.own i hi).2 with ⟨hv, _⟩ | ⟨g, cap, cur, hv, _, hgg, _⟩
  · rw [hv] at e; simp [Value.ownBlock] at e
  · rw [hv] at e
    simp only [Value.ownBlock, Option.some.injEq] at e
    subst e
    rw [hgg] at hb
    injection hb with hb
    injection hb with _ h2 _
    exact ht h2.symm

end

/-- A row of which the first k are left. -/
theorem own_take {w : World} {base : Nat} {v : Value} {l : List UInt8} (h : w.ownsRow base 5 1 v l.length (cl l)) (k : Nat) (hk : k ≤ l.length) {ao : Option Addr} {cp : Nat} (hv : v = .slice ao l.length cp) : w.ownsRow base 5 1 (.slice ao k cp) (l.take k).length (cl (l.take k)) := by
  have hl : (l.take k).length = k := by simp; omega
  rcases h.2 with ⟨hv2, h0⟩ | ⟨g, cap, cur, hv2, hb, hg, h1, h2, h3, h4⟩
  · rw [hv] at hv2
    injection hv2 with e1 e2 e3
    subst e1 e3
    have hk0 : k = 0 := by omega
    subst hk0
    exact ⟨by simp [cl], .inl ⟨rfl, by simp⟩⟩
  · rw [hv] at hv2
    injection hv2 with e1 e2 e3
    subst e1 e3
    refine ⟨by rw [cl_length, hl]; omega, .inr ⟨g, _, cur, by rw [hl], hb, hg, by omega, h2, h3, ?_⟩⟩
    rw [← cl_take, ← h4, hl, List.take_take]
    congr 1
    omega

theorem strOf_bs (l : List UInt8) : strOfNums (l.map fun c => (c.toNat : Int)) = bs l := by
  unfold strOfNums bs
  congr 1
  simp [List.map_map, Function.comp_def]

/-- The row's text. -/
theorem row_text {w : World} {base : Nat} {v : Value} {l : List UInt8} (h : w.ownsRow base 5 1 v l.length (cl l)) : (convert 64 9 v).run Try.prog w = .ok (.string (bs l)) w := by
  rcases h.2 with ⟨rfl, h0⟩ | ⟨g, cap, cur, rfl, hb, hg, _⟩
  · rw [run_convert_bytes_nil w 64 5 Try.underlying64 Try.underlying5 0 0 9 Try.underlying9, List.length_eq_zero_iff.1 h0]; rfl
  · rw [run_convert_bytes_arg w 64 5 Try.underlying64 Try.underlying5 g 0 l.length cap (l.map fun c => (c.toNat : Int)) (by simp) ?_ 9 Try.underlying9, strOf_bs]
    intro i hi
    have := h.cells (g := g) rfl i (.int .u8 (l[i]).toNat) (by simp [cl, hi])
    simp only [Nat.zero_add]
    have e : (⟨g, 0, none⟩ : Addr).add i = ⟨g, i, none⟩ := by simp [Addr.add_lit]
    rw [e] at this
    rw [this]
    simp [hi]

end Go.Proofs.Ytjjdmeemhgopbaa.Drm
