/-
  A list of acts among the arguments: its cells, one by one; what acts leave of a drum.
-/
import Derived.Test.YtlgmnjjjaplgcaaDo
namespace Go.Proofs.Ytlgmnjjjaplgcaa
open Go.RowKit

def dflt : Ac := ⟨0, 0, 0, [], [], .slice none 0 0⟩

/-- The list keep lies at the slice kv. -/
def ArgKeep (w : World) (kv : Value) (keep : List Int) : Prop :=
  ∃ ao cap, kv = .slice ao keep.length cap ∧ (0 < keep.length → ∃ kb ko, ao = some ⟨kb, ko, none⟩ ∧ ∀ i, i < keep.length → w.cell? ⟨kb, ko + i, none⟩ = some (.int .i64 (keep.getD i 0)))

/-- The act c is the one at place i of the row of acts. -/
structure AcAt (w : World) (b off i : Nat) (c : Ac) : Prop where
  c0 : w.cell? ⟨b, off + i * 5, none⟩ = some (.int .i64 c.what)
  c1 : w.cell? ⟨b, off + i * 5 + 1, none⟩ = some (.int .i64 c.area)
  c2 : w.cell? ⟨b, off + i * 5 + 2, none⟩ = some (.int .i64 c.n)
  c3 : w.cell? ⟨b, off + i * 5 + 3, none⟩ = some (.string (bs c.text))
  c4 : w.cell? ⟨b, off + i * 5 + 4, none⟩ = some c.kv
  keep : ArgKeep w c.kv c.keep

theorem ArgKeep.at {w w' : World} {kv : Value} {keep : List Int} {pb : Nat} (h : ArgKeep w kv keep) (hb : Below w.heap.size w w') (hp : w.heap.size ≤ pb) : KeepAt pb kv keep w' := by
  obtain ⟨ao, cap, rfl, h⟩ := h
  refine ⟨ao, cap, rfl, fun h0 => ?_⟩
  obtain ⟨kb, ko, rfl, hc⟩ := h h0
  have hlt : kb < w.heap.size := World.block_lt_of_cell? _ _ (hc 0 h0)
  exact ⟨kb, ko, rfl, by omega, fun i hi => by rw [hb.cell (p := ⟨kb, ko + i, none⟩) hlt]; exact hc i hi, .inl (by omega)⟩

theorem AcAt.on {w w' : World} {b off i : Nat} {c : Ac} (h : AcAt w b off i c) (hb : Below w.heap.size w w') : w'.cell? ⟨b, off + i * 5, none⟩ = some (.int .i64 c.what) ∧ w'.cell? ⟨b, off + i * 5 + 1, none⟩ = some (.int .i64 c.area) ∧ w'.cell? ⟨b, off + i * 5 + 2, none⟩ = some (.int .i64 c.n) ∧ w'.cell? ⟨b, off + i * 5 + 3, none⟩ = some (.string (bs c.text)) ∧ w'.cell? ⟨b, off + i * 5 + 4, none⟩ = some c.kv := by
  have hlt : b < w.heap.size := World.block_lt_of_cell? _ _ h.c0
  refine ⟨?_, ?_, ?_, ?_, ?_⟩
  · rw [hb.cell (p := ⟨b, _, none⟩) hlt]; exact h.c0
  · rw [hb.cell (p := ⟨b, _, none⟩) hlt]; exact h.c1
  · rw [hb.cell (p := ⟨b, _, none⟩) hlt]; exact h.c2
  · rw [hb.cell (p := ⟨b, _, none⟩) hlt]; exact h.c3
  · rw [hb.cell (p := ⟨b, _, none⟩) hlt]; exact h.c4

theorem five_cells {w : World} {b : Nat} {v0 v1 v2 v3 v4 : Value} {t : TypeId} (h : w.heap[b]? = some (.cells #[v0, v1, v2, v3, v4] t (0, 0))) :
    w.cell? ⟨b, 0, none⟩ = some v0 ∧ w.cell? ⟨b, 1, none⟩ = some v1 ∧ w.cell? ⟨b, 2, none⟩ = some v2 ∧ w.cell? ⟨b, 3, none⟩ = some v3 ∧ w.cell? ⟨b, 4, none⟩ = some v4 :=
  ⟨blk_cell h rfl, blk_cell h rfl, blk_cell h rfl, blk_cell h rfl, blk_cell h rfl⟩

theorem step_room (D : Dr) (a : Int) (r : Pt → Int) (f : Pt → Pt) : (D.step a r f).2.room = D.room := by
  unfold Dr.step
  split
  · rfl
  split
  · rfl
  split
  · rfl
  split <;> rfl

theorem act_room (D : Dr) (c : Ac) : (D.act c).2.room = D.room := by
  unfold Dr.act
  split
  · exact step_room _ _ _ _
  split
  · exact step_room _ _ _ _
  split
  · exact step_room _ _ _ _
  split
  · exact step_room _ _ _ _
  split
  · exact step_room _ _ _ _
  split
  · rfl
  split <;> rfl

theorem step_other (D : Dr) (a : Int) (r : Pt → Int) (f : Pt → Pt) (i : Nat) (h : a ≠ i) : (D.step a r f).2.p i = D.p i := by
  unfold Dr.step
  split
  · rfl
  split
  · rfl
  split
  · rfl
  split
  · rfl
  · rw [Dr.set_other _ _ _ _ (by omega)]
    rfl

/-- An area all of whose bytes are sure stays as it is behind whatever befalls others. -/
theorem act_other (D : Dr) (c : Ac) (i : Nat) (h : c.area ≠ i) (hs : (D.p i).sure = (D.p i).l.length) : (D.act c).2.p i = D.p i := by
  unfold Dr.act
  split
  · exact step_other _ _ _ _ _ h
  split
  · exact step_other _ _ _ _ _ h
  split
  · exact step_other _ _ _ _ _ h
  split
  · exact step_other _ _ _ _ _ h
  split
  · exact step_other _ _ _ _ _ h
  split
  · rfl
  split
  · have hl : D.left c.keep i = (D.p i).l.length := by
      unfold Dr.left
      omega
    simp only [Dr.fall, hl, Pt.settle]
    have : (D.p i) = ⟨(D.p i).there, (D.p i).l, (D.p i).sure⟩ := rfl
    rw [this, hs]
    simp
  · rfl

end Go.Proofs.Ytlgmnjjjaplgcaa
