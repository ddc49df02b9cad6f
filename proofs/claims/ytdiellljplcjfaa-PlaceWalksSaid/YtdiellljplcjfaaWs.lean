/-
  Writes in rows; rows of rows.
-/
import Derived.Test.YtdiellljplcjfaaSt
namespace Go.Proofs.Ytdiellljplcjfaa
open Go.RowKit Go.Sort

/-- A write: its key, its value, whether it is dead. -/
structure Wr where
  key : List UInt8
  val : List UInt8
  dead : Bool
theorem block_set {w : World} {b j : Nat} {cs : Array Value} {ty : TypeId} (u : Value) (h : w.heap[b]? = some (.cells cs ty (0, 0))) : (w.setCell ⟨b, j, none⟩ u).heap[b]? = some (.cells (cs.setIfInBounds j u) ty (0, 0)) := by
  show (w.heap.modify b _)[b]? = _
  rw [Array.getElem?_modify, if_pos rfl, h]
  rfl
theorem block_frozen {w : World} {b : Nat} {cs : Array Value} {ty : TypeId} (h : w.heap[b]? = some (.cells cs ty (0, 0))) (j : Nat) : w.frozen? ⟨b, j, none⟩ = false := by
  unfold World.frozen?
  rw [h]
  simp
theorem set_kept' (w : World) (b j : Nat) (u : Value) : Kept (fun c => c = b) w (w.setCell ⟨b, j, none⟩ u) := by
  have hb : Below b w (w.setCell ⟨b, j, none⟩ u) := (Below.refl b w).setCell (p := ⟨b, j, none⟩) (Nat.le_refl b) u
  exact ⟨hb.os, hb.tape, hb.output, hb.size, fun k _ hF => Below.heap_setCell w ⟨b, j, none⟩ u k hF⟩
theorem below_own {base e size : Nat} {v : Value} {n : Nat} {cs : List Value} {a w w' : World} (hb : Below base a w) (hs : base ≤ w.heap.size) (hI : w.ownsRow base e size v n cs) (hg : w.grownBy w' v.ownBlock) : Below base a w' :=
  hb.grown hg hs fun k hk => (World.ownsRow.lt hI k hk).1
theorem own_nil (base e size : Nat) (w : World) : w.ownsRow base e size (.slice none 0 0) 0 [] := World.ownsRow_nil w base e size
theorem below_of {a b : Nat} {w w' : World} (e : a = b) (h : Below a w w') : Below b w w' := e ▸ h
theorem size_al (w : World) (o : Obj) : (w.alloc o).heap.size = w.heap.size + 1 := by simp
theorem ret_bool {a b : Bool} (h : a = b) : Ending.returned (.bool a) = .returned (.bool b) := by rw [h]
def wrc (x : Wr) : List Value := [.string (bs x.key), .string (bs x.val), .bool x.dead]
theorem wrc_len (x : Wr) : (wrc x).length = 3 := rfl
theorem wrc_one : ∀ x, ∀ u ∈ wrc x, u.oneCell' = true := fun x u hu => by
  simp only [wrc, List.mem_cons, List.not_mem_nil, or_false] at hu
  rcases hu with rfl | rfl | rfl <;> rfl
def dw : Wr := ⟨[], [], false⟩
/-- A write's three cells. -/
structure WtAt (w : World) (b off : Nat) (x : Wr) : Prop where
  c0 : w.cell? ⟨b, off, none⟩ = some (.string (bs x.key))
  c1 : w.cell? ⟨b, off + 1, none⟩ = some (.string (bs x.val))
  c2 : w.cell? ⟨b, off + 2, none⟩ = some (.bool x.dead)
/-- Writes at a slice. -/
def WsAt (B : Nat) (v : Value) (L : List Wr) (w : World) : Prop := RwAt B 3 v L.length (rowC wrc L) w
theorem WsAt.el {B : Nat} {ao : Option Addr} {cap : Nat} {L : List Wr} {w : World} (h : WsAt B (.slice ao L.length cap) L w) {i : Nat} (hi : i < L.length) : ∃ b off, ao = some ⟨b, off, none⟩ ∧ WtAt w b (off + i * 3) (L.getD i dw) := by
  obtain ⟨b, off, e, hc⟩ := rowC_el wrc_len dw (by omega) rfl h hi
  exact ⟨b, off, e, hc 0 _ (by omega) rfl, hc 1 _ (by omega) rfl, hc 2 _ (by omega) rfl⟩
theorem WsAt.shape {B : Nat} {v : Value} {L : List Wr} {w : World} (h : WsAt B v L w) : ∃ ao cap, v = .slice ao L.length cap ∧ L.length ≤ cap ∧ cap ≤ 9223372036854775807 := by
  obtain ⟨ao, cap, e, _, h1, h2, _⟩ := h
  exact ⟨ao, cap, e, h1, h2⟩
theorem WsAt.on {B : Nat} {v : Value} {L : List Wr} {w w' : World} (h : WsAt B v L w) (hb : Below B w w') : WsAt B v L w' := RwAt.on h hb
theorem getD_memW {L : List Wr} {i : Nat} (h : i < L.length) : L.getD i dw ∈ L := by
  rw [List.getD, List.getElem?_eq_getElem h]
  exact List.getElem_mem h
end Go.Proofs.Ytdiellljplcjfaa
