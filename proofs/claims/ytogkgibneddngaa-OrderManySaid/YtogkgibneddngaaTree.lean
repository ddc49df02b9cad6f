/-
  A binary tree of nodes in memory, whatever the order of a node's cells: what stays, what a written node leaves. (Of no seat: to be carried.)
-/
import Derived.Test.YtogkgibneddngaaMany
import Derived.Test.YtogkgibneddngaaRw
import Derived.Deep.Trees
namespace Go.Proofs.Ytogkgibneddngaa
open Go.RowKit

/-- A tree: each node in its block, with a number beside (a height, a count, a rank): the library's trees, the number in the second place. -/
abbrev Tr := Go.Deep.BT (List UInt8 × Int)
abbrev Tr.nil : Tr := Go.Deep.BT.nil
abbrev Tr.node (b : Nat) (l : Tr) (k : List UInt8) (v : Int) (x : Nat) (r : Tr) : Tr := Go.Deep.BT.node b x (k, v) l r
theorem Tr.ind {motive : Tr → Prop} (nil : motive .nil) (node : ∀ (b : Nat) (l : Tr) (k : List UInt8) (v : Int) (x : Nat) (r : Tr), motive l → motive r → motive (.node b l k v x r)) (t : Tr) : motive t := by
  induction t with
  | nil => exact nil
  | node b x a l r ihl ihr =>
    obtain ⟨k, v⟩ := a
    exact node b l k v x r ihl ihr
theorem Tr.cas {motive : Tr → Prop} (nil : motive .nil) (node : ∀ (b : Nat) (l : Tr) (k : List UInt8) (v : Int) (x : Nat) (r : Tr), motive (.node b l k v x r)) (t : Tr) : motive t := Tr.ind nil (fun b l k v x r _ _ => node b l k v x r) t
def Tr.toL : Tr → Kv
  | Go.Deep.BT.nil => []
  | Go.Deep.BT.node _ _ (k, v) l r => Tr.toL l ++ (k, v) :: Tr.toL r
def Tr.ptr : Tr → Value
  | Go.Deep.BT.nil => .pointer none
  | Go.Deep.BT.node b _ _ _ _ => .pointer (some ⟨b, 0, none⟩)
def Tr.blocks : Tr → List Nat
  | Go.Deep.BT.nil => []
  | Go.Deep.BT.node b _ _ l r => b :: (Tr.blocks l ++ Tr.blocks r)
/-- How a node lies in its block. -/
structure Lay where
  ty : TypeId
  cells : List UInt8 → Int → Nat → Value → Value → Array Value
def TrAt (Y : Lay) : Tr → World → Prop
  | Go.Deep.BT.nil, _ => True
  | Go.Deep.BT.node b x (k, v) l r, w => w.heap[b]? = some (.cells (Y.cells k v x (Tr.ptr l) (Tr.ptr r)) Y.ty (0, 0)) ∧ TrAt Y l w ∧ TrAt Y r w
theorem TrAt.lt {Y : Lay} {w : World} {t : Tr} : TrAt Y t w → ∀ b ∈ t.blocks, b < w.heap.size := by
  induction t using Tr.ind with
  | nil =>
    intro _ b hb
    simp [Tr.blocks] at hb
  | node c l k v x r ihl ihr =>
    intro h b hb
    obtain ⟨h1, h2, h3⟩ := h
    simp only [Tr.blocks, List.mem_cons, List.mem_append] at hb
    rcases hb with rfl | hb | hb
    · exact (Array.getElem?_eq_some_iff.1 h1).1
    · exact ihl h2 b hb
    · exact ihr h3 b hb
theorem TrAt.kept {Y : Lay} {F : Nat → Prop} {w w' : World} (hk : Kept F w w') {t : Tr} : TrAt Y t w → (∀ b ∈ t.blocks, ¬ F b) → TrAt Y t w' := by
  induction t using Tr.ind with
  | nil => exact fun _ _ => trivial
  | node c l k v x r ihl ihr =>
    intro h hF
    obtain ⟨h1, h2, h3⟩ := h
    refine ⟨?_, ihl h2 (fun b hb => hF b (by simp [Tr.blocks, hb])), ihr h3 (fun b hb => hF b (by simp [Tr.blocks, hb]))⟩
    rw [hk.block c (Array.getElem?_eq_some_iff.1 h1).1 (hF c (by simp [Tr.blocks]))]
    exact h1
theorem TrAt.on {Y : Lay} {w w' : World} {t : Tr} (h : TrAt Y t w) (hb : Below w.heap.size w w') : TrAt Y t w' := TrAt.kept (F := fun _ => False) (Kept.of_below hb) h (fun _ _ h => h)
/-- A new node over two trees. -/
theorem TrAt.new {Y : Lay} {w : World} {l r : Tr} (hl : TrAt Y l w) (hr : TrAt Y r w) (k : List UInt8) (v : Int) (x : Nat) : TrAt Y (.node w.heap.size l k v x r) (w.alloc (.cells (Y.cells k v x l.ptr r.ptr) Y.ty)) :=
  ⟨heap_alloc_new w _, hl.on (al _), hr.on (al _)⟩
/-- A node's block written anew: what stands beneath it lies elsewhere. -/
theorem TrAt.write {Y : Lay} {w w' : World} {b : Nat} {l r : Tr} {k : List UInt8} {v : Int} {x : Nat} (hk : Kept (fun c => c = b) w w') (hb : w'.heap[b]? = some (.cells (Y.cells k v x l.ptr r.ptr) Y.ty (0, 0))) (hl : TrAt Y l w) (hr : TrAt Y r w) (hnl : b ∉ l.blocks) (hnr : b ∉ r.blocks) : TrAt Y (.node b l k v x r) w' :=
  ⟨hb, TrAt.kept hk hl (fun _ hc e => hnl (e ▸ hc)), TrAt.kept hk hr (fun _ hc e => hnr (e ▸ hc))⟩
/-- One cell of a block written. -/
theorem block_set {w : World} {b j : Nat} {cs : Array Value} {ty : TypeId} (u : Value) (h : w.heap[b]? = some (.cells cs ty (0, 0))) : (w.setCell ⟨b, j, none⟩ u).heap[b]? = some (.cells (cs.setIfInBounds j u) ty (0, 0)) := by
  show (w.heap.modify b _)[b]? = _
  rw [Array.getElem?_modify, if_pos rfl, h]
  rfl
theorem set_kept' (w : World) (b j : Nat) (u : Value) : Kept (fun c => c = b) w (w.setCell ⟨b, j, none⟩ u) := by
  have hb : Below b w (w.setCell ⟨b, j, none⟩ u) := (Below.refl b w).setCell (p := ⟨b, j, none⟩) (Nat.le_refl b) u
  exact ⟨hb.os, hb.tape, hb.output, hb.size, fun k _ hF => Below.heap_setCell w ⟨b, j, none⟩ u k hF⟩
theorem block_cell {w : World} {b j : Nat} {cs : Array Value} {ty : TypeId} {u : Value} (h : w.heap[b]? = some (.cells cs ty (0, 0))) (hj : cs[j]? = some u) : w.cell? ⟨b, j, none⟩ = some u := by
  unfold World.cell?
  rw [h]
  exact hj
theorem block_frozen {w : World} {b : Nat} {cs : Array Value} {ty : TypeId} (h : w.heap[b]? = some (.cells cs ty (0, 0))) (j : Nat) : w.frozen? ⟨b, j, none⟩ = false := by
  unfold World.frozen?
  rw [h]
  simp

/-- Turned about: the list stays. -/
theorem rot_right (b c : Nat) (A B C : Tr) (k q : List UInt8) (v u : Int) (x y x' y' : Nat) : (Tr.node b (.node c A q u y B) k v x C).toL = (Tr.node c A q u y' (.node b B k v x' C)).toL := by simp [Tr.toL]
theorem rot_left (b c : Nat) (A B C : Tr) (k q : List UInt8) (v u : Int) (x y x' y' : Nat) : (Tr.node b A k v x (.node c B q u y C)).toL = (Tr.node c (.node b A k v x' B) q u y' C).toL := by simp [Tr.toL]
end Go.Proofs.Ytogkgibneddngaa
