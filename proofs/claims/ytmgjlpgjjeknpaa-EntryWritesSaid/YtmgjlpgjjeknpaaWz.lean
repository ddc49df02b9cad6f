/-
  An entry in its box and a Writer besides: what a method of the Writer leaves.
-/
import Derived.Test.YtmgjlpgjjeknpaaIf
import Derived.Test.YtmgjlpgjjeknpaaLc
namespace Go.Proofs.Ytmgjlpgjjeknpaa
open Go.RowKit Go.Sort

structure Wz (w : World) (b pb : Nat) (e : En) (ao : Option Addr) (cp : Nat) (L : List UInt8) (W : World) : Prop where
  eb : Eb w b e ao cp W
  wr : WrAt pb L W
  lt : b < pb
  le : w.heap.size ≤ pb
variable {w W W' : World} {b pb : Nat} {e : En} {ao : Option Addr} {cp : Nat} {L L' : List UInt8}
theorem wz_new (h : Eb w b e ao cp W) : Wz w b W.heap.size e ao cp [] (W.alloc (.cells #[.slice none 0 0] 47)) :=
  ⟨h.on (al _), ⟨.slice none 0 0, heap_alloc_new W _, own_nil _ _ _ _⟩, (Array.getElem?_eq_some_iff.1 h.x).1, h.bel.size⟩
theorem Wz.go (h : Wz w b pb e ao cp L W) (hw : WrAt pb L' W') (hk : KeptW pb W W') : Wz w b pb e ao cp L' W' :=
  ⟨⟨h.eb.bel.trans (hk.below.mono h.le), by rw [hk.below.block b h.lt]; exact h.eb.x, h.eb.ws.on (hk.below.mono h.le)⟩, hw, h.lt, h.le⟩
/-- A write in a box besides. -/
structure Wb (w : World) (b pb bw : Nat) (e : En) (ao : Option Addr) (cp : Nat) (L : List UInt8) (x : Wr) (W : World) : Prop where
  z : Wz w b pb e ao cp L W
  bx : W.heap[bw]? = some (.cells #[.string (bs x.key), .string (bs x.val), .bool x.dead] 60 (0, 0))
  ne : bw ≠ pb
variable {bw : Nat} {x : Wr}
theorem WrAt.al {T : Obj} (h : WrAt pb L W) : WrAt pb L (W.alloc T) := by
  obtain ⟨v, h1, h2⟩ := h
  exact ⟨v, by rw [(Ytmgjlpgjjeknpaa.al (W := W) T).block pb (Array.getElem?_eq_some_iff.1 h1).1]; exact h1, World.ownsRow.alloc h2 _⟩
theorem Wz.box (h : Wz w b pb e ao cp L W) (x : Wr) : Wb w b pb W.heap.size e ao cp L x (W.alloc (.cells #[.string (bs x.key), .string (bs x.val), .bool x.dead] 60)) := by
  obtain ⟨v, h1, h2⟩ := h.wr
  have hlt := (Array.getElem?_eq_some_iff.1 h1).1
  exact ⟨⟨h.eb.on (al _), h.wr.al, h.lt, h.le⟩, heap_alloc_new W _, by omega⟩
theorem Wb.go (h : Wb w b pb bw e ao cp L x W) (hw : WrAt pb L' W') (hk : KeptW pb W W') : Wb w b pb bw e ao cp L' x W' :=
  ⟨h.z.go hw hk, hk.other bw _ h.bx h.ne (fun cs fz hh => by injection hh with _ h2 _; exact absurd h2 (by decide)), h.ne⟩
/-- The Writer's Text, told by the text's form. -/
theorem text19 (pb : Nat) (l s : List UInt8) (w : World) (hw : WrAt pb l w) (hl : l.length + 9 + s.length ≤ 140737488355328) : Calls Try.prog 43 #[.pointer (some ⟨pb, 0, none⟩), .string (bs s)] w fun e w' => e = .returned (.tuple #[]) ∧ WrAt pb (l ++ textForm s) w' ∧ KeptW pb w w' := by
  have := text12 pb l (bs s) w hw (by rw [bs_size]; exact hl)
  rw [bs_size, bs_data] at this
  exact this
end Go.Proofs.Ytmgjlpgjjeknpaa
