/-
  Trees with their heights, plain: what a height tells, what is found, what a value that is put leaves; the tree in memory.
-/
import Derived.Test.YtogkgibneddngaaTree
namespace Go.Proofs.Ytogkgibneddngaa
open Go.RowKit

def Tr.hi : Tr → Int
  | .nil => 0
  | .node _ _ _ _ x _ => x
/-- Each node tells its height. -/
def Hk : Tr → Prop
  | .nil => True
  | .node _ l _ _ x r => x = 1 + max l.hi r.hi ∧ Hk l ∧ Hk r
theorem Hk.bounds : ∀ {t : Tr}, Hk t → 0 ≤ t.hi ∧ t.hi ≤ t.toL.length
  | .nil, _ => by simp [Tr.hi, Tr.toL]
  | .node b l k v x r, h => by
    obtain ⟨h1, h2, h3⟩ := h
    have i2 := Hk.bounds h2
    have i3 := Hk.bounds h3
    simp only [Tr.hi, Tr.toL, List.length_append, List.length_cons]
    omega
theorem Hk.node {t : Tr} (h : Hk t) (h0 : 0 < t.hi) : ∃ b l k v x r, t = .node b l k v x r := by
  cases t with
  | nil => simp [Tr.hi] at h0
  | node b l k v x r => exact ⟨b, l, k, v, x, r, rfl⟩
/-- A node's cells. -/
def nl : Lay := ⟨53, fun k v x l r => #[.string (bs k), .int .i64 v, l, r, .int .i64 x]⟩

/-- The block of a key's node. -/
def findT (k : List UInt8) : Tr → Option Nat
  | .nil => none
  | .node b l q _ _ r => if ltK k q then findT k l else if ltK q k then findT k r else some b
def putT (k : List UInt8) (v : Int) : Tr → Tr
  | .nil => .nil
  | .node b l q u x r => if ltK k q then .node b (putT k v l) q u x r else if ltK q k then .node b l q u x (putT k v r) else .node b l q v x r
theorem find_in {k : List UInt8} : ∀ {t : Tr} {b : Nat}, findT k t = some b → b ∈ t.blocks
  | .nil, b, h => by cases h
  | .node c l q u x r, b, h => by
    unfold findT at h
    simp only [Tr.blocks, List.mem_cons, List.mem_append]
    split at h
    · exact .inr (.inl (find_in h))
    · split at h
      · exact .inr (.inr (find_in h))
      · injection h with h; exact .inl h.symm
theorem find_get {k : List UInt8} : ∀ {t : Tr}, Srt t.toL → (findT k t).isSome = (getF k t.toL).isSome
  | .nil, _ => rfl
  | .node c l q u x r, h => by
    obtain ⟨h1, h2, _, _⟩ := srt_parts h
    unfold findT
    simp only [Tr.toL]
    rw [get_parts h]
    split
    · exact find_get h1
    · split
      · exact find_get h2
      · rfl
theorem find_at {w : World} {k : List UInt8} : ∀ {t : Tr} {b : Nat}, Srt t.toL → TrAt nl t w → findT k t = some b → ∃ q v x l r, w.heap[b]? = some (.cells (nl.cells q v x l r) nl.ty (0, 0)) ∧ getF k t.toL = some v
  | .nil, b, _, _, h => by cases h
  | .node c l q u x r, b, hs, ha, h => by
    obtain ⟨h1, h2, _, _⟩ := srt_parts hs
    obtain ⟨a1, a2, a3⟩ := ha
    unfold findT at h
    simp only [Tr.toL]
    rw [get_parts hs]
    split at h
    · rename_i e; rw [if_pos e]; exact find_at h1 a2 h
    · rename_i e
      rw [if_neg e]
      split at h
      · rename_i e2; rw [if_pos e2]; exact find_at h2 a3 h
      · rename_i e2
        rw [if_neg e2]
        injection h with h
        subst h
        exact ⟨q, u, x, _, _, a1, rfl⟩
theorem put_ptr (k : List UInt8) (v : Int) (t : Tr) : (putT k v t).ptr = t.ptr := by
  cases t with
  | nil => rfl
  | node b l q u x r => unfold putT; split; rfl; split <;> rfl
theorem put_hi (k : List UInt8) (v : Int) (t : Tr) : (putT k v t).hi = t.hi := by
  cases t with
  | nil => rfl
  | node b l q u x r => unfold putT; split; rfl; split <;> rfl
theorem put_blocks (k : List UInt8) (v : Int) : ∀ t : Tr, (putT k v t).blocks = t.blocks
  | .nil => rfl
  | .node b l q u x r => by
    unfold putT
    split
    · simp only [Tr.blocks, put_blocks k v l]
    · split
      · simp only [Tr.blocks, put_blocks k v r]
      · rfl
theorem put_hk (k : List UInt8) (v : Int) : ∀ {t : Tr}, Hk t → Hk (putT k v t)
  | .nil, _ => trivial
  | .node b l q u x r, h => by
    obtain ⟨h1, h2, h3⟩ := h
    unfold putT
    split
    · exact ⟨by rw [put_hi]; exact h1, put_hk k v h2, h3⟩
    · split
      · exact ⟨by rw [put_hi]; exact h1, h2, put_hk k v h3⟩
      · exact ⟨h1, h2, h3⟩
theorem put_toL {k : List UInt8} {v : Int} : ∀ {t : Tr}, Srt t.toL → (findT k t).isSome = true → (putT k v t).toL = setF k v t.toL
  | .nil, _, h => by cases h
  | .node b l q u x r, hs, h => by
    obtain ⟨h1, h2, _, _⟩ := srt_parts hs
    unfold findT at h
    unfold putT
    simp only [Tr.toL]
    rw [set_parts hs]
    split
    · rename_i e; rw [if_pos e] at h; simp only [Tr.toL]; rw [put_toL h1 h]
    · rename_i e
      rw [if_neg e] at h
      split
      · rename_i e2; rw [if_pos e2] at h; simp only [Tr.toL]; rw [put_toL h2 h]
      · rename_i e2
        have : q = k := ltK_tri (by simpa using e2) (by simpa using e)
        subst this
        rfl
/-- A value is written. -/
theorem put_at {w : World} {k : List UInt8} {v : Int} : ∀ {t : Tr} {b : Nat}, TrAt nl t w → t.blocks.Nodup → findT k t = some b → TrAt nl (putT k v t) (w.setCell ⟨b, 1, none⟩ (.int .i64 v))
  | .nil, b, _, _, h => by cases h
  | .node c l q u x r, b, ha, hn, h => by
    obtain ⟨a1, a2, a3⟩ := ha
    simp only [Tr.blocks, List.nodup_cons, List.mem_append, not_or, List.nodup_append] at hn
    obtain ⟨⟨n1, n2⟩, n3, n4, n5⟩ := hn
    have hk := set_kept' w b 1 (.int .i64 v)
    unfold findT at h
    unfold putT
    split
    · rename_i e
      rw [if_pos e] at h
      have hb := find_in h
      refine ⟨?_, put_at a2 n3 h, TrAt.kept hk a3 (fun i hi e => n5 b hb i hi e.symm)⟩
      rw [put_ptr, hk.block c (Array.getElem?_eq_some_iff.1 a1).1 (fun e => n1 (e ▸ hb))]
      exact a1
    · rename_i e
      rw [if_neg e] at h
      split
      · rename_i e2
        rw [if_pos e2] at h
        have hb := find_in h
        refine ⟨?_, TrAt.kept hk a2 (fun i hi e => n5 i hi b hb e), put_at a3 n4 h⟩
        rw [put_ptr, hk.block c (Array.getElem?_eq_some_iff.1 a1).1 (fun e => n2 (e ▸ hb))]
        exact a1
      · rename_i e2
        rw [if_neg e2] at h
        injection h with h
        subst h
        exact ⟨block_set _ a1, TrAt.kept hk a2 (fun i hi e => n1 (e ▸ hi)), TrAt.kept hk a3 (fun i hi e => n2 (e ▸ hi))⟩
end Go.Proofs.Ytogkgibneddngaa
