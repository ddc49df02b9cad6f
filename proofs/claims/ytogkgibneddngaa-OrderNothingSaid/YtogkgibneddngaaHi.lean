/-
  Trees with their heights, plain: what a height tells, what is found, what a value that is put leaves; the tree in memory.
-/
import Derived.Test.YtogkgibneddngaaTree
namespace Go.Proofs.Ytogkgibneddngaa
open Go.RowKit

def Tr.hn : Tr → Nat
  | Go.Deep.BT.nil => 0
  | Go.Deep.BT.node _ x _ _ _ => x
def Tr.hi : Tr → Int
  | Go.Deep.BT.nil => 0
  | Go.Deep.BT.node _ x _ _ _ => (x : Int)
theorem Tr.hi_hn (t : Tr) : t.hi = t.hn := by
  cases t using Tr.cas with
  | nil => rfl
  | node b l k v x r => rfl
theorem max_hn (l r : Tr) : ((1 + max l.hn r.hn : Nat) : Int) = 1 + max l.hi r.hi := by
  rw [l.hi_hn, r.hi_hn]
  omega
/-- Each node tells its height. -/
def Hk : Tr → Prop
  | Go.Deep.BT.nil => True
  | Go.Deep.BT.node _ x _ l r => x = 1 + max (Tr.hn l) (Tr.hn r) ∧ Hk l ∧ Hk r
theorem Hk.bounds {t : Tr} : Hk t → 0 ≤ t.hi ∧ t.hi ≤ t.toL.length := by
  induction t using Tr.ind with
  | nil => intro _; simp [Tr.hi, Tr.toL]
  | node b l k v x r ihl ihr =>
    intro h
    obtain ⟨h1, h2, h3⟩ := h
    have i2 := ihl h2
    have i3 := ihr h3
    rw [l.hi_hn] at i2
    rw [r.hi_hn] at i3
    simp only [Tr.hi, Tr.toL, List.length_append, List.length_cons]
    omega
theorem Hk.node {t : Tr} (h0 : 0 < t.hi) : ∃ b l k v x r, t = .node b l k v x r := by
  cases t using Tr.cas with
  | nil => simp [Tr.hi] at h0
  | node b l k v x r => exact ⟨b, l, k, v, x, r, rfl⟩
/-- A node's cells. -/
def nl : Lay := ⟨53, fun k v x l r => #[.string (bs k), .int .i64 v, l, r, .int .i64 (x : Int)]⟩

/-- The block of a key's node. -/
def findT (k : List UInt8) : Tr → Option Nat
  | Go.Deep.BT.nil => none
  | Go.Deep.BT.node b _ (q, _) l r => if ltK k q then findT k l else if ltK q k then findT k r else some b
def putT (k : List UInt8) (v : Int) : Tr → Tr
  | Go.Deep.BT.nil => .nil
  | Go.Deep.BT.node b x (q, u) l r => if ltK k q then .node b (putT k v l) q u x r else if ltK q k then .node b l q u x (putT k v r) else .node b l q v x r
theorem find_node (k : List UInt8) (b : Nat) (l : Tr) (q : List UInt8) (u : Int) (x : Nat) (r : Tr) : findT k (.node b l q u x r) = if ltK k q then findT k l else if ltK q k then findT k r else some b := rfl
theorem put_node (k : List UInt8) (v : Int) (b : Nat) (l : Tr) (q : List UInt8) (u : Int) (x : Nat) (r : Tr) : putT k v (.node b l q u x r) = if ltK k q then .node b (putT k v l) q u x r else if ltK q k then .node b l q u x (putT k v r) else .node b l q v x r := rfl
theorem find_in {k : List UInt8} {t : Tr} : ∀ {b : Nat}, findT k t = some b → b ∈ t.blocks := by
  induction t using Tr.ind with
  | nil => intro b h; cases h
  | node c l q u x r ihl ihr =>
    intro b h
    rw [find_node] at h
    simp only [Tr.blocks, List.mem_cons, List.mem_append]
    split at h
    · exact .inr (.inl (ihl h))
    · split at h
      · exact .inr (.inr (ihr h))
      · injection h with h; exact .inl h.symm
theorem find_get {k : List UInt8} {t : Tr} : Srt t.toL → (findT k t).isSome = (getF k t.toL).isSome := by
  induction t using Tr.ind with
  | nil => intro _; rfl
  | node c l q u x r ihl ihr =>
    intro h
    obtain ⟨h1, h2, _, _⟩ := srt_parts h
    rw [find_node]
    simp only [Tr.toL]
    rw [get_parts h]
    split
    · exact ihl h1
    · split
      · exact ihr h2
      · rfl
theorem find_at {w : World} {k : List UInt8} {t : Tr} : ∀ {b : Nat}, Srt t.toL → TrAt nl t w → findT k t = some b → ∃ q v x l r, w.heap[b]? = some (.cells (nl.cells q v x l r) nl.ty (0, 0)) ∧ getF k t.toL = some v := by
  induction t using Tr.ind with
  | nil => intro b _ _ h; cases h
  | node c l q u x r ihl ihr =>
    intro b hs ha h
    obtain ⟨h1, h2, _, _⟩ := srt_parts hs
    obtain ⟨a1, a2, a3⟩ := ha
    rw [find_node] at h
    simp only [Tr.toL]
    rw [get_parts hs]
    split at h
    · rename_i e; rw [if_pos e]; exact ihl h1 a2 h
    · rename_i e
      rw [if_neg e]
      split at h
      · rename_i e2; rw [if_pos e2]; exact ihr h2 a3 h
      · rename_i e2
        rw [if_neg e2]
        injection h with h
        subst h
        exact ⟨q, u, x, _, _, a1, rfl⟩
theorem put_ptr (k : List UInt8) (v : Int) (t : Tr) : (putT k v t).ptr = t.ptr := by
  cases t using Tr.cas with
  | nil => rfl
  | node b l q u x r => rw [put_node]; split; rfl; split <;> rfl
theorem put_hn (k : List UInt8) (v : Int) (t : Tr) : (putT k v t).hn = t.hn := by
  cases t using Tr.cas with
  | nil => rfl
  | node b l q u x r => rw [put_node]; split; rfl; split <;> rfl
theorem put_blocks (k : List UInt8) (v : Int) (t : Tr) : (putT k v t).blocks = t.blocks := by
  induction t using Tr.ind with
  | nil => rfl
  | node b l q u x r ihl ihr =>
    rw [put_node]
    split
    · simp only [Tr.blocks, ihl]
    · split
      · simp only [Tr.blocks, ihr]
      · rfl
theorem put_hk (k : List UInt8) (v : Int) {t : Tr} : Hk t → Hk (putT k v t) := by
  induction t using Tr.ind with
  | nil => exact fun _ => trivial
  | node b l q u x r ihl ihr =>
    intro h
    obtain ⟨h1, h2, h3⟩ := h
    rw [put_node]
    split
    · exact ⟨by rw [put_hn]; exact h1, ihl h2, h3⟩
    · split
      · exact ⟨by rw [put_hn]; exact h1, h2, ihr h3⟩
      · exact ⟨h1, h2, h3⟩
theorem put_toL {k : List UInt8} {v : Int} {t : Tr} : Srt t.toL → (findT k t).isSome = true → (putT k v t).toL = setF k v t.toL := by
  induction t using Tr.ind with
  | nil => intro _ h; cases h
  | node b l q u x r ihl ihr =>
    intro hs h
    obtain ⟨h1, h2, _, _⟩ := srt_parts hs
    rw [find_node] at h
    rw [put_node]
    simp only [Tr.toL]
    rw [set_parts hs]
    split
    · rename_i e; rw [if_pos e] at h; simp only [Tr.toL]; rw [ihl h1 h]
    · rename_i e
      rw [if_neg e] at h
      split
      · rename_i e2; rw [if_pos e2] at h; simp only [Tr.toL]; rw [ihr h2 h]
      · rename_i e2
        have : q = k := ltK_tri (by simpa using e2) (by simpa using e)
        subst this
        rfl
/-- A value is written. -/
theorem put_at {w : World} {k : List UInt8} {v : Int} {t : Tr} : ∀ {b : Nat}, TrAt nl t w → t.blocks.Nodup → findT k t = some b → TrAt nl (putT k v t) (w.setCell ⟨b, 1, none⟩ (.int .i64 v)) := by
  induction t using Tr.ind with
  | nil => intro b _ _ h; cases h
  | node c l q u x r ihl ihr =>
    intro b ha hn h
    obtain ⟨a1, a2, a3⟩ := ha
    simp only [Tr.blocks, List.nodup_cons, List.mem_append, not_or, List.nodup_append] at hn
    obtain ⟨⟨n1, n2⟩, n3, n4, n5⟩ := hn
    have hk := set_kept' w b 1 (.int .i64 v)
    rw [find_node] at h
    rw [put_node]
    split
    · rename_i e
      rw [if_pos e] at h
      have hb := find_in h
      refine ⟨?_, ihl a2 n3 h, TrAt.kept hk a3 (fun i hi e => n5 b hb i hi e.symm)⟩
      rw [put_ptr, hk.block c (Array.getElem?_eq_some_iff.1 a1).1 (fun e => n1 (e ▸ hb))]
      exact a1
    · rename_i e
      rw [if_neg e] at h
      split
      · rename_i e2
        rw [if_pos e2] at h
        have hb := find_in h
        refine ⟨?_, TrAt.kept hk a2 (fun i hi e => n5 i hi b hb e), ihr a3 n4 h⟩
        rw [put_ptr, hk.block c (Array.getElem?_eq_some_iff.1 a1).1 (fun e => n2 (e ▸ hb))]
        exact a1
      · rename_i e2
        rw [if_neg e2] at h
        injection h with h
        subst h
        exact ⟨block_set _ a1, TrAt.kept hk a2 (fun i hi e => n1 (e ▸ hi)), TrAt.kept hk a3 (fun i hi e => n2 (e ▸ hi))⟩
end Go.Proofs.Ytogkgibneddngaa
