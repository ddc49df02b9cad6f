/-
  Writes by shards, plainly; rows of rows of writes.
-/
import Derived.Test.YtdiellljplcjfaaWs
namespace Go.Proofs.Ytdiellljplcjfaa
open Go.RowKit Go.Sort

/-- The writes that live at shard k. -/
def ownF (l : List Wr) (n k : Int) : List Wr := l.filter fun x => shardF x.key n == (k, 0)
/-- Writes by shards. -/
def splitF (l : List Wr) (n : Int) : List (List Wr) := if 1 ≤ n ∧ n ≤ 8 then (List.range n.toNat).map (fun k : Nat => ownF l n (k : Int)) else []
/-- Which rows hold something, a bit each, from bit m on. -/
def bitsF : Nat → List (List Wr) → Nat
  | _, [] => 0
  | m, r :: L => (if r.isEmpty then 0 else 2 ^ m) ||| bitsF (m + 1) L
def bitsL (L : List (List Wr)) : Nat := bitsF 0 L
theorem bitsF_app (L R : List (List Wr)) : ∀ m, bitsF m (L ++ R) = bitsF m L ||| bitsF (m + L.length) R := by
  induction L with
  | nil => intro m; simp [bitsF]
  | cons r L ih =>
    intro m
    show (if r.isEmpty then 0 else 2 ^ m) ||| bitsF (m + 1) (L ++ R) = ((if r.isEmpty then 0 else 2 ^ m) ||| bitsF (m + 1) L) ||| _
    rw [ih, List.length_cons, Nat.or_assoc, show m + 1 + L.length = m + (L.length + 1) by omega]
theorem bits_step {L : List (List Wr)} {m : Nat} (h : m < L.length) : bitsL (L.take (m + 1)) = bitsL (L.take m) ||| (if (L.getD m []).isEmpty then 0 else 2 ^ m) := by
  unfold bitsL
  have hl : (L.take m).length = m := by rw [List.length_take]; omega
  rw [List.take_succ_eq_append_getElem h, bitsF_app, hl, Nat.zero_add, show L.getD m [] = L[m] from by simp [List.getD, h]]
  simp [bitsF]
theorem bits_lt (L : List (List Wr)) : ∀ m, bitsF m L < 2 ^ (m + L.length) := by
  induction L with
  | nil => intro m; exact Nat.two_pow_pos _
  | cons r L ih =>
    intro m
    unfold bitsF
    rw [List.length_cons]
    have h1 := ih (m + 1)
    rw [show m + 1 + L.length = m + (L.length + 1) by omega] at h1
    refine Nat.or_lt_two_pow ?_ h1
    split
    · exact Nat.two_pow_pos _
    · exact Nat.pow_lt_pow_right (by decide) (by omega)
theorem bitsL_lt {L : List (List Wr)} (h : L.length ≤ 8) : bitsL L < 256 := by
  have := bits_lt L 0
  rw [Nat.zero_add] at this
  exact Nat.lt_of_lt_of_le this (show 2 ^ L.length ≤ 2 ^ 8 from Nat.pow_le_pow_right (by decide) h)
theorem split_len (l : List Wr) (n : Int) : (splitF l n).length ≤ 8 := by
  unfold splitF
  split
  · simp; omega
  · simp
/-- Rows of writes at a slice of slices. -/
def SsAt (v : Value) (L : List (List Wr)) (W : World) : Prop :=
  ∃ vs : List Value, vs.length = L.length ∧ RwAt W.heap.size 1 v L.length vs W ∧ ∀ i, i < L.length → WsAt W.heap.size (vs.getD i (.slice none 0 0)) (L.getD i []) W
theorem SsAt.on {v : Value} {L : List (List Wr)} {W W' : World} (h : SsAt v L W) (hb : Below W.heap.size W W') : SsAt v L W' := by
  obtain ⟨vs, h1, h2, h3⟩ := h
  exact ⟨vs, h1, RwAt.le (RwAt.on h2 hb) hb.size, fun i hi => RwAt.le ((h3 i hi).on hb) hb.size⟩
theorem SsAt.shape {v : Value} {L : List (List Wr)} {W : World} (h : SsAt v L W) : ∃ ao cap, v = .slice ao L.length cap ∧ L.length ≤ cap ∧ cap ≤ 9223372036854775807 := by
  obtain ⟨vs, _, ⟨ao, cap, e, _, h1, h2, _⟩, _⟩ := h
  exact ⟨ao, cap, e, h1, h2⟩
theorem SsAt.row {ao : Option Addr} {cap : Nat} {L : List (List Wr)} {W : World} (h : SsAt (.slice ao L.length cap) L W) {i : Nat} (hi : i < L.length) : ∃ b off ai ci, ao = some ⟨b, off, none⟩ ∧ W.cell? ⟨b, off + i, none⟩ = some (.slice ai (L.getD i []).length ci) ∧ WsAt W.heap.size (.slice ai (L.getD i []).length ci) (L.getD i []) W := by
  obtain ⟨vs, h1, h2, h3⟩ := h
  have hlt : i < vs.length := by omega
  obtain ⟨b, off, e, _, hc⟩ := RwAt.cellAt h2 (j := i) hlt
  have h4 := h3 i hi
  obtain ⟨ai, ci, e4, _⟩ := h4.shape
  rw [e4] at h4
  refine ⟨b, off, ai, ci, e, ?_, h4⟩
  rw [hc i (vs.getD i (.slice none 0 0)) (by simp [List.getD, hlt]), e4]
theorem run_neq40 (a : Wr) (w : World) : (binOp .neq 40 (.agg #[.string (bs a.key), .string (bs a.val), .bool a.dead]) (.agg #[.string (bs a.key), .string (bs a.val), .bool a.dead])).run Try.prog w = .ok (.bool false) w := by
  simp [go_sem]
/-- What the laws ask of the program's Split and Parts. -/
structure Ifq : Prop where
  p : Ifp
  sp : ∀ (l : List Wr) (ao : Option Addr) (cp : Nat) (n : Int) (w : World), l.length ≤ 1000 → (∀ x ∈ l, x.key.length ≤ 140737488355328) → -9223372036854775808 ≤ n → n ≤ 9223372036854775807 → WsAt w.heap.size (.slice ao l.length cp) l w → Calls Try.prog 15 #[.slice ao l.length cp, .int .i64 n] w fun r w' => (∃ v, r = .returned v ∧ SsAt v (splitF l n) w') ∧ Below w.heap.size w w'
  pa : ∀ (l : List Wr) (ao : Option Addr) (cp : Nat) (n : Int) (w : World), l.length ≤ 1000 → (∀ x ∈ l, x.key.length ≤ 140737488355328) → -9223372036854775808 ≤ n → n ≤ 9223372036854775807 → WsAt w.heap.size (.slice ao l.length cp) l w → Calls Try.prog 17 #[.slice ao l.length cp, .int .i64 n] w fun r w' => r = .returned (.int .u8 (bitsL (splitF l n) : Int)) ∧ Below w.heap.size w w'
end Go.Proofs.Ytdiellljplcjfaa
