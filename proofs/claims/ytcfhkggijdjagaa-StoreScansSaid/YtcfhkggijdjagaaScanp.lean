/-
  A scan goes through the items one by one, plain; pairs in rows.
-/
import Derived.Test.YtcfhkggijdjagaaIt
namespace Go.Proofs.Ytcfhkggijdjagaa
open Go.RowKit

def ds : List UInt8 × List Ve := ([], [])
theorem stk_snoc {S : Sk} {m : Nat} (h : m < S.length) : S.take (m + 1) = S.take m ++ [S.getD m ds] := by
  rw [List.take_add_one]
  simp [List.getD, h]
def accR (lo hi : List UInt8) (p l : Int) (S : Sk) (m : Nat) : List (List UInt8 × List UInt8) := scanR p l (rngS lo hi (S.take m))
theorem accR_zero (lo hi : List UInt8) (p l : Int) (S : Sk) : accR lo hi p l S 0 = [] := rfl
theorem accR_step {lo hi : List UInt8} {p l : Int} {S : Sk} {m : Nat} (h : m < S.length) : accR lo hi p l S (m + 1) = accR lo hi p l S m ++ (if inR lo hi (S.getD m ds).1 then (match seeF (S.getD m ds).2 p l with
    | some s => [((S.getD m ds).1, s)]
    | none => []) else []) := by
  unfold accR rngS scanR
  rw [stk_snoc h, List.filter_append, List.filterMap_append]
  congr 1
  by_cases e : inR lo hi (S.getD m ds).1 = true
  · rw [if_pos e]
    simp only [List.filter_cons, e, if_true, List.filter_nil, List.filterMap_cons, List.filterMap_nil]
    cases seeF (S.getD m ds).2 p l <;> rfl
  · rw [if_neg e]
    simp only [List.filter_cons, if_neg e, List.filter_nil, List.filterMap_nil]
theorem accR_pre (lo hi : List UInt8) (p l : Int) (S : Sk) (m : Nat) : ∃ R, scanR p l (rngS lo hi S) = accR lo hi p l S m ++ R := by
  refine ⟨scanR p l (rngS lo hi (S.drop m)), ?_⟩
  unfold accR scanR rngS
  rw [← List.filterMap_append, ← List.filter_append, List.take_append_drop]
/-- There are enough. -/
theorem accR_full {lo hi : List UInt8} {p l limit : Int} {S : Sk} {m : Nat} (h : (accR lo hi p l S m).length = (min limit 32).toNat) : scanS lo hi p l limit S = accR lo hi p l S m := by
  obtain ⟨R, hR⟩ := accR_pre lo hi p l S m
  unfold scanS
  rw [hR, ← h, List.take_left]
/-- All have been looked at. -/
theorem accR_end {lo hi : List UInt8} {p l limit : Int} {S : Sk} {m : Nat} (hm : S.length ≤ m) (h : (accR lo hi p l S m).length ≤ (min limit 32).toNat) : scanS lo hi p l limit S = accR lo hi p l S m := by
  unfold scanS accR at *
  rw [List.take_of_length_le hm] at *
  exact List.take_of_length_le h

/-- Pairs' cells. -/
def prc : List (List UInt8 × List UInt8) → List Value
  | [] => []
  | x :: r => [Value.string (bs x.1), .string (bs x.2)] ++ prc r
theorem prc_append (L R : List (List UInt8 × List UInt8)) : prc (L ++ R) = prc L ++ prc R := by
  induction L with
  | nil => rfl
  | cons x r ih => simp [prc, ih]
theorem prc_length (L : List (List UInt8 × List UInt8)) : (prc L).length = L.length * 2 := by
  induction L with
  | nil => rfl
  | cons x r ih => simp [prc, ih]; omega
theorem prc_one (L : List (List UInt8 × List UInt8)) : ∀ u ∈ prc L, u.oneCell' = true := by
  induction L with
  | nil => simp [prc]
  | cons x r ih =>
    intro u hu
    simp only [prc, List.cons_append, List.nil_append, List.mem_cons] at hu
    rcases hu with rfl | rfl | hu
    · rfl
    · rfl
    · exact ih u hu
def dp : List UInt8 × List UInt8 := ([], [])
theorem prc_at : ∀ (L : List (List UInt8 × List UInt8)) (i : Nat), i < L.length → (prc L)[i * 2]? = some (.string (bs (L.getD i dp).1)) ∧ (prc L)[i * 2 + 1]? = some (.string (bs (L.getD i dp).2))
  | x :: r, 0, _ => ⟨rfl, rfl⟩
  | x :: r, i + 1, h => by
    obtain ⟨h1, h2⟩ := prc_at r i (by simpa using h)
    rw [show (i + 1) * 2 = i * 2 + 1 + 1 from by omega]
    simp only [prc, List.cons_append, List.nil_append, List.getElem?_cons_succ]
    exact ⟨by simpa using h1, by simpa using h2⟩
theorem info59 : (Try.prog.info? 59).map (fun i => (i.zero, i.size, i.bytes)) = some (some (.agg #[.string ⟨#[]⟩, .string ⟨#[]⟩]), 2, 32) := by kernel_rfl
theorem pr_one (w : World) (k s : List UInt8) : RwAt (w.heap.size + 1) 2 (.slice (some ⟨w.heap.size, 0, none⟩) 1 1) 1 (prc [(k, s)]) (w.alloc (.cells #[.string (bs k), .string (bs s)] 59)) := by
  refine ⟨_, 1, rfl, rfl, Nat.le_refl _, by omega, fun _ => ⟨w.heap.size, 0, rfl, fun _ => Nat.lt_succ_self _, fun j u hj => ?_⟩⟩
  match j, hj with
  | 0, hj => simp [prc] at hj; subst hj; simp [go_sem]
  | 1, hj => simp [prc] at hj; subst hj; simp [go_sem]
  | j + 2, hj => simp [prc] at hj
theorem pr_ow {base n : Nat} {sa : Option Addr} {sc : Nat} {l : List (List UInt8 × List UInt8)} {w : World} (k s : List UInt8) (ho : w.ownsRow base 59 2 (.slice sa n sc) n (prc l)) (hb : base ≤ w.heap.size) (hl : n < 1000000) :
    Ow base 59 2 (.slice sa n sc) n (prc l) (w.heap.size + 1) (.slice (some ⟨w.heap.size, 0, none⟩) 1 1) 1 (prc [(k, s)]) (w.alloc (.cells #[.string (bs k), .string (bs s)] 59)) :=
  ⟨World.ownsRow.alloc ho _, pr_one w k s, prc_one _, Nat.le_trans hb (by simp), by omega⟩
end Go.Proofs.Ytcfhkggijdjagaa
