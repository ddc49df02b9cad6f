/-
  The program's Right: comparisons with nothing.
-/
import Derived.Test.YtmgjlpgjjeknpaaHa
import Derived.Test.YtmgjlpgjjeknpaaRi
import Derived.Test.YtmgjlpgjjeknpaaRp
namespace Go.Proofs.Ytmgjlpgjjeknpaa
open Go.RowKit Go.Sort

theorem run_eql9z (l : List UInt8) (w : World) : (binOp .eql 9 (.string (bs l)) (.string ⟨#[]⟩)).run Try.prog w = .ok (.bool l.isEmpty) w := by
  have hl : (bs l).toList = l := bs_list l
  cases l with
  | nil => simp [go_sem, hl]
  | cons a r => simp [go_sem, hl]
theorem run_eql5z (n : Nat) (w : World) : (binOp .eql 5 (.int .u8 (n : Int)) (.int .u8 0)).run Try.prog w = .ok (.bool (n == 0)) w := by
  rw [← nat_beq n 0]
  by_cases h : (n : Int) = 0 <;> simp [go_sem, h]
theorem len_emp (l : List Wr) : ((l.length : Int) == 0) = l.isEmpty := by
  cases l with
  | nil => rfl
  | cons a r =>
    simp only [List.length_cons, List.isEmpty_cons, beq_eq_false_iff_ne]
    omega
theorem run_eql3z (l : List Wr) (w : World) : (binOp .eql 3 (.int .i64 (l.length : Int)) (.int .i64 0)).run Try.prog w = .ok (.bool l.isEmpty) w := by
  have : l.isEmpty = (l.length == 0) := by cases l <;> rfl
  rw [this, ← nat_beq l.length 0]
  by_cases h : (l.length : Int) = 0 <;> simp [go_sem, h]
end Go.Proofs.Ytmgjlpgjjeknpaa
