/-
  Letters under way, plainly.
-/
import Derived.WalkKit
namespace Go.Proofs.Ytfpckkkicjndlaa

abbrev Tx := List UInt8
abbrev Kq := List Tx
/-- Where a raw number picks. -/
def pickN (raw : Int) (n : Nat) : Nat := (raw % (n : Int)).toNat
def sendF (s : Tx) (L : Kq) : Kq := if L.length < 200 then L ++ [s] else L
def sendB (L : Kq) : Bool := decide (L.length < 200)
def atF (raw : Int) (L : Kq) : Tx := L.getD (pickN raw L.length) []
def takeF (raw : Int) (L : Kq) : Kq := L.eraseIdx (pickN raw L.length)
def someB (L : Kq) : Bool := decide (0 < L.length)
def doubF (raw : Int) (L : Kq) : Kq := if 0 < L.length then sendF (atF raw L) L else L
def doubB (L : Kq) : Bool := someB L && sendB L
theorem pick_lt {raw : Int} {n : Nat} (h : 0 < n) : pickN raw n < n := by
  unfold pickN
  have h1 := Int.emod_nonneg raw (show (n : Int) ≠ 0 by omega)
  have h2 := Int.emod_lt_of_pos raw (show (0 : Int) < n by omega)
  omega
theorem pick_int {raw : Int} {n : Nat} (h : 0 < n) : ((pickN raw n : Nat) : Int) = raw % (n : Int) := by
  unfold pickN
  have h1 := Int.emod_nonneg raw (show (n : Int) ≠ 0 by omega)
  omega
/-- Go's remainder, and one round more where it is below nothing. -/
theorem tmod_pick {raw : Int} {n : Nat} (h : 0 < n) : (if raw.tmod n < 0 then raw.tmod n + n else raw.tmod n) = (pickN raw n : Int) := by
  rw [pick_int h]
  rw [Int.tmod_eq_emod]
  have h1 := Int.emod_nonneg raw (show (n : Int) ≠ 0 by omega)
  have h2 := Int.emod_lt_of_pos raw (show (0 : Int) < n by omega)
  split <;> split <;> simp_all <;> omega
theorem send_len (s : Tx) {L : Kq} (h : L.length ≤ 200) : (sendF s L).length ≤ 200 := by
  unfold sendF
  split
  · simp; omega
  · exact h
theorem take_len (raw : Int) {L : Kq} (h : L.length ≤ 200) : (takeF raw L).length ≤ 200 := by
  unfold takeF
  have := L.length_eraseIdx_le (pickN raw L.length)
  omega
theorem doub_len (raw : Int) {L : Kq} (h : L.length ≤ 200) : (doubF raw L).length ≤ 200 := by
  unfold doubF
  split
  · exact send_len _ h
  · exact h
theorem pick_zero (n : Nat) : pickN 0 n = 0 := by simp [pickN]
theorem take_first (s : Tx) (L : Kq) : takeF 0 (s :: L) = L := by simp [takeF, pick_zero]
theorem at_first (s : Tx) (L : Kq) : atF 0 (s :: L) = s := by simp [atF, pick_zero]
end Go.Proofs.Ytfpckkkicjndlaa
