/-
  Plain facts on the sum of bytes: bit by bit, one byte that is another gives another sum.
-/
import Derived.Laws.BitsAllLaws
namespace Go.Proofs.Ytjjdmeemhgopbaa

/-- One bit further. -/
def turn1 (x : Nat) : Nat := if x % 2 = 1 then x / 2 ^^^ 2197175160 else x / 2
/-- k bits further. -/
def turns : Nat → Nat → Nat
  | 0, x => x
  | k + 1, x => turns k (turn1 x)
/-- One byte further. -/
def turnB (x : Nat) (c : UInt8) : Nat := turns 8 (x ^^^ c.toNat)
/-- From x on, all bytes. -/
def crcF (x : Nat) (l : List UInt8) : Nat := l.foldl turnB x
/-- The sum. -/
def crc (l : List UInt8) : Nat := crcF 4294967295 l ^^^ 4294967295

theorem turn1_lt {x : Nat} (h : x < 4294967296) : turn1 x < 4294967296 := by
  unfold turn1
  split
  · exact Nat.xor_lt_two_pow (n := 32) (by omega) (by omega)
  · omega
theorem turns_lt (k : Nat) : ∀ {x : Nat}, x < 4294967296 → turns k x < 4294967296 := by
  induction k with
  | zero => intro x h; exact h
  | succ k ih => intro x h; exact ih (turn1_lt h)
theorem turns_succ (k : Nat) : ∀ x, turns (k + 1) x = turn1 (turns k x) := by
  induction k with
  | zero => intro x; rfl
  | succ k ih => intro x; rw [turns, ih, turns]
theorem xorB_lt {x : Nat} (c : UInt8) (h : x < 4294967296) : x ^^^ c.toNat < 4294967296 := Nat.xor_lt_two_pow (n := 32) (by omega) (by have := c.toNat_lt; omega)
theorem turnB_lt {x : Nat} (c : UInt8) (h : x < 4294967296) : turnB x c < 4294967296 := turns_lt 8 (xorB_lt c h)
theorem crcF_lt (l : List UInt8) : ∀ {x : Nat}, x < 4294967296 → crcF x l < 4294967296 := by
  induction l with
  | nil => intro x h; exact h
  | cons c r ih => intro x h; exact ih (turnB_lt c h)
theorem crc_lt (l : List UInt8) : crc l < 4294967296 := Nat.xor_lt_two_pow (n := 32) (by have := crcF_lt l (x := 4294967295) (by omega); omega) (by omega)
theorem crcF_snoc (x : Nat) (l : List UInt8) (c : UInt8) : crcF x (l ++ [c]) = turnB (crcF x l) c := by simp [crcF]

theorem xor_can {a b k : Nat} (h : a ^^^ k = b ^^^ k) : a = b := by
  have := congrArg (fun z => z ^^^ k) h
  simpa [Nat.xor_assoc] using this

theorem turn1_inj {x y : Nat} (hx : x < 4294967296) (hy : y < 4294967296) (h : turn1 x = turn1 y) : x = y := by
  have key : ∀ a b : Nat, a < 2147483648 → b < 2147483648 → a ^^^ 2197175160 ≠ b := by
    intro a b ha hb e
    have h1 := congrArg (fun z => z.testBit 31) e
    have h2 : a.testBit 31 = false := Nat.testBit_lt_two_pow (by omega)
    have h3 : b.testBit 31 = false := Nat.testBit_lt_two_pow (by omega)
    have h4 : Nat.testBit 2197175160 31 = true := by decide
    simp only [Nat.testBit_xor, h2, h3, h4] at h1
    simp at h1
  unfold turn1 at h
  split at h <;> split at h
  · have := xor_can h; omega
  · exact absurd h (key _ _ (by omega) (by omega))
  · exact absurd h.symm (key _ _ (by omega) (by omega))
  · omega
theorem turns_inj (k : Nat) : ∀ {x y : Nat}, x < 4294967296 → y < 4294967296 → turns k x = turns k y → x = y := by
  induction k with
  | zero => intro x y _ _ h; exact h
  | succ k ih => intro x y hx hy h; exact turn1_inj hx hy (ih (turn1_lt hx) (turn1_lt hy) h)
theorem turnB_inj {x y : Nat} (c : UInt8) (hx : x < 4294967296) (hy : y < 4294967296) (h : turnB x c = turnB y c) : x = y :=
  xor_can (turns_inj 8 (xorB_lt c hx) (xorB_lt c hy) h)
theorem turnB_byte {x : Nat} {c d : UInt8} (hx : x < 4294967296) (h : turnB x c = turnB x d) : c = d := by
  have := turns_inj 8 (xorB_lt c hx) (xorB_lt d hx) h
  rw [Nat.xor_comm x, Nat.xor_comm x] at this
  exact UInt8.toNat.inj (xor_can this)
theorem crcF_inj (l : List UInt8) : ∀ {x y : Nat}, x < 4294967296 → y < 4294967296 → crcF x l = crcF y l → x = y := by
  induction l with
  | nil => intro x y _ _ h; exact h
  | cons c r ih => intro x y hx hy h; exact turnB_inj c hx hy (ih (turnB_lt c hx) (turnB_lt c hy) h)

/-- One byte that is another one gives another sum. -/
theorem crc_one (a b : List UInt8) (c d : UInt8) (h : crc (a ++ c :: b) = crc (a ++ d :: b)) : c = d := by
  have h1 := xor_can h
  simp only [crcF, List.foldl_append, List.foldl_cons] at h1
  have hx := crcF_lt a (x := 4294967295) (by omega)
  exact turnB_byte hx (crcF_inj b (turnB_lt c hx) (turnB_lt d hx) h1)

theorem crc_set (l : List UInt8) (i : Nat) (d : UInt8) (h : i < l.length) (hc : crc (l.set i d) = crc l) : d = l[i] := by
  have e1 : l = l.take i ++ l[i] :: l.drop (i + 1) := by simp
  have e2 : l.set i d = l.take i ++ d :: l.drop (i + 1) := by rw [List.set_eq_take_append_cons_drop, if_pos h]
  rw [e2] at hc
  conv at hc => rhs; rw [e1]
  exact crc_one _ _ _ _ hc

theorem crc_nil : crc [] = 0 := by decide
set_option maxRecDepth 100000 in
theorem crc_nine : crc [49, 50, 51, 52, 53, 54, 55, 56, 57] = 3808858755 := by decide

end Go.Proofs.Ytjjdmeemhgopbaa
