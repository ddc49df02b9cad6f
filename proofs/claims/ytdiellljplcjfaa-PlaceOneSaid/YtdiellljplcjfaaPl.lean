/-
  Walks of the plane, plainly: step by step; two texts one behind the other; bounds; shards and nodes.
-/
namespace Go.Proofs.Ytdiellljplcjfaa

def stepW (p : Int × Int) (b : UInt8) : Int × Int := (-p.2 + b.toNat + 1, p.1)
def walkL (l : List UInt8) (p : Int × Int) : Int × Int := l.foldl stepW p
/-- The walk of a text's first 32 bytes. -/
def walkF (key : List UInt8) : Int × Int := walkL (key.take 32) (0, 0)
def rot (p : Int × Int) : Int × Int := (-p.2, p.1)
def rotN : Nat → Int × Int → Int × Int
  | 0, p => p
  | n + 1, p => rotN n (rot p)
def addP (p q : Int × Int) : Int × Int := (p.1 + q.1, p.2 + q.2)
theorem walk_nil (p : Int × Int) : walkL [] p = p := rfl
theorem walk_cons (b : UInt8) (l : List UInt8) (p : Int × Int) : walkL (b :: l) p = walkL l (stepW p b) := rfl
theorem walk_app (a b : List UInt8) (p : Int × Int) : walkL (a ++ b) p = walkL b (walkL a p) := List.foldl_append
theorem walk_snoc (l : List UInt8) (b : UInt8) (p : Int × Int) : walkL (l ++ [b]) p = stepW (walkL l p) b := by rw [walk_app]; rfl
theorem rot_add (p q : Int × Int) : rot (addP p q) = addP (rot p) (rot q) := by
  unfold rot addP
  simp only [Prod.mk.injEq, and_true]
  omega
theorem step_add (p q : Int × Int) (b : UInt8) : stepW (addP p q) b = addP (rot p) (stepW q b) := by
  unfold stepW rot addP
  simp only [Prod.mk.injEq, and_true]
  omega
theorem walk_lin (l : List UInt8) : ∀ p q, walkL l (addP p q) = addP (rotN l.length p) (walkL l q) := by
  induction l with
  | nil => intro p q; rfl
  | cons b l ih =>
    intro p q
    rw [walk_cons, step_add, ih]
    rfl
theorem addP_zero (p : Int × Int) : addP p (0, 0) = p := by simp [addP]
/-- The walk of two texts, one behind the other. -/
theorem walk_two (a b : List UInt8) : walkL (a ++ b) (0, 0) = addP (rotN b.length (walkL a (0, 0))) (walkL b (0, 0)) := by
  rw [walk_app]
  have := walk_lin b (walkL a (0, 0)) (0, 0)
  rw [addP_zero] at this
  exact this
theorem rot_four (p : Int × Int) : rot (rot (rot (rot p))) = p := by
  unfold rot
  simp
theorem rotN_add (m n : Nat) : ∀ p, rotN (m + n) p = rotN n (rotN m p) := by
  induction m with
  | zero => intro p; rw [Nat.zero_add]; rfl
  | succ m ih => intro p; rw [Nat.add_right_comm]; exact ih (rot p)
theorem rotN_succ (n : Nat) (p : Int × Int) : rotN (n + 1) p = rot (rotN n p) := by rw [rotN_add]; rfl
theorem rotN_four (k : Nat) : ∀ p, rotN (4 * k) p = p := by
  induction k with
  | zero => intro p; rfl
  | succ k ih => intro p; rw [Nat.mul_succ, rotN_add, ih]; exact rot_four p
theorem rotN_mod (n : Nat) (p : Int × Int) : rotN (n % 4) p = rotN n p := by
  have : rotN (4 * (n / 4) + n % 4) p = rotN (n % 4) p := by rw [rotN_add, rotN_four]
  rw [Nat.div_add_mod] at this
  exact this.symm
/-- No walk of so many steps comes further. -/
theorem walk_bound (l : List UInt8) : ∀ p : Int × Int, ∀ k : Nat, p.1.natAbs ≤ k → p.2.natAbs ≤ k → (walkL l p).1.natAbs ≤ k + 256 * l.length ∧ (walkL l p).2.natAbs ≤ k + 256 * l.length := by
  induction l with
  | nil => intro p k h1 h2; exact ⟨h1, h2⟩
  | cons b l ih =>
    intro p k h1 h2
    have hb : b.toNat < 256 := UInt8.toNat_lt b
    have := ih (stepW p b) (k + 256) (by unfold stepW; simp only; omega) (by unfold stepW; simp only; omega)
    rw [walk_cons, List.length_cons]
    omega
theorem walkF_bound (key : List UInt8) : (walkF key).1.natAbs ≤ 8192 ∧ (walkF key).2.natAbs ≤ 8192 := by
  have := walk_bound (key.take 32) (0, 0) 0 (by decide) (by decide)
  have hl : (key.take 32).length ≤ 32 := by rw [List.length_take]; omega
  unfold walkF
  omega
theorem walkF_short {key : List UInt8} (h : key.length ≤ 32) : walkF key = walkL key (0, 0) := by
  unfold walkF
  rw [List.take_of_length_le h]
def keyB (key : List UInt8) : Bool := decide (1 ≤ key.length) && decide (key.length ≤ 32)
/-- Where a key lives: the shard, the code. -/
def shardF (key : List UInt8) (n : Int) : Int × Int :=
  if keyB key = true ∧ 1 ≤ n ∧ n ≤ 8 then ((3 * (walkF key).1 + 5 * (walkF key).2) % n, 0) else (0, 1)
/-- Where a shard lives. -/
def nodeF (s n : Int) : Int × Int := if 0 ≤ s ∧ s ≤ 7 ∧ 1 ≤ n ∧ n ≤ 4 then (s % n, 0) else (0, 1)
theorem shard_range (key : List UInt8) (n : Int) : (shardF key n).2 = 0 → 0 ≤ (shardF key n).1 ∧ (shardF key n).1 < n := by
  unfold shardF
  split
  · rename_i h
    intro _
    exact ⟨Int.emod_nonneg _ (by omega), Int.emod_lt_of_pos _ (by omega)⟩
  · intro h
    simp at h
theorem shard_code (key : List UInt8) (n : Int) : (shardF key n).2 = 0 ∧ (keyB key = true ∧ 1 ≤ n ∧ n ≤ 8) ∨ (shardF key n) = (0, 1) ∧ ¬ (keyB key = true ∧ 1 ≤ n ∧ n ≤ 8) := by
  unfold shardF
  by_cases h : keyB key = true ∧ 1 ≤ n ∧ n ≤ 8
  · rw [if_pos h]; exact .inl ⟨rfl, h⟩
  · rw [if_neg h]; exact .inr ⟨rfl, h⟩
theorem node_code (s n : Int) : ((nodeF s n).2 = 0 ∧ (nodeF s n).1 = s % n ∧ 0 ≤ s ∧ s ≤ 7 ∧ 1 ≤ n ∧ n ≤ 4) ∨ nodeF s n = (0, 1) := by
  unfold nodeF
  by_cases h : 0 ≤ s ∧ s ≤ 7 ∧ 1 ≤ n ∧ n ≤ 4
  · rw [if_pos h]; exact .inl ⟨rfl, rfl, h⟩
  · rw [if_neg h]; exact .inr rfl
/-- The remainder of Go, made nonnegative. -/
theorem rem_up (a n : Int) (h : 1 ≤ n) : (if a.tmod n < 0 then a.tmod n + n else a.tmod n) = a % n := by
  have h1 := Int.tmod_eq_emod (a := a) (b := n)
  have h2 := Int.emod_nonneg a (show n ≠ 0 by omega)
  have h3 := Int.emod_lt_of_pos a (show 0 < n by omega)
  rw [h1]
  have h4 : (n.natAbs : Int) = n := by omega
  split <;> split <;> omega
end Go.Proofs.Ytdiellljplcjfaa
