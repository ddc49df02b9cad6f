/-
  Plain facts on a number's form as bytes: how many bytes hold it, its digits at base 256, and that they tell it back, one way alone.
-/
import Derived.Lib.BitFns
import Derived.Lib.AppendStr
namespace Go.Proofs.Ytgmgceacdmcmlaa

/-- How many bytes hold n (0 of 0), with fuel. -/
def nbF : Nat → Nat → Nat
  | 0, _ => 0
  | f + 1, n => if n = 0 then 0 else nbF f (n / 256) + 1
theorem nbF_fuel : ∀ f g n, n ≤ f → n ≤ g → nbF f n = nbF g n := by
  intro f
  induction f with
  | zero =>
    intro g n hf hg
    have h0 : n = 0 := by omega
    subst h0
    cases g <;> simp [nbF]
  | succ f ih =>
    intro g n hf hg
    by_cases h0 : n = 0
    · subst h0; cases g <;> simp [nbF]
    · cases g with
      | zero => omega
      | succ g => simp only [nbF, if_neg h0]; rw [ih g (n / 256) (by omega) (by omega)]
/-- How many bytes hold n (0 of 0). -/
def nb (n : Nat) : Nat := nbF n n

theorem nb_zero : nb 0 = 0 := rfl
theorem nb_pos {n : Nat} (h : n ≠ 0) : nb n = nb (n / 256) + 1 := by
  obtain ⟨m, rfl⟩ : ∃ m, n = m + 1 := ⟨n - 1, by omega⟩
  show nbF (m + 1) (m + 1) = _
  rw [nbF, if_neg h, nbF_fuel m ((m + 1) / 256) _ (by omega) (Nat.le_refl _)]
  rfl

/-- The bytes that hold n, the highest first, with fuel. -/
def dgF : Nat → Nat → List UInt8
  | 0, _ => []
  | f + 1, n => if n = 0 then [] else dgF f (n / 256) ++ [UInt8.ofNat (n % 256)]
theorem dgF_fuel : ∀ f g n, n ≤ f → n ≤ g → dgF f n = dgF g n := by
  intro f
  induction f with
  | zero =>
    intro g n hf hg
    have h0 : n = 0 := by omega
    subst h0
    cases g <;> simp [dgF]
  | succ f ih =>
    intro g n hf hg
    by_cases h0 : n = 0
    · subst h0; cases g <;> simp [dgF]
    · cases g with
      | zero => omega
      | succ g => simp only [dgF, if_neg h0]; rw [ih g (n / 256) (by omega) (by omega)]
/-- The bytes that hold n, the highest first. -/
def dg (n : Nat) : List UInt8 := dgF n n

theorem dg_zero : dg 0 = [] := rfl
theorem dg_pos {n : Nat} (h : n ≠ 0) : dg n = dg (n / 256) ++ [UInt8.ofNat (n % 256)] := by
  obtain ⟨m, rfl⟩ : ∃ m, n = m + 1 := ⟨n - 1, by omega⟩
  show dgF (m + 1) (m + 1) = _
  rw [dgF, if_neg h, dgF_fuel m ((m + 1) / 256) _ (by omega) (Nat.le_refl _)]
  rfl

theorem dg_length (n : Nat) : (dg n).length = nb n := by
  induction n using Nat.strongRecOn with
  | ind n ih =>
    by_cases h : n = 0
    · subst h; rw [dg_zero, nb_zero]; rfl
    · rw [dg_pos h, nb_pos h, List.length_append, ih (n / 256) (by omega)]; rfl

theorem nb_bits (n : Nat) (hn : n < 18446744073709551616) : (Lib.bitLen n + 7) / 8 = nb n := by
  induction n using Nat.strongRecOn with
  | ind n ih =>
    by_cases h : n = 0
    · subst h; rw [nb_zero]; rfl
    · by_cases h2 : 256 ≤ n
      · rw [Lib.bitLen_shift8 n h2 hn, nb_pos h, ← ih (n / 256) (by omega) (by omega)]; omega
      · have h8 := Lib.bitLen_le n 8 (by omega) (by omega)
        have h1 := Lib.bitLen_half n h (by omega)
        rw [nb_pos h, show n / 256 = 0 by omega, nb_zero]; omega

theorem nb_le (k : Nat) : ∀ n, n < 256 ^ k → nb n ≤ k := by
  induction k with
  | zero => intro n h; simp at h; subst h; rw [nb_zero]; exact Nat.le_refl _
  | succ k ih =>
    intro n h
    by_cases h0 : n = 0
    · subst h0; rw [nb_zero]; omega
    · rw [nb_pos h0]
      have := ih (n / 256) (by rw [Nat.pow_succ] at h; omega)
      omega

theorem nb_le8 {n : Nat} (h : n < 18446744073709551616) : nb n ≤ 8 := nb_le 8 n (by omega)

theorem nb_mono {a : Nat} : ∀ {b : Nat}, a ≤ b → nb a ≤ nb b := by
  induction a using Nat.strongRecOn with
  | ind a ih =>
    intro b h
    by_cases h0 : a = 0
    · subst h0; rw [nb_zero]; omega
    · rw [nb_pos h0, nb_pos (show b ≠ 0 by omega)]
      have := ih (a / 256) (by omega) (b := b / 256) (by omega)
      omega

/-- How many bytes n's form takes. -/
def sz (n : Nat) : Nat := if n ≤ 247 then 1 else 1 + nb n

/-- n's form. -/
def numForm (n : Nat) : List UInt8 := if n ≤ 247 then [UInt8.ofNat n] else UInt8.ofNat (247 + nb n) :: dg n

theorem numForm_length (n : Nat) : (numForm n).length = sz n := by
  unfold numForm sz
  split
  · rfl
  · rw [List.length_cons, dg_length]; omega

theorem sz_pos (n : Nat) : 1 ≤ sz n := by unfold sz; split <;> omega
theorem sz_le {n : Nat} (h : n < 18446744073709551616) : sz n ≤ 9 := by
  unfold sz
  have := nb_le8 h
  split <;> omega

/-- What bytes tell as a number, the highest first. -/
def vl (l : List UInt8) : Nat := l.foldl (fun a c => a * 256 + c.toNat) 0
theorem vl_nil : vl [] = 0 := rfl
theorem vl_snoc (l : List UInt8) (c : UInt8) : vl (l ++ [c]) = vl l * 256 + c.toNat := by simp [vl]

theorem u8_of (k : Nat) (h : k < 256) : (UInt8.ofNat k).toNat = k := by rw [UInt8.toNat_ofNat']; omega
theorem u8_lt (c : UInt8) : c.toNat < 256 := c.toNat_lt

theorem vl_dg (n : Nat) : vl (dg n) = n := by
  induction n using Nat.strongRecOn with
  | ind n ih =>
    by_cases h : n = 0
    · subst h; rw [dg_zero]; rfl
    · rw [dg_pos h, vl_snoc, ih (n / 256) (by omega), u8_of _ (by omega)]; omega

theorem vl_lt (l : List UInt8) : vl l < 256 ^ l.length := by
  generalize hk : l.length = k
  induction k generalizing l with
  | zero => rw [List.length_eq_zero_iff.1 hk]; decide
  | succ k ih =>
    have hne : l ≠ [] := by intro h; subst h; simp at hk
    obtain ⟨x, c, rfl⟩ : ∃ x c, l = x ++ [c] := ⟨l.dropLast, l.getLast hne, (List.dropLast_concat_getLast hne).symm⟩
    have := ih x (by simpa using hk)
    have := u8_lt c
    rw [vl_snoc, Nat.pow_succ]
    omega

theorem dg_vl (l : List UInt8) (h : l.length = nb (vl l)) : dg (vl l) = l := by
  generalize hk : l.length = k
  induction k generalizing l with
  | zero => rw [List.length_eq_zero_iff.1 hk, vl_nil, dg_zero]
  | succ k ih =>
    have hne : l ≠ [] := by intro h; subst h; simp at hk
    obtain ⟨x, c, rfl⟩ : ∃ x c, l = x ++ [c] := ⟨l.dropLast, l.getLast hne, (List.dropLast_concat_getLast hne).symm⟩
    have hc := u8_lt c
    have h0 : vl (x ++ [c]) ≠ 0 := by intro h0; rw [h0, nb_zero] at h; omega
    have hd : vl (x ++ [c]) / 256 = vl x := by rw [vl_snoc]; omega
    have hm : vl (x ++ [c]) % 256 = c.toNat := by rw [vl_snoc]; omega
    rw [nb_pos h0, hd, List.length_append] at h
    rw [dg_pos h0, hd, hm, ih x (by simpa using h) (by simpa using hk)]
    simp

/-- The digits so far: one more. -/
theorem dg_step (n f : Nat) (h : f < nb n) : dg (n / 256 ^ f) = dg (n / 256 ^ (f + 1)) ++ [UInt8.ofNat (n / 256 ^ f % 256)] := by
  have h0 : n / 256 ^ f ≠ 0 := by
    intro h0
    have hp : 0 < 256 ^ f := Nat.pow_pos (by decide)
    have := nb_le f n ((Nat.div_eq_zero_iff_lt hp).1 h0)
    omega
  rw [dg_pos h0, Nat.div_div_eq_div_mul, ← Nat.pow_succ]

theorem dg_all (n : Nat) : dg (n / 256 ^ nb n) = [] := by
  have : n / 256 ^ nb n = 0 := by
    apply Nat.div_eq_of_lt
    have := vl_lt (dg n)
    rwa [vl_dg, dg_length] at this
  rw [this, dg_zero]

/-- A text of these bytes. -/
def bs (l : List UInt8) : ByteArray := ⟨l.toArray⟩
theorem bs_data (l : List UInt8) : (bs l).data.toList = l := by simp [bs]
theorem bs_of (s : ByteArray) : bs s.data.toList = s := by cases s; simp [bs]
theorem bs_size (l : List UInt8) : (bs l).size = l.length := by simp [bs, ByteArray.size]
theorem bs_inj {l r : List UInt8} (h : bs l = bs r) : l = r := by have := congrArg (fun s => s.data.toList) h; simpa [bs] using this
theorem bs_nil : bs [] = ⟨#[]⟩ := rfl

/-- The cells of these bytes. -/
def cl (l : List UInt8) : List Value := l.map fun c => Value.int .u8 c.toNat
theorem cl_length (l : List UInt8) : (cl l).length = l.length := by simp [cl]
theorem cl_append (l r : List UInt8) : cl (l ++ r) = cl l ++ cl r := by simp [cl]
theorem cl_one (k : Nat) (h : k < 256) : cl [UInt8.ofNat k] = [Value.int .u8 k] := by simp only [cl, List.map_cons, List.map_nil, u8_of k h]
theorem strCells_bs (s : ByteArray) : Lib.strCells s = cl s.data.toList := rfl

end Go.Proofs.Ytgmgceacdmcmlaa
