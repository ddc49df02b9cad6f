/-
  VerdictOrder, plain: verdicts of unlike transactions, set in any order, are the same book.
-/
import Derived.Test.YtkadaoebehgkbaaPlain
namespace Go.Proofs.Ytkadaoebehgkbaa

def Dst (L : Bk) : Prop := ∀ x ∈ L, ∀ y ∈ L, x.c = y.c → x.n = y.n → x = y
/-- K has those of S that may be set. -/
def Has (S K : Bk) : Prop := ∀ x, x ∈ K ↔ x ∈ S ∧ okV x = true
theorem has_nil : Has [] [] := fun x => by simp
theorem has_set {L S K : Bk} {v : Vd} (hd : Dst L) (hS : ∀ x ∈ S, x ∈ L) (hv : v ∈ L) (h : Has S K) : Has (v :: S) (setB v K).1 := fun x => by
  unfold setB
  by_cases hok : okV v = true
  · rw [if_pos hok]
    split
    · rename_i o ho
      obtain ⟨h1, h2, h3⟩ := get_mem ho
      have h4 := (h o).1 h1
      have : o = v := hd o (hS o h4.1) v hv h2 h3
      subst this
      dsimp only
      rw [h x, List.mem_cons]
      constructor
      · exact fun e => ⟨.inr e.1, e.2⟩
      · rintro ⟨rfl | e, e2⟩
        · exact h4
        · exact ⟨e, e2⟩
    · dsimp only
      rw [ins_mem, h x, List.mem_cons]
      constructor
      · rintro (rfl | e)
        · exact ⟨.inl rfl, hok⟩
        · exact ⟨.inr e.1, e.2⟩
      · rintro ⟨rfl | e, e2⟩
        · exact .inl rfl
        · exact .inr ⟨e, e2⟩
  · rw [if_neg hok]
    dsimp only
    rw [h x, List.mem_cons]
    constructor
    · exact fun e => ⟨.inr e.1, e.2⟩
    · rintro ⟨rfl | e, e2⟩
      · exact absurd e2 hok
      · exact ⟨e, e2⟩
theorem has_same {S T K M : Bk} (hs : SrtV K) (ht : SrtV M) (h : Has S K) (g : Has T M) (hm : ∀ x, x ∈ S ↔ x ∈ T) : K = M := srt_ext hs ht (fun x => by rw [h x, g x, hm x])
/-- Those set so far, in order; and turned about. -/
def dv0 : Vd := ⟨0, 0, 0, 0, 0, 0, 0, false⟩
def fwd (L : Bk) : Nat → Bk
  | 0 => []
  | i + 1 => L.getD i dv0 :: fwd L i
def bwd (L : Bk) (k : Nat) : Nat → Bk
  | 0 => []
  | i + 1 => L.getD ((L.length - 1 - i + k) % L.length) dv0 :: bwd L k i
theorem getD_mem {L : Bk} {i : Nat} (h : i < L.length) : L.getD i dv0 ∈ L := by
  rw [List.getD, List.getElem?_eq_getElem h]
  exact List.getElem_mem h
theorem mem_fwd {L : Bk} {x : Vd} : ∀ {i : Nat}, x ∈ fwd L i ↔ ∃ j, j < i ∧ x = L.getD j dv0
  | 0 => by simp [fwd]
  | i + 1 => by
    rw [fwd, List.mem_cons, mem_fwd]
    constructor
    · rintro (e | ⟨j, hj, e⟩)
      · exact ⟨i, by omega, e⟩
      · exact ⟨j, by omega, e⟩
    · rintro ⟨j, hj, e⟩
      rcases Nat.lt_or_ge j i with h | h
      · exact .inr ⟨j, h, e⟩
      · have : j = i := by omega
        subst this
        exact .inl e
theorem mem_bwd {L : Bk} {k : Nat} {x : Vd} : ∀ {i : Nat}, x ∈ bwd L k i ↔ ∃ j, j < i ∧ x = L.getD ((L.length - 1 - j + k) % L.length) dv0
  | 0 => by simp [bwd]
  | i + 1 => by
    rw [bwd, List.mem_cons, mem_bwd]
    constructor
    · rintro (e | ⟨j, hj, e⟩)
      · exact ⟨i, by omega, e⟩
      · exact ⟨j, by omega, e⟩
    · rintro ⟨j, hj, e⟩
      rcases Nat.lt_or_ge j i with h | h
      · exact .inr ⟨j, h, e⟩
      · have : j = i := by omega
        subst this
        exact .inl e
theorem turn_turn {n k j : Nat} (hk : k < n) (hj : j < n) : (n - 1 - (n - 1 - j + k) % n + k) % n = j := by
  rcases Nat.lt_or_ge (n - 1 - j + k) n with h | h
  · rw [Nat.mod_eq_of_lt h, show n - 1 - (n - 1 - j + k) + k = j from by omega, Nat.mod_eq_of_lt hj]
  · have e : (n - 1 - j + k) % n = n - 1 - j + k - n := by rw [Nat.mod_eq_sub_mod h, Nat.mod_eq_of_lt (by omega)]
    rw [e, show n - 1 - (n - 1 - j + k - n) + k = j + n from by omega, Nat.add_mod_right, Nat.mod_eq_of_lt hj]
theorem fwd_bwd {L : Bk} {k : Nat} (hk : k < L.length) (x : Vd) : x ∈ fwd L L.length ↔ x ∈ bwd L k L.length := by
  rw [mem_fwd, mem_bwd]
  constructor
  · rintro ⟨j, hj, rfl⟩
    exact ⟨(L.length - 1 - j + k) % L.length, Nat.mod_lt _ (by omega), by rw [turn_turn hk hj]⟩
  · rintro ⟨j, hj, rfl⟩
    exact ⟨_, Nat.mod_lt _ (by omega), rfl⟩
theorem fwd_sub {L : Bk} {i : Nat} (h : i ≤ L.length) : ∀ x ∈ fwd L i, x ∈ L := fun x hx => by
  obtain ⟨j, hj, rfl⟩ := mem_fwd.1 hx
  exact getD_mem (by omega)
theorem bwd_sub {L : Bk} {k i : Nat} (h : i ≤ L.length) : ∀ x ∈ bwd L k i, x ∈ L := fun x hx => by
  obtain ⟨j, hj, rfl⟩ := mem_bwd.1 hx
  exact getD_mem (Nat.mod_lt _ (by omega))
theorem ord_same {L K M : Bk} {k : Nat} (hk : k < L.length) (hs : SrtV K) (ht : SrtV M) (h : Has (fwd L L.length) K) (g : Has (bwd L k L.length) M) : K = M := has_same hs ht h g (fwd_bwd hk)
/-- Where the turn begins. -/
theorem turn_at (t : Int) {n : Nat} (hn : 0 < n) : ∃ k : Nat, k < n ∧ (t.tmod n + n).tmod n = k := by
  have h1 := Int.tmod_lt_of_pos t (b := (n : Int)) (by omega)
  have h2 : -(n : Int) < t.tmod n := Int.lt_tmod_of_pos t (by omega)
  have h3 : 0 ≤ (t.tmod n + n).tmod n := Int.tmod_nonneg _ (by omega)
  have h4 := Int.tmod_lt_of_pos (t.tmod n + n) (b := (n : Int)) (by omega)
  exact ⟨((t.tmod n + n).tmod n).toNat, by omega, by omega⟩
theorem turn_ix {n k i : Nat} (hi : i < n) : ((n : Int) - 1 - i + k).tmod n = (((n - 1 - i + k) % n : Nat) : Int) := by
  rw [show (n : Int) - 1 - i + k = ((n - 1 - i + k : Nat) : Int) from by omega, Int.tmod_eq_emod_of_nonneg (by omega)]
  rfl
/-- Of unlike transactions. -/
theorem dst_of {L : Bk} (h : ∀ i j, i < j → j < L.length → ¬ ((L.getD i dv0).c = (L.getD j dv0).c ∧ (L.getD i dv0).n = (L.getD j dv0).n)) : Dst L := fun x hx y hy h1 h2 => by
  obtain ⟨i, hi, rfl⟩ := List.getElem_of_mem hx
  obtain ⟨j, hj, rfl⟩ := List.getElem_of_mem hy
  have ei : L.getD i dv0 = L[i] := by simp [List.getD, hi]
  have ej : L.getD j dv0 = L[j] := by simp [List.getD, hj]
  rcases Nat.lt_trichotomy i j with e | e | e
  · have := h i j e hj
    rw [ei, ej] at this
    exact absurd ⟨h1, h2⟩ this
  · subst e
    rfl
  · have := h j i e hi
    rw [ei, ej] at this
    exact absurd ⟨h1.symm, h2.symm⟩ this
end Go.Proofs.Ytkadaoebehgkbaa
