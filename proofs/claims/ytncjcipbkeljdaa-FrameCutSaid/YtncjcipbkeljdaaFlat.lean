/-
  Plain facts on frames behind each other, cut off anywhere.
-/
import Derived.Test.YtncjcipbkeljdaaScanP
namespace Go.Proofs.Ytncjcipbkeljdaa
open Go.RowKit Go.Sort

/-- Frames behind each other. -/
def flat (ls : List (List UInt8)) : List UInt8 := ls.flatMap frameOf
theorem flat_nil : flat [] = [] := rfl
theorem flat_cons (p : List UInt8) (ls : List (List UInt8)) : flat (p :: ls) = frameOf p ++ flat ls := by simp [flat]
theorem flat_snoc (ls : List (List UInt8)) (p : List UInt8) : flat (ls ++ [p]) = flat ls ++ frameOf p := by simp [flat]
theorem take_more (ls : List (List UInt8)) (k : Nat) (h : k < ls.length) : ls.take (k + 1) = ls.take k ++ [ls.getD k []] := by
  rw [List.take_add_one]
  simp [List.getElem?_eq_getElem h, List.getD]
theorem flat_more (ls : List (List UInt8)) (k : Nat) (h : k < ls.length) : flat (ls.take (k + 1)) = flat (ls.take k) ++ frameOf (ls.getD k []) := by rw [take_more ls k h, flat_snoc]

theorem scan_flat (ls : List (List UInt8)) : ∀ (cut n : Nat), (∀ p ∈ ls, p.length ≤ 16384) → n ≤ ls.length → (flat (ls.take n)).length ≤ cut →
    (n = ls.length ∧ cut ≤ (flat ls).length ∨ n < ls.length ∧ cut < (flat (ls.take (n + 1))).length) → rdScan ((flat ls).take cut) = (ls.take n, (flat (ls.take n)).length) := by
  induction ls with
  | nil =>
    intro cut n _ hn _ _
    have : n = 0 := by simpa using hn
    subst this
    rw [flat_nil, List.take_nil]
    rfl
  | cons p r ih =>
    intro cut n hp hn hle hor
    have hp0 := hp p (by simp)
    rw [flat_cons] at hor ⊢
    cases n with
    | zero =>
      have hc : cut < (frameOf p).length := by
        rcases hor with ⟨h, _⟩ | ⟨_, h⟩
        · simp at h
        · simpa [flat_cons, flat_nil] using h
      have hx := next_take p (flat r) cut hp0
      rw [if_pos hc] at hx
      rw [scan_end (by rw [hx]; decide)]
      rfl
    | succ m =>
      rw [List.take_succ_cons, flat_cons, List.length_append] at hle
      have hx := next_take p (flat r) cut hp0
      rw [if_neg (by omega)] at hx
      rw [scan_more (by rw [hx]), hx]
      dsimp only
      have hd : ((frameOf p ++ flat r).take cut).drop (frameOf p).length = (flat r).take (cut - (frameOf p).length) := by
        rw [List.drop_take, List.drop_left]
      rw [hd, ih (cut - (frameOf p).length) m (fun q hq => hp q (by simp [hq])) (by simpa using hn) (by omega) ?_]
      · rw [List.take_succ_cons, flat_cons, List.length_append]
      · rcases hor with ⟨h1, h2⟩ | ⟨h1, h2⟩
        · left
          rw [List.length_append] at h2
          simp only [List.length_cons] at h1
          exact ⟨by omega, by omega⟩
        · right
          rw [List.take_succ_cons, flat_cons, List.length_append] at h2
          simp only [List.length_cons] at h1
          exact ⟨by omega, by omega⟩

theorem flat_len (ls : List (List UInt8)) (k : Nat) (hk : k ≤ ls.length) (h : ∀ j, j < k → (ls.getD j []).length ≤ 3000) : (flat (ls.take k)).length ≤ 3008 * k := by
  induction k with
  | zero => simp [flat_nil]
  | succ k ih =>
    rw [flat_more ls k (by omega), List.length_append, frameOf_len]
    have h1 := ih (by omega) (fun j hj => h j (by omega))
    have h2 := h k (by omega)
    have h3 := sz_small (n := (ls.getD k []).length) (by omega)
    omega

theorem info3 : (Try.prog.info? 3).map (fun i => (i.zero, i.size, i.bytes)) = some (some (.int .i64 0), 1, 8) := by kernel_rfl

/-- The cells of the first k ends. -/
def el (ls : List (List UInt8)) (k : Nat) : List Value := (List.range k).map fun j => Value.int .i64 ((flat (ls.take (j + 1))).length : Int)
theorem el_length (ls : List (List UInt8)) (k : Nat) : (el ls k).length = k := by simp [el]
theorem el_more (ls : List (List UInt8)) (k : Nat) : el ls (k + 1) = el ls k ++ [.int .i64 ((flat (ls.take (k + 1))).length : Int)] := by simp [el, List.range_succ]
theorem el_get (ls : List (List UInt8)) (k j : Nat) (h : j < k) : (el ls k)[j]? = some (.int .i64 ((flat (ls.take (j + 1))).length : Int)) := by simp [el, h]

/-- A row of the call's own that has the first k ends. -/
def EnAt (B : Nat) (v : Value) (ls : List (List UInt8)) (k : Nat) (w : World) : Prop := w.ownsRow B 3 1 v k (el ls k)

theorem EnAt.on {B : Nat} {v : Value} {ls : List (List UInt8)} {k : Nat} {w w' : World} (h : EnAt B v ls k w) (hb : Below w.heap.size w w') : EnAt B v ls k w' := by
  refine ⟨h.1, ?_⟩
  rcases h.2 with h2 | ⟨g, cap, cur, hv, hg, hh, r⟩
  · exact .inl h2
  · exact .inr ⟨g, cap, cur, hv, hg, by rw [hb.block g (lt_of_block hh), hh], r⟩

theorem en_shape {B : Nat} {v : Value} {ls : List (List UInt8)} {k : Nat} {w : World} (h : EnAt B v ls k w) : ∃ ao cp, v = .slice ao k cp := by
  rcases h.2 with ⟨rfl, h0⟩ | ⟨g, cap, cur, rfl, _⟩
  · exact ⟨none, 0, by rw [h0]⟩
  · exact ⟨_, _, rfl⟩

theorem EnAt.cells {B : Nat} {v : Value} {ls : List (List UInt8)} {k : Nat} {w : World} (h : EnAt B v ls k w) (hk : 0 < k) : ∃ g cp, v = .slice (some ⟨g, 0, none⟩) k cp ∧ ∀ j, j < k → w.cell? ⟨g, j, none⟩ = some (.int .i64 ((flat (ls.take (j + 1))).length : Int)) := by
  have hh := h
  rcases h.2 with ⟨rfl, h0⟩ | ⟨g, cap, cur, rfl, _⟩
  · omega
  · refine ⟨g, cap, rfl, ?_⟩
    intro j hj
    have := World.ownsRow.cells hh (g := g) rfl j _ (el_get ls k j hj)
    simpa [Addr.add_lit] using this

end Go.Proofs.Ytncjcipbkeljdaa
