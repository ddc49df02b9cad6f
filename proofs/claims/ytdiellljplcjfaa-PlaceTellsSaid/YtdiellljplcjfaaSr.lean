/-
  The document's Split.
-/
import Derived.Test.YtdiellljplcjfaaSpl
namespace Go.Proofs.Ytdiellljplcjfaa
open Go.RowKit Go.Sort

def nv : Value := .slice none 0 0
theorem info40 : (Try.prog.info? 40).map (fun i => (i.zero, i.size, i.bytes)) = some (some (.agg #[.string ⟨#[]⟩, .string ⟨#[]⟩, .bool false]), 3, 40) := by kernel_rfl
theorem info36 : (Try.prog.info? 36).map (fun i => (i.zero, i.size, i.bytes)) = some (some (.slice none 0 0), 1, 24) := by kernel_rfl
/-- Rows that a call makes, all in blocks of their own, in a row of its own; one more row beside. -/
structure So (B : Nat) (vo : Value) (vs : List Value) (L : List (List Wr)) (vw : Value) (own : List Wr) (W : World) : Prop where
  len : vs.length = L.length
  out : W.ownsRow B 36 1 vo L.length vs
  ins : ∀ i, i < L.length → W.ownsRow B 40 3 (vs.getD i nv) (L.getD i []).length (rowC wrc (L.getD i []))
  apo : ∀ i, i < L.length → ∀ k, (vs.getD i nv).ownBlock = some k → vo.ownBlock ≠ some k
  own : W.ownsRow B 40 3 vw own.length (rowC wrc own)
  apw : ∀ k, vw.ownBlock = some k → vo.ownBlock ≠ some k ∧ ∀ i, i < L.length → (vs.getD i nv).ownBlock ≠ some k
  big : B ≤ W.heap.size
variable {B : Nat} {vo vw : Value} {vs : List Value} {L : List (List Wr)} {own : List Wr} {W W' : World}
theorem So.on (h : So B vo vs L vw own W) (hb : Below W.heap.size W W') : So B vo vs L vw own W' :=
  ⟨h.len, own_on h.out hb, fun i hi => own_on (h.ins i hi) hb, h.apo, own_on h.own hb, h.apw, Nat.le_trans h.big hb.size⟩
theorem So.new (B : Nat) (W : World) (hB : B ≤ W.heap.size) : So B nv [] [] nv [] W :=
  ⟨rfl, own_nil _ _ _ _, fun i hi => absurd hi (by simp), fun i hi => absurd hi (by simp), own_nil _ _ _ _, fun k hk => absurd hk (by simp [nv, Value.ownBlock]), hB⟩
/-- One more write behind the row beside. -/
theorem So.push (h : So B vo vs L vw own W) (x : Wr) {v' : Value} (hown : W'.ownsRow B 40 3 v' (own.length + 1) (rowC wrc own ++ rowC wrc [x])) (hg : W.grownBy W' vw.ownBlock) (hat : v'.ownBlock = vw.ownBlock ∨ v'.ownBlock = some W.heap.size) : So B vo vs L v' (own ++ [x]) W' := by
  have hk := grown_kept hg
  refine ⟨h.len, own_kept h.out hk (fun k h1 h2 => (h.apw k h2).1 h1), fun i hi => own_kept (h.ins i hi) hk (fun k h1 h2 => (h.apw k h2).2 i hi h1), h.apo, by rw [rowC_append, List.length_append]; exact hown, fun k hkk => ?_, Nat.le_trans h.big hk.size⟩
  rcases hat with e | e
  · exact h.apw k (by rw [← e]; exact hkk)
  · rw [e] at hkk
    injection hkk with hkk
    refine ⟨fun h1 => ?_, fun i hi h1 => ?_⟩
    · have := World.ownsRow.lt h.out k h1
      omega
    · have := World.ownsRow.lt (h.ins i hi) k h1
      omega
theorem getD_old {vs : List Value} {u : Value} {i : Nat} (h : i < vs.length) : (vs ++ [u]).getD i nv = vs.getD i nv := by simp [List.getD, List.getElem?_append_left h]
theorem getD_new {vs : List Value} {u : Value} : (vs ++ [u]).getD vs.length nv = u := by simp [List.getD]
theorem getL_old {L : List (List Wr)} {u : List Wr} {i : Nat} (h : i < L.length) : (L ++ [u]).getD i [] = L.getD i [] := by simp [List.getD, List.getElem?_append_left h]
theorem getL_new {L : List (List Wr)} {u : List Wr} : (L ++ [u]).getD L.length [] = u := by simp [List.getD]
/-- The row beside becomes one of the rows. -/
theorem So.lay (h : So B vo vs L vw own W) {v' : Value} (hown : W'.ownsRow B 36 1 v' (L.length + 1) (vs ++ [vw])) (hg : W.grownBy W' vo.ownBlock) (hat : v'.ownBlock = vo.ownBlock ∨ v'.ownBlock = some W.heap.size) : So B v' (vs ++ [vw]) (L ++ [own]) nv [] W' := by
  have hk := grown_kept hg
  have hl := h.len
  have hcase : ∀ i, i < (L ++ [own]).length → i < L.length ∨ i = L.length := fun i hi => by rw [List.length_append] at hi; simp at hi; omega
  refine ⟨by simp [hl], by rw [List.length_append]; exact hown, fun i hi => ?_, fun i hi k hkk hv => ?_, own_nil _ _ _ _, fun k hkk => absurd hkk (by simp [nv, Value.ownBlock]), Nat.le_trans h.big hk.size⟩
  · rcases hcase i hi with h1 | rfl
    · rw [getD_old (by omega), getL_old h1]
      exact own_kept (h.ins i h1) hk (fun k h2 h3 => h.apo i h1 k h2 h3)
    · rw [getL_new, ← hl, getD_new]
      exact own_kept h.own hk (fun k h2 h3 => (h.apw k h2).1 h3)
  · have hblk : ∃ q : Value, (q.ownBlock = some k) ∧ (vo.ownBlock ≠ some k) ∧ k < W.heap.size := by
      rcases hcase i hi with h1 | rfl
      · rw [getD_old (by omega)] at hkk
        exact ⟨_, hkk, h.apo i h1 k hkk, (World.ownsRow.lt (h.ins i h1) k hkk).2⟩
      · rw [← hl, getD_new] at hkk
        exact ⟨_, hkk, (h.apw k hkk).1, (World.ownsRow.lt h.own k hkk).2⟩
    obtain ⟨_, _, h2, h3⟩ := hblk
    rcases hat with e | e
    · rw [e] at hv; exact h2 hv
    · rw [e] at hv; injection hv with hv; omega
theorem So.done (h : So B vo vs L vw own W) : SsAt vo L W :=
  ⟨vs, h.len, rw_own h.out, fun i hi => rw_own (h.ins i hi)⟩
theorem own_step {l : List Wr} {n k : Int} {m : Nat} (h : m < l.length) : ownF (l.take (m + 1)) n k = ownF (l.take m) n k ++ (if shardF (l.getD m dw).key n = (k, 0) then [l.getD m dw] else []) := by
  unfold ownF
  rw [List.take_succ_eq_append_getElem h, List.filter_append, show l.getD m dw = l[m] from by simp [List.getD, h]]
  congr 1
  by_cases hc : shardF l[m].key n = (k, 0)
  · rw [if_pos hc, List.filter_cons_of_pos (by simpa using hc)]; rfl
  · rw [if_neg hc, List.filter_cons_of_neg (by simpa using hc)]; rfl
theorem own_len (l : List Wr) (n k : Int) : (ownF l n k).length ≤ l.length := List.length_filter_le _ _
theorem wr_ow {base n : Nat} {va : Value} {l : List Wr} {w : World} (x : Wr) (ho : w.ownsRow base 40 3 va n (rowC wrc l)) (hb : base ≤ w.heap.size) (hl : n < 1000000) :
    Ow base 40 3 va n (rowC wrc l) (w.heap.size + 1) (.slice (some ⟨w.heap.size, 0, none⟩) 1 1) 1 (rowC wrc [x]) (w.alloc (.cells #[.string (bs x.key), .string (bs x.val), .bool x.dead] 40)) :=
  ⟨World.ownsRow.alloc ho _, row_one wrc 3 wrc_len x 40 w (fun j u hj => block_cell (heap_alloc_new w _) (by simpa using hj)), rowC_cells wrc wrc_one _, Nat.le_trans hb (by simp), by omega⟩
theorem sl_ow {base n : Nat} {va : Value} {vs : List Value} {w : World} (a : Option Addr) (c d : Nat) (ho : w.ownsRow base 36 1 va n vs) (hb : base ≤ w.heap.size) (hl : n < 1000000) :
    Ow base 36 1 va n vs (w.heap.size + 1) (.slice (some ⟨w.heap.size, 0, none⟩) 1 1) 1 [.slice a c d] (w.alloc (.cells #[.slice a c d] 36)) := by
  refine ⟨World.ownsRow.alloc ho _, ?_, fun u hu => by simp only [List.mem_singleton] at hu; subst hu; rfl, Nat.le_trans hb (by simp), by omega⟩
  have := row_one (fun x : Option Addr × Nat × Nat => [Value.slice x.1 x.2.1 x.2.2]) 1 (fun _ => rfl) (a, c, d) 36 w (fun j u hj => block_cell (heap_alloc_new w _) (by simpa using hj))
  rw [rowC_one] at this
  exact this
end Go.Proofs.Ytdiellljplcjfaa
