/-
  The lists that a log may have behind a fall, as the law LogKeeps holds them: a row of lists of texts.
-/
import Derived.Test.YtjjdmeemhgopbaaActs
namespace Go.Proofs.Ytjjdmeemhgopbaa
open Go.RowKit Go.Sort
open Drm (Dr Pt DrumAt DrumIn)

theorem info33 : (Try.prog.info? 33).map (fun i => (i.zero, i.size, i.bytes)) = some (some (.slice none 0 0), 1, 24) := by kernel_rfl

/-- A row of the call's own, behind the drum's block, of lists of texts. -/
def MayAt (pb : Nat) (v : Value) (M : List (List (List UInt8))) (w : World) : Prop :=
  ∃ vs : List Value, w.ownsRow (pb + 1) 33 1 v M.length vs ∧ vs.length = M.length ∧ ∀ i, i < M.length → StrsAt pb (vs.getD i undef) (M.getD i []) w

section
variable {pb : Nat} {v : Value} {M : List (List (List UInt8))} {w w' : World}
theorem MayAt.shape (h : MayAt pb v M w) : ∃ ao cp, v = .slice ao M.length cp := by
  obtain ⟨vs, h1, _⟩ := h
  rcases h1.2 with ⟨rfl, h0⟩ | ⟨g, cap, cur, rfl, _⟩
  · exact ⟨none, 0, by rw [h0]⟩
  · exact ⟨_, _, rfl⟩
theorem MayAt.on (h : MayAt pb v M w) (hb : Below w.heap.size w w') : MayAt pb v M w' := by
  obtain ⟨vs, h1, h2, h3⟩ := h
  exact ⟨vs, h1.kept (row := none) ⟨hb.os, hb.tape, hb.output, hb.size, fun k hk _ => hb.block k hk⟩ (by cases v.ownBlock <;> simp), h2, fun i hi => (h3 i hi).on hb⟩
theorem MayAt.kept (h : MayAt pb v M w) (hk : Drm.Kept pb w w') : MayAt pb v M w' := by
  obtain ⟨vs, h1, h2, h3⟩ := h
  refine ⟨vs, ⟨h1.1, ?_⟩, h2, fun i hi => (h3 i hi).kept hk⟩
  rcases h1.2 with h | ⟨g, cap, cur, e1, e2, e3, e4⟩
  · exact .inl h
  · exact .inr ⟨g, cap, cur, e1, e2, hk.other g _ e3 (by omega) (by intro cs fz e; injection e with _ e _; exact absurd e (by decide)), e4⟩
theorem MayAt.keep2 {lb g : Nat} {a : Int} (h : MayAt pb v M w) (hl : LbAt lb pb a g w) (hk : Keep2 lb pb w w') : MayAt pb v M w' := by
  obtain ⟨vs, h1, h2, h3⟩ := h
  refine ⟨vs, ⟨h1.1, ?_⟩, h2, fun i hi => (h3 i hi).keep2 hl hk⟩
  rcases h1.2 with h | ⟨g', cap, cur, e1, e2, e3, e4⟩
  · exact .inl h
  · refine .inr ⟨g', cap, cur, e1, e2, hk.other g' _ e3 (by omega) ?_ (by intro cs fz e; injection e with _ e _; exact absurd e (by decide)), e4⟩
    rintro rfl
    unfold LbAt at hl
    rw [e3] at hl
    injection hl with hl
    injection hl with _ hl _
    exact absurd hl (by decide)
/-- What is read of it. -/
theorem MayAt.cells (h : MayAt pb v M w) : ∃ ao b cp, v = .slice ao M.length cp ∧ (0 < M.length → ao = some ⟨b, 0, none⟩) ∧ ∀ i, i < M.length → ∃ u, w.cell? ⟨b, i, none⟩ = some u ∧ StrsAt pb u (M.getD i []) w := by
  obtain ⟨vs, h1, h2, h3⟩ := h
  have hh := h1
  rcases h1.2 with ⟨rfl, h0⟩ | ⟨g, cap, cur, rfl, _⟩
  · exact ⟨none, 0, 0, by rw [h0], fun h => by omega, fun i hi => by omega⟩
  · refine ⟨_, g, cap, rfl, fun _ => rfl, fun i hi => ⟨vs.getD i undef, ?_, h3 i hi⟩⟩
    have := hh.cells (g := g) rfl i (vs.getD i undef) (by simp [List.getD, List.getElem?_eq_getElem (by omega : i < vs.length)])
    simpa [Addr.add_lit] using this
theorem may_new (w : World) (u : Value) (R : List (List UInt8)) (h : StrsAt pb u R w) (hp : pb < w.heap.size) : MayAt pb (.slice (some ⟨w.heap.size, 0, none⟩) 1 1) [R] (w.alloc (.cells #[u] 33)) := by
  refine ⟨[u], World.ownsRow_lit w #[u] 1 (by omega) (by unfold maxLen; omega) rfl, rfl, fun i hi => ?_⟩
  have hi0 : i = 0 := by simpa using hi
  subst hi0
  exact h.on ((Below.refl _ _).alloc (Nat.le_refl _) _)
/-- A list of texts where a row of lists grows. -/
theorem StrsAt.grown {u : Value} {R : List (List UInt8)} {row : Option Nat} (h : StrsAt pb u R w) (hg : w.grownBy w' row) (hrow : ∀ k, row = some k → pb < k ∧ ∃ cs fz, w.heap[k]? = some (.cells cs 33 fz)) : StrsAt pb u R w' := by
  obtain ⟨ao, cap, rfl, h⟩ := h
  refine ⟨ao, cap, rfl, fun h0 => ?_⟩
  obtain ⟨b, o, rfl, hne, hc, hor⟩ := h h0
  have hlt : b < w.heap.size := World.block_lt_of_cell? _ _ (hc 0 h0)
  have hblk : w'.heap[b]? = w.heap[b]? := by
    refine hg.block b hlt ?_
    intro e
    obtain ⟨h1, cs', fz', h2⟩ := hrow b e.symm
    rcases hor with h3 | ⟨cs, fz, h3⟩
    · omega
    · rw [h2] at h3
      injection h3 with h3
      injection h3 with _ h3 _
      exact absurd h3 (by decide)
  refine ⟨b, o, rfl, hne, fun i hi => ?_, ?_⟩
  · have := hc i hi
    unfold World.cell? at this ⊢
    dsimp only at this ⊢
    rw [hblk]
    exact this
  · rcases hor with h1 | ⟨cs, fz, h1⟩
    · exact .inl h1
    · exact .inr ⟨cs, fz, by rw [hblk]; exact h1⟩
theorem may_row (h : MayAt pb v M w) : ∀ k, v.ownBlock = some k → pb < k ∧ ∃ cs fz, w.heap[k]? = some (.cells cs 33 fz) := by
  intro k hk
  obtain ⟨vs, h1, _⟩ := h
  rcases h1.2 with ⟨hv, _⟩ | ⟨g, cap, cur, hv, hB, hgg, _⟩
  · rw [hv] at hk; simp [Value.ownBlock] at hk
  · rw [hv] at hk
    simp only [Value.ownBlock, Option.some.injEq] at hk
    subst hk
    exact ⟨by omega, cur, (0, 0), hgg⟩
theorem may_row2 (h : MayAt pb v M w) : ∀ k, v.ownBlock = some k → k ≠ pb ∧ ∃ cs t fz, w.heap[k]? = some (.cells cs t fz) ∧ t ≠ 5 ∧ t ≠ 78 := fun k hk => by
  obtain ⟨h1, cs, fz, h2⟩ := may_row h k hk
  exact ⟨by omega, cs, 33, fz, h2, by decide, by decide⟩
end

/-- One list more. -/
theorem run_append_may (pb : Nat) (M : List (List (List UInt8))) (R : List (List UInt8)) (v u : Value) (ty : TypeId) (w : World) (hM : MayAt pb v M w) (hu : StrsAt pb u R w) (hp : pb < w.heap.size) (hl : M.length ≤ 1000) :
    ∃ v' w', (Builtin.append_ #[61, 61] ty #[v, .slice (some ⟨w.heap.size, 0, none⟩) 1 1]).run Try.prog (w.alloc (.cells #[u] 33)) = .ok v' w' ∧ MayAt pb v' (M ++ [R]) w' ∧ (w.alloc (.cells #[u] 33)).grownBy w' v.ownBlock := by
  obtain ⟨i0, hi, hz0, hz1, hz2⟩ := info_parts info33
  have hal : Below w.heap.size w (w.alloc (.cells #[u] 33)) := (Below.refl _ _).alloc (Nat.le_refl _) _
  have hrow := may_row (hM.on hal)
  obtain ⟨vs, h1, h2, h3⟩ := hM.on hal
  have hu1 : ∀ x ∈ [u], x.oneCell' = true := by
    intro x hx
    simp at hx
    subst hx
    obtain ⟨ao, cap, rfl, _⟩ := hu
    rfl
  obtain ⟨v', w', e1, e2, e3, _⟩ := run_append_own (P := Try.prog) (w.alloc (.cells #[u] 33)) (pb + 1) 61 ty 33 i0 (.slice none 0 0) 1 24 Try.underlying61 hi hz0 hz1 hz2 rfl (by decide) v M.length vs h1 ⟨w.heap.size, 0, none⟩ 1 1 [u] rfl (one_new w u 33) hu1 (by unfold maxLen; omega) (by omega) (by simp; omega)
  refine ⟨v', w', e1, ⟨vs ++ [u], by rw [List.length_append]; exact e2, by rw [List.length_append, List.length_append, h2]; rfl, fun i hi => ?_⟩, e3⟩
  by_cases hiM : i < M.length
  · have ha : (vs ++ [u]).getD i undef = vs.getD i undef := by simp [List.getD, List.getElem?_append_left (by omega : i < vs.length)]
    have hb : (M ++ [R]).getD i [] = M.getD i [] := by simp [List.getD, List.getElem?_append_left hiM]
    rw [ha, hb]
    exact (h3 i hiM).grown e3 hrow
  · have hie : i = M.length := by rw [List.length_append] at hi; simp at hi; omega
    have ha : (vs ++ [u]).getD i undef = u := by rw [hie, ← h2]; simp [List.getD]
    have hb : (M ++ [R]).getD i [] = R := by rw [hie]; simp [List.getD]
    rw [ha, hb]
    exact (hu.on hal).grown e3 hrow

theorem wpList_append_may {ops : Array Oper} {rest : List Oper} {o : Oper} {a : Act} {Q : Exit → Act → World → Prop} {w : World} (hg : o.guard = none) (s x : Operand) (ho : o.op = .call { callee := .builtin .append, args := #[s, x], argTypes := #[61, 61] })
    (pb : Nat) (M : List (List (List UInt8))) (R : List (List UInt8)) (v u : Value) (hs : a.eval s = v) (hx : a.eval x = .slice (some ⟨w.heap.size, 0, none⟩) 1 1) (hM : MayAt pb v M w) (hu : StrsAt pb u R w) (hp : pb < w.heap.size) (hl : M.length ≤ 1000)
    (h : ∀ v' w', MayAt pb v' (M ++ [R]) w' → (w.alloc (.cells #[u] 33)).grownBy w' v.ownBlock → wpList Try.prog ops Q rest (a.put o.dst v') w') : wpList Try.prog ops Q (o :: rest) a (w.alloc (.cells #[u] 33)) :=
  wpList_plain hg fun K hK => by
    obtain ⟨v', w', hr, h2, h3⟩ := run_append_may pb M R v u o.type w hM hu hp hl
    unfold Oper.wp execOp
    simp only [ho, resolve, invoke, builtin, Sem.run_bind, Sem.run_pure, Result.andThen_ok, List.map_toArray, List.map_cons, List.map_nil, hs, hx, hr]
    exact hK _ _ (h v' w' h2 h3)

theorem strs_one2 {pb n : Nat} {w : World} (h : w.heap.size = n) (r : List UInt8) (hp : pb < n) : StrsAt pb (.slice (some ⟨n, 0, none⟩) 1 1) [r] (w.alloc (.cells #[.string (bs r)] 9)) := by
  subst h
  exact strs_one w r hp
theorem own_empty2 {B n : Nat} {w : World} (h : w.heap.size = n) (hB : B ≤ n) : TxAt B (.slice (some ⟨n, 0, none⟩) 0 0) [] (w.alloc (.cells #[] 9)) := by
  subst h
  exact own_empty w B hB
/-- A list where another row grows. -/
theorem StrsAt.apart {pb n : Nat} {R : List (List UInt8)} {l c : Nat} {w w' : World} {row : Option Nat} (h : StrsAt pb (.slice (some ⟨n, 0, none⟩) l c) R w) (hg : w.grownBy w' row) (hne : row ≠ some n) : StrsAt pb (.slice (some ⟨n, 0, none⟩) l c) R w' := by
  obtain ⟨ao, cap, e, h⟩ := h
  injection e with e1 e2 e3
  subst e1 e2 e3
  refine ⟨_, _, rfl, fun h0 => ?_⟩
  obtain ⟨b, o, e, hp, hc, hor⟩ := h h0
  injection e with e
  injection e with e1 e2
  subst e1 e2
  have hlt : n < w.heap.size := World.block_lt_of_cell? _ _ (hc 0 h0)
  have hblk : w'.heap[n]? = w.heap[n]? := hg.block n hlt (fun e => hne e.symm)
  refine ⟨n, 0, rfl, hp, fun i hi => ?_, ?_⟩
  · have := hc i hi
    unfold World.cell? at this ⊢
    dsimp only at this ⊢
    rw [hblk]
    exact this
  · rcases hor with h1 | ⟨cs, fz, h1⟩
    · exact .inl h1
    · exact .inr ⟨cs, fz, by rw [hblk]; exact h1⟩

theorem step_append_strs {ops : Array Oper} {o : Oper} {a : Act} {w : World} {K : Act → World → Prop} {Q : Exit → Act → World → Prop} {E : Prop} (hg : o.guard = none) (s x : Operand) (ho : o.op = .call { callee := .builtin .append, args := #[s, x], argTypes := #[33, 33] })
    (pb B : Nat) (I X : List (List UInt8)) (v vx : Value) (hs : a.eval s = v) (hx : a.eval x = vx) (hI : TxAt B v I w) (hX : StrsAt pb vx X w) (hB : B ≤ w.heap.size) (hl : I.length + X.length ≤ 1048576)
    (h : ∀ v' w', TxAt B v' (I ++ X) w' → w.grownBy w' v.ownBlock → K (a.put o.dst v') w') :
    if Region.wanted o (yielded ops a.tmps) = true then Oper.wp Try.prog o a w K Q else E := by
  have hw : Region.wanted o (yielded ops a.tmps) = true := by simp [Region.wanted, hg]
  rw [if_pos hw]
  exact wp_append_strs s x ho pb B I X v vx hs hx hI hX hB hl h

end Go.Proofs.Ytjjdmeemhgopbaa
