/-
  A list of texts appended to a row of the call's own.
-/
import Derived.Test.YtjjdmeemhgopbaaFits
namespace Go.Proofs.Ytjjdmeemhgopbaa
open Go.RowKit Go.Sort
open Drm (Dr Pt DrumAt DrumIn)

theorem sl_append (L R : List (List UInt8)) : sl (L ++ R) = sl L ++ sl R := by simp [sl]
theorem sl_one (L : List (List UInt8)) : ∀ u ∈ sl L, u.oneCell' = true := by
  intro u hu
  simp only [sl, List.mem_map] at hu
  obtain ⟨_, _, rfl⟩ := hu
  rfl

set_option maxRecDepth 100000 in
theorem run_append_strs (pb B : Nat) (I X : List (List UInt8)) (v vx : Value) (ty : TypeId) (w : World) (hI : TxAt B v I w) (hX : StrsAt pb vx X w) (hB : B ≤ w.heap.size) (hl : I.length + X.length ≤ 1048576) :
    ∃ v' w', (Builtin.append_ #[33, 33] ty #[v, vx]).run Try.prog w = .ok v' w' ∧ TxAt B v' (I ++ X) w' ∧ w.grownBy w' v.ownBlock := by
  obtain ⟨i0, hi, hz0, hz1, hz2⟩ := info_parts info9
  obtain ⟨ax, cx, rfl, hx⟩ := hX
  cases ax with
  | none =>
    have h0 : X = [] := by
      cases X with
      | nil => rfl
      | cons a X =>
        obtain ⟨b, o, e, _⟩ := hx (by simp)
        cases e
    subst h0
    refine ⟨v, w, ?_, by rw [List.append_nil]; exact hI, ⟨rfl, rfl, rfl, Nat.le_refl _, fun _ _ _ => rfl⟩⟩
    rcases hI.2 with ⟨rfl, _⟩ | ⟨g, cap, cur, rfl, _, _, hnc, _⟩
    · simp [Builtin.append_, run_underlying Try.underlying33, sizeOf, typeInfo, hi, Builtin.lenOf, Builtin.firstCells]
    · simp [Builtin.append_, run_underlying Try.underlying33, sizeOf, typeInfo, hi, Builtin.lenOf, Builtin.firstCells, hnc, storeCells]
  | some ad =>
    have hnews : ∀ j u, (sl X)[j]? = some u → w.cell? (ad.add j) = some u := by
      intro j u hj
      have hjl : j < X.length := by
        rcases Nat.lt_or_ge j X.length with h | h
        · exact h
        · rw [List.getElem?_eq_none (by rw [sl_length]; exact h)] at hj; cases hj
      obtain ⟨b, o, e, _, hc, _⟩ := hx (by omega)
      injection e with e
      subst e
      rw [Addr.add_lit, hc j hjl, ← hj]
      simp [sl, List.getElem?_eq_getElem hjl, List.getD]
    obtain ⟨v', w', h1, h2, h3, _⟩ := run_append_own (P := Try.prog) w B 33 ty 9 i0 (.string ⟨#[]⟩) 1 16 Try.underlying33 hi hz0 hz1 hz2 rfl (by decide) v I.length (sl I) hI ad X.length cx (sl X) (by rw [sl_length, Nat.mul_one]) hnews (sl_one X) (by unfold maxLen; omega) (by omega) hB
    refine ⟨v', w', h1, ?_, h3⟩
    unfold TxAt
    rw [sl_append, List.length_append]
    exact h2

theorem wp_append_strs {o : Oper} {a : Act} {K : Act → World → Prop} {Q : Exit → Act → World → Prop} {w : World} (s x : Operand) (ho : o.op = .call { callee := .builtin .append, args := #[s, x], argTypes := #[33, 33] })
    (pb B : Nat) (I X : List (List UInt8)) (v vx : Value) (hs : a.eval s = v) (hx : a.eval x = vx) (hI : TxAt B v I w) (hX : StrsAt pb vx X w) (hB : B ≤ w.heap.size) (hl : I.length + X.length ≤ 1048576)
    (h : ∀ v' w', TxAt B v' (I ++ X) w' → w.grownBy w' v.ownBlock → K (a.put o.dst v') w') : o.wp Try.prog a w K Q := by
  obtain ⟨v', w', hr, h2, h3⟩ := run_append_strs pb B I X v vx o.type w hI hX hB hl
  unfold Oper.wp execOp
  simp only [ho, resolve, invoke, builtin, Sem.run_bind, Sem.run_pure, Result.andThen_ok, List.map_toArray, List.map_cons, List.map_nil, hs, hx, hr]
  exact h v' w' h2 h3

theorem wpList_append_strs {ops : Array Oper} {rest : List Oper} {o : Oper} {a : Act} {Q : Exit → Act → World → Prop} {w : World} (hw : Region.wanted o (yielded ops a.tmps) = true) (s x : Operand) (ho : o.op = .call { callee := .builtin .append, args := #[s, x], argTypes := #[33, 33] })
    (pb B : Nat) (I X : List (List UInt8)) (v vx : Value) (hs : a.eval s = v) (hx : a.eval x = vx) (hI : TxAt B v I w) (hX : StrsAt pb vx X w) (hB : B ≤ w.heap.size) (hl : I.length + X.length ≤ 1048576)
    (h : ∀ v' w', TxAt B v' (I ++ X) w' → w.grownBy w' v.ownBlock → wpList Try.prog ops Q rest (a.put o.dst v') w') : wpList Try.prog ops Q (o :: rest) a w :=
  wpList_step fun K hK => by
    rw [if_pos hw]
    exact wp_append_strs s x ho pb B I X v vx hs hx hI hX hB hl fun v' w' h1 h2 => hK _ _ (h v' w' h1 h2)

theorem own_empty (w : World) (B : Nat) (hB : B ≤ w.heap.size) : TxAt B (.slice (some ⟨w.heap.size, 0, none⟩) 0 0) [] (w.alloc (.cells #[] 9)) :=
  ⟨rfl, .inr ⟨w.heap.size, 0, #[], rfl, hB, heap_alloc_new w _, Nat.le_refl _, by unfold maxLen; omega, rfl, rfl⟩⟩

theorem own_le {n l c k : Nat} (h : (Value.slice (some ⟨n, 0, none⟩) l c).ownBlock = some k) : n ≤ k := by
  simp only [Value.ownBlock, Option.some.injEq] at h
  omega

theorem strs_one {pb : Nat} (w : World) (r : List UInt8) (hp : pb < w.heap.size) : StrsAt pb (.slice (some ⟨w.heap.size, 0, none⟩) 1 1) [r] (w.alloc (.cells #[.string (bs r)] 9)) := by
  refine ⟨_, _, rfl, fun _ => ⟨w.heap.size, 0, rfl, by omega, fun i hi => ?_, .inr ⟨_, _, heap_alloc_new w _⟩⟩⟩
  have hi0 : i = 0 := by simpa using hi
  subst hi0
  unfold World.cell?
  dsimp only
  rw [heap_alloc_new w _]
  rfl

end Go.Proofs.Ytjjdmeemhgopbaa
