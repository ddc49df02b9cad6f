/-
  Appends of rows of any length that memory holds.
-/
import Derived.Test.YtgmgceacdmcmlaaRw
namespace Go.Proofs.Ytgmgceacdmcmlaa
open Go.RowKit

/-- An append of rows of any length that memory holds. -/
structure Owb (base e size bytes : Nat) (v : Value) (n : Nat) (xs : List Value) (B : Nat) (vx : Value) (m : Nat) (cs : List Value) (w : World) : Prop where
  own : w.ownsRow base e size v n xs
  new : RwAt B size vx m cs w
  one : ∀ u ∈ cs, u.oneCell' = true
  size : base ≤ w.heap.size
  len : (n + m) * bytes ≤ 140737488355328
  pos : 0 < bytes

set_option maxRecDepth 100000 in
theorem run_append_rwb {P : Program} {base t ty e size bytes B n m : Nat} {v vx : Value} {xs cs : List Value} {i : TypeInfo} {z : Value} {w : World} (ht : P.underlying t = some (.slice e)) (hi : P.info? e = some i) (hz : i.zero = some z)
    (hsize : i.size = size) (hby : i.bytes = bytes) (hzs : z.cells.size = size) (hsz : 0 < size) (H : Owb base e size bytes v n xs B vx m cs w) :
    ∃ v' w', (Builtin.append_ #[t, t] ty #[v, vx]).run P w = .ok v' w' ∧ w'.ownsRow base e size v' (n + m) (xs ++ cs) ∧ w.grownBy w' v.ownBlock ∧ (v'.ownBlock = v.ownBlock ∨ v'.ownBlock = some w.heap.size) := by
  obtain ⟨ax, cx, rfl, hl, hm, hc, hx⟩ := H.new
  have hbb := H.len
  have hlen : n + m ≤ 140737488355328 := Nat.le_trans (Nat.le_mul_of_pos_right _ H.pos) hbb
  have hm0 : ax = none → m = 0 := fun h => by
    subst h
    rcases Nat.eq_zero_or_pos m with h1 | h1
    · exact h1
    · obtain ⟨b, o, e, _⟩ := hx (by omega)
      cases e
  cases ax with
  | none =>
    have h0 := hm0 rfl
    subst h0
    have hcs : cs = [] := List.eq_nil_of_length_eq_zero (by simpa using hl)
    subst hcs
    refine ⟨v, w, ?_, by simpa using H.own, ⟨rfl, rfl, rfl, Nat.le_refl _, fun _ _ _ => rfl⟩, .inl rfl⟩
    rcases H.own.2 with ⟨rfl, _⟩ | ⟨g, cap, cur, rfl, _, _, hnc, _⟩
    · simp [Builtin.append_, run_underlying ht, sizeOf, typeInfo, hi, Builtin.lenOf, Builtin.firstCells]
    · simp [Builtin.append_, run_underlying ht, sizeOf, typeInfo, hi, Builtin.lenOf, Builtin.firstCells, hnc, storeCells]
  | some ad =>
    have hnews : ∀ j u, cs[j]? = some u → w.cell? (ad.add j) = some u := by
      intro j u hj
      have hjl : j < cs.length := (List.getElem?_eq_some_iff.1 hj).1
      have hn : 0 < m := by
        rcases Nat.eq_zero_or_pos m with h1 | h1
        · subst h1; omega
        · exact h1
      obtain ⟨b, off, e, _, hcell⟩ := hx (by omega)
      injection e with e
      subst e
      rw [Addr.add_lit]
      exact hcell j u hj
    obtain ⟨v', w', h1, h2, h3, _, h5⟩ := run_append_own_at (P := P) w base t ty e i z size bytes ht hi hz hsize hby hzs hsz v n xs H.own ad m cx cs hl hnews H.one (by unfold maxLen; omega) hbb H.size
    exact ⟨v', w', h1, h2, h3, h5⟩
theorem wpList_append_rwb {P : Program} {base t e size bytes B n m : Nat} {v vx : Value} {xs cs : List Value} {i : TypeInfo} {z : Value} {ops : Array Oper} {rest : List Oper} {o : Oper} {a : Act} {Q : Exit → Act → World → Prop} {w : World} (H : Owb base e size bytes v n xs B vx m cs w)
    (ht : P.underlying t = some (.slice e)) (hi : P.info? e = some i) (hz : i.zero = some z) (hsize : i.size = size) (hby : i.bytes = bytes) (hzs : z.cells.size = size) (hsz : 0 < size)
    (s x : Operand) (ho : o.op = .call { callee := .builtin .append, args := #[s, x], argTypes := #[t, t] }) (hw : Region.wanted o (yielded ops a.tmps) = true) (hs : a.eval s = v) (hx : a.eval x = vx)
    (h : ∀ v' w', w'.ownsRow base e size v' (n + m) (xs ++ cs) → w.grownBy w' v.ownBlock → (v'.ownBlock = v.ownBlock ∨ v'.ownBlock = some w.heap.size) → wpList P ops Q rest (a.put o.dst v') w') : wpList P ops Q (o :: rest) a w :=
  wpList_step fun K hK => by
    rw [if_pos hw]
    obtain ⟨v', w', hr, h2, h3, h4⟩ := run_append_rwb (ty := o.type) ht hi hz hsize hby hzs hsz H
    unfold Oper.wp execOp
    simp only [ho, resolve, invoke, builtin, Sem.run_bind, Sem.run_pure, Result.andThen_ok, List.map_toArray, List.map_cons, List.map_nil, hs, hx, hr]
    exact hK _ _ (h v' w' h2 h3 h4)
end Go.Proofs.Ytgmgceacdmcmlaa
