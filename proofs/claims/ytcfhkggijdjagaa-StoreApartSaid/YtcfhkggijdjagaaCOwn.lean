/-
  Versions in a row of the call's own: appending to it; slices.Clone.
-/
import Derived.Test.YtcfhkggijdjagaaCVs
import Derived.Maps.AppendAt
import Derived.OwnWalk
namespace Go.Proofs.Ytcfhkggijdjagaa
open Go.RowKit

def vfl : List Ve → List Value
  | [] => []
  | v :: r => vcs v ++ vfl r
theorem vfl_append (L R : List Ve) : vfl (L ++ R) = vfl L ++ vfl R := by
  induction L with
  | nil => rfl
  | cons a L ih => simp [vfl, ih]
theorem vfl_length (L : List Ve) : (vfl L).length = L.length * 6 := by
  induction L with
  | nil => rfl
  | cons a L ih => simp [vfl, vcs, ih]; omega
theorem vfl_one (L : List Ve) : ∀ u ∈ vfl L, u.oneCell' = true := by
  induction L with
  | nil => intro u hu; simp [vfl] at hu
  | cons a L ih =>
    intro u hu
    simp only [vfl, List.mem_append] at hu
    rcases hu with hu | hu
    · simp only [vcs, List.mem_cons, List.not_mem_nil, or_false] at hu
      rcases hu with rfl | rfl | rfl | rfl | rfl | rfl <;> rfl
    · exact ih u hu
theorem vcs_length (v : Ve) : (vcs v).length = 6 := rfl
theorem vfl_get : ∀ (L : List Ve) (i k : Nat), i < L.length → k < 6 → (vfl L)[i * 6 + k]? = (vcs (L.getD i dv))[k]?
  | [], i, k, h, _ => absurd h (by simp)
  | v :: r, 0, k, _, hk => by
    simp only [vfl, Nat.zero_mul, Nat.zero_add]
    rw [List.getElem?_append_left (by rw [vcs_length]; exact hk)]
    rfl
  | v :: r, i + 1, k, h, hk => by
    simp only [vfl]
    rw [List.getElem?_append_right (by rw [vcs_length]; omega), vcs_length, show (i + 1) * 6 + k - 6 = i * 6 + k from by omega, vfl_get r i k (by simpa using h) hk]
    rfl

/-- A version's cells one by one. -/
theorem veAt_iff {w : World} {b off : Nat} {x : Ve} : VeAt w b off x ↔ ∀ k u, (vcs x)[k]? = some u → w.cell? ⟨b, off + k, none⟩ = some u := by
  constructor
  · intro h k u hk
    match k, hk with
    | 0, hk => simp [vcs] at hk; rw [← hk]; exact h.c0
    | 1, hk => simp [vcs] at hk; rw [← hk]; exact h.c1
    | 2, hk => simp [vcs] at hk; rw [← hk]; exact h.c2
    | 3, hk => simp [vcs] at hk; rw [← hk]; exact h.c3
    | 4, hk => simp [vcs] at hk; rw [← hk]; exact h.c4
    | 5, hk => simp [vcs] at hk; rw [← hk]; exact h.c5
    | k + 6, hk => simp [vcs] at hk
  · intro h
    exact ⟨h 0 _ rfl, h 1 _ rfl, h 2 _ rfl, h 3 _ rfl, h 4 _ rfl, h 5 _ rfl⟩

/-- The row of the versions L, at v, is the call's own. -/
def VsOwn (base : Nat) (v : Value) (L : List Ve) (w : World) : Prop := w.ownsRow base 37 6 v L.length (vfl L)

theorem VsOwn.at {base : Nat} {v : Value} {L : List Ve} {w : World} (h : VsOwn base v L w) : VsAt w.heap.size v L w := by
  rcases h.2 with ⟨rfl, h0⟩ | ⟨g, cap, cur, rfl, hb, hg, hnc, hcm, hcs, ht⟩
  · have : L = [] := List.eq_nil_of_length_eq_zero h0
    subst this
    exact vs_nil _ _
  · refine ⟨_, cap, rfl, hnc, by unfold maxLen at hcm; omega, fun _ => ⟨g, 0, rfl, fun _ => (Array.getElem?_eq_some_iff.1 hg).1, fun i hi => ?_⟩⟩
    rw [veAt_iff]
    intro k u hk
    have hk6 : k < 6 := by
      rcases Nat.lt_or_ge k 6 with h | h
      · exact h
      · rw [List.getElem?_eq_none (by rw [vcs_length]; exact h)] at hk; cases hk
    have := World.ownsRow.cells h (g := g) rfl (i * 6 + k) u (by rw [vfl_get L i k hi hk6]; exact hk)
    rw [Addr.add_lit] at this
    rw [← this]
    congr 2
    omega
theorem VsAt.cells {B : Nat} {ad : Addr} {n cap : Nat} {X : List Ve} {w : World} (h : VsAt B (.slice (some ad) n cap) X w) : ∀ j u, (vfl X)[j]? = some u → w.cell? (ad.add j) = some u := by
  intro j u hj
  have hjl : j < X.length * 6 := by
    rcases Nat.lt_or_ge j (X.length * 6) with h | h
    · exact h
    · rw [List.getElem?_eq_none (by rw [vfl_length]; exact h)] at hj; cases hj
  obtain ⟨ao, cap', e, hl, hm, h⟩ := h
  simp only [Value.slice.injEq] at e
  obtain ⟨rfl, rfl, rfl⟩ := e
  obtain ⟨b, off, e, hlt, hc⟩ := h (by omega)
  injection e with e
  subst e
  have h1 := veAt_iff.1 (hc (j / 6) (by omega)) (j % 6) u (by rw [← vfl_get X (j / 6) (j % 6) (by omega) (by omega), show j / 6 * 6 + j % 6 = j from by omega]; exact hj)
  rw [Addr.add_lit, ← h1]
  congr 2
  omega
theorem VsOwn.nil (base : Nat) (w : World) : VsOwn base (.slice none 0 0) [] w := World.ownsRow_nil w base 37 6
theorem VsOwn.made (base : Nat) (w : World) (hb : base ≤ w.heap.size) : VsOwn base (.slice (some ⟨w.heap.size, 0, none⟩) 0 0) [] (w.alloc (.cells #[] 37)) := World.ownsRow_made w #[] 0 hb (Nat.zero_le _) rfl
theorem VsOwn.alloc {base : Nat} {v : Value} {L : List Ve} {w : World} (h : VsOwn base v L w) (o : Obj) : VsOwn base v L (w.alloc o) := World.ownsRow.alloc h o

theorem VeAt.grown {w w' : World} {row : Option Nat} {b off : Nat} {x : Ve} (h : VeAt w b off x) (hg : w.grownBy w' row) (hr : ∀ k, row = some k → b ≠ k) : VeAt w' b off x := by
  have hl : b < w.heap.size := World.block_lt_of_cell? _ _ h.c0
  have e : ∀ o, w'.cell? ⟨b, o, none⟩ = w.cell? ⟨b, o, none⟩ := fun o => by
    unfold World.cell?
    rw [hg.block b hl (fun h2 => hr b h2.symm rfl)]
  rw [veAt_iff] at h ⊢
  intro k u hk
  rw [e]
  exact h k u hk
theorem VsAt.grown {B : Nat} {v : Value} {C : List Ve} {w w' : World} {row : Option Nat} (h : VsAt B v C w) (hg : w.grownBy w' row) (hr : ∀ k, row = some k → B ≤ k) : VsAt B v C w' := by
  obtain ⟨ao, cap, rfl, hl, hm, h⟩ := h
  refine ⟨ao, cap, rfl, hl, hm, fun h0 => ?_⟩
  obtain ⟨b, off, rfl, hlt, hc⟩ := h h0
  exact ⟨b, off, rfl, hlt, fun i hi => (hc i hi).grown hg fun k hk => by have := hr k hk; have := hlt (by omega); omega⟩

theorem info30 : (Try.prog.info? 37).map (fun i => (i.zero, i.size, i.bytes)) = some (some (.agg #[.int .u64 0, .int .u32 0, .int .u32 0, .int .u32 0, .string ⟨#[]⟩, .bool false]), 6, 48) := by kernel_rfl

set_option maxRecDepth 100000 in
theorem run_append_vs (base B : Nat) (L X : List Ve) (v vx : Value) (ty : TypeId) (w : World) (hI : VsOwn base v L w) (hX : VsAt B vx X w) (hB : base ≤ w.heap.size) (hl : L.length + X.length ≤ 1048576) :
    ∃ v' w', (Builtin.append_ #[55, 55] ty #[v, vx]).run Try.prog w = .ok v' w' ∧ VsOwn base v' (L ++ X) w' ∧ w.grownBy w' v.ownBlock := by
  obtain ⟨i0, hi, hz0, hz1, hz2⟩ := info_parts info30
  have hX' := hX
  obtain ⟨ax, cx, rfl, hlx, hmx, hx⟩ := hX
  cases ax with
  | none =>
    have h0 : X = [] := by
      cases X with
      | nil => rfl
      | cons a X =>
        obtain ⟨b, o, e, _⟩ := hx (by simp at hlx; omega)
        cases e
    subst h0
    refine ⟨v, w, ?_, by rw [List.append_nil]; exact hI, ⟨rfl, rfl, rfl, Nat.le_refl _, fun _ _ _ => rfl⟩⟩
    rcases hI.2 with ⟨rfl, _⟩ | ⟨g, cap, cur, rfl, _, _, hnc, _⟩
    · simp [Builtin.append_, run_underlying Try.underlying55, sizeOf, typeInfo, hi, Builtin.lenOf, Builtin.firstCells]
    · simp [Builtin.append_, run_underlying Try.underlying55, sizeOf, typeInfo, hi, Builtin.lenOf, Builtin.firstCells, hnc, storeCells]
  | some ad =>
    obtain ⟨v', w', h1, h2, h3, _⟩ := run_append_own (P := Try.prog) w base 55 ty 37 i0 _ 6 48 Try.underlying55 hi hz0 hz1 hz2 rfl (by decide) v L.length (vfl L) hI ad X.length cx (vfl X) (vfl_length X) (VsAt.cells hX') (vfl_one X) (by unfold maxLen; omega) (by omega) hB
    refine ⟨v', w', h1, ?_, h3⟩
    unfold VsOwn
    rw [vfl_append, List.length_append]
    exact h2

theorem wp_append_vs {o : Oper} {a : Act} {K : Act → World → Prop} {Q : Exit → Act → World → Prop} {w : World} (s x : Operand) (ho : o.op = .call { callee := .builtin .append, args := #[s, x], argTypes := #[55, 55] })
    (base B : Nat) (L X : List Ve) (v vx : Value) (hs : a.eval s = v) (hx : a.eval x = vx) (hI : VsOwn base v L w) (hX : VsAt B vx X w) (hB : base ≤ w.heap.size) (hl : L.length + X.length ≤ 1048576)
    (h : ∀ v' w', VsOwn base v' (L ++ X) w' → w.grownBy w' v.ownBlock → K (a.put o.dst v') w') : o.wp Try.prog a w K Q := by
  obtain ⟨v', w', hr, h2, h3⟩ := run_append_vs base B L X v vx o.type w hI hX hB hl
  unfold Oper.wp execOp
  simp only [ho, resolve, invoke, builtin, Sem.run_bind, Sem.run_pure, Result.andThen_ok, List.map_toArray, List.map_cons, List.map_nil, hs, hx, hr]
  exact h v' w' h2 h3

theorem wpList_append_vs {ops : Array Oper} {rest : List Oper} {o : Oper} {a : Act} {Q : Exit → Act → World → Prop} {w : World} (hw : Region.wanted o (yielded ops a.tmps) = true) (s x : Operand) (ho : o.op = .call { callee := .builtin .append, args := #[s, x], argTypes := #[55, 55] })
    (base B : Nat) (L X : List Ve) (v vx : Value) (hs : a.eval s = v) (hx : a.eval x = vx) (hI : VsOwn base v L w) (hX : VsAt B vx X w) (hB : base ≤ w.heap.size) (hl : L.length + X.length ≤ 1048576)
    (h : ∀ v' w', VsOwn base v' (L ++ X) w' → w.grownBy w' v.ownBlock → wpList Try.prog ops Q rest (a.put o.dst v') w') : wpList Try.prog ops Q (o :: rest) a w :=
  wpList_step fun K hK => by
    rw [if_pos hw]
    exact wp_append_vs s x ho base B L X v vx hs hx hI hX hB hl fun v' w' h1 h2 => hK _ _ (h v' w' h1 h2)

theorem below_grown {base : Nat} {v : Value} {L : List Ve} {a w w' : World} (hb : Below base a w) (hs : base ≤ w.heap.size) (hI : VsOwn base v L w) (hg : w.grownBy w' v.ownBlock) : Below base a w' :=
  hb.grown hg hs fun k hk => (World.ownsRow.lt hI k hk).1

set_option maxHeartbeats 1600000 in
theorem clone27 (B : Nat) (C : List Ve) (v : Value) (w : World) (hv : VsAt B v C w) (hB : B ≤ w.heap.size) (hl : C.length ≤ 1048576) :
    Calls Try.prog 48 #[v] w fun e w' => ∃ v', e = .returned v' ∧ VsAt w'.heap.size v' C w' ∧ Below w.heap.size w w' := by
  have hv' := hv
  obtain ⟨ao, cap, rfl, hlc, hcm, hx⟩ := hv
  have H : Hid (VsAt B (.slice ao C.length cap) C w) := hv'
  have q22 : ∀ (w : World) (a : Option Addr) (n c n' c' : Nat), (binOp .eql 55 (.slice a n c) (.slice none n' c')).run Try.prog w = .ok (.bool a.isNone) w := fun w a n c n' c' => Lib.run_eql_slice_nil w _ _ a n c n' c' Try.underlying55
  cases ao with
  | none =>
    have h0 : C = [] := by
      cases C with
      | nil => rfl
      | cons a X =>
        obtain ⟨b, o, e, _⟩ := hx (by simp at hlc; omega)
        cases e
    subst h0
    clear hx hv'
    go_enter Try.func48, Try.ntmps48
    go_wp2
    go_ret
    exact ⟨_, rfl, vs_nil _ _, Below.refl _ _⟩
  | some ad =>
    clear hx hv'
    have HL : Hid _ := hl
    have HB : Hid _ := hB
    have HM : Hid (VsOwn w.heap.size (.slice (some ⟨w.heap.size, 0, none⟩) 0 0) [] (w.alloc (.cells #[] 37))) := VsOwn.made _ w (Nat.le_refl _)
    clear hl hB hlc hcm
    go_enter Try.func48, Try.ntmps48
    go_wp2_with (at_builtin; refine wpList_append_vs rfl _ _ rfl w.heap.size w.heap.size [] C _ _ rfl rfl HM.out ((H.out.le HB.out).on ((Below.refl _ w).alloc (Nat.le_refl _) _)) (by simp) (by simpa using HL.out) ?_)
    intro v' w1 hown hg
    have HO : Hid (VsOwn w.heap.size v' C w1) := hown
    have HG : Hid (Below w.heap.size w w1) := below_grown ((Below.refl _ w).alloc (Nat.le_refl _) _) (by simp) HM.out hg
    clear hown hg
    go_wp2
    go_ret
    exact ⟨_, rfl, HO.out.at, HG.out⟩
end Go.Proofs.Ytcfhkggijdjagaa
