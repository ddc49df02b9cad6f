/-
  VerdictStays: what is asked of a book, plain; and its memory.
-/
import Derived.Test.YtkadaoebehgkbaaRnw
namespace Go.Proofs.Ytkadaoebehgkbaa
open Go.RowKit
variable {BA : Nat → Nat → (Nat → Prop) → Bk → World → Prop}

theorem stay_set {K : Bk} {u o : Vd} {c n : Int} (h : getB c n K = some o) : getB c n (setB u K).1 = some o := by
  unfold setB
  split
  · split
    · exact h
    · rename_i hg
      dsimp only
      rw [get_ins hg, if_neg]
      · exact h
      · intro e
        obtain ⟨e1, e2⟩ := ofN_iff.1 e
        rw [e1, e2, h] at hg
        cases hg
  · exact h
theorem stay_done {K : Bk} {o : Vd} {c n c' n' : Int} (h : getB c n K = some o) : getB c n (doneB c' n' K).1 = some { o with dn := ((doneB c' n' K).2 && (c' == c && n' == n)) || o.dn } := by
  obtain ⟨-, h1, h2⟩ := get_mem h
  unfold doneB
  split
  · rename_i o' ho
    split
    · dsimp only
      rw [get_done, h]
      simp only [Option.map_some, Bool.true_and, Option.some.injEq]
      by_cases e : c' = c ∧ n' = n
      · obtain ⟨rfl, rfl⟩ := e
        rw [if_pos (ofN_iff.2 ⟨h1, h2⟩)]
        simp
      · rw [if_neg (fun x => e ⟨(ofN_iff.1 x).1.symm.trans h1, (ofN_iff.1 x).2.symm.trans h2⟩)]
        have : (c' == c && n' == n) = false := by
          rw [← Bool.not_eq_true]
          simpa using e
        rw [this]
        rfl
    · exact h
  · exact h
theorem stay_done_no {K : Bk} {o : Vd} {c n c' n' : Int} (h : getB c n K = some o) (h2 : ((doneB c' n' K).2 && (c' == c && n' == n)) = false) : getB c n (doneB c' n' K).1 = some o := by
  have := stay_done (c' := c') (n' := n') h
  rw [h2] at this
  exact this
theorem stay_ret {K : Bk} (hs : SrtV K) {o : Vd} {c n sp sl : Int} {L : List (Int × Int)} (h : getB c n K = some o) : getB c n (retB sp sl ((c, n) :: L) K) = some o := by
  obtain ⟨-, h1, h2⟩ := get_mem h
  unfold retB
  rw [get_filter hs, h]
  dsimp only
  rw [if_pos]
  unfold stayB
  rw [h1, h2]
  simp
theorem stay_own {K : Bk} (hs : SrtV K) {o : Vd} {c n : Int} {L : List (Int × Int)} (h : getB c n K = some o) : getB c n (retB o.sp o.sl L K) = some o := by
  unfold retB
  rw [get_filter hs, h]
  dsimp only
  rw [if_pos]
  unfold stayB lessB
  simp
theorem stay_end {K : Bk} (hs : SrtV K) {o : Vd} {c n : Int} (h : getB c n K = some o) (hr : rightB o.sp o.sl = true) : (getB c n (retB 281474976710656 4095 [] K)).isSome = ((o.sp == 281474976710656 && o.sl == 4095) || (cmB o && !o.dn)) := by
  unfold retB
  rw [get_filter hs, h]
  dsimp only
  have e : stayB 281474976710656 4095 [] o = ((o.sp == 281474976710656 && o.sl == 4095) || (cmB o && !o.dn)) := by
    unfold stayB
    have hl : (!lessB o.sp o.sl 281474976710656 4095) = (o.sp == 281474976710656 && o.sl == 4095) := by
      simp only [rightB, decide_eq_true_eq] at hr
      unfold lessB
      rw [Bool.eq_iff_iff]
      simp only [Bool.not_eq_true', decide_eq_false_iff_not, Bool.and_eq_true, beq_iff_eq]
      omega
    rw [hl]
    simp
  rw [e]
  split <;> simp_all
theorem set_one {v : Vd} (h : okV v = true) : setB v [] = ([v], 0) := by
  unfold setB
  rw [if_pos h]
  rfl
/-- An append of rows of any length that memory holds. -/
structure Owb (base e size bytes : Nat) (v : Value) (n : Nat) (xs : List Value) (B : Nat) (vx : Value) (m : Nat) (cs : List Value) (w : World) : Prop where
  own : w.ownsRow base e size v n xs
  new : RwAt B size vx m cs w
  one : ∀ u ∈ cs, u.oneCell' = true
  size : base ≤ w.heap.size
  len : (n + m) * bytes ≤ 140737488355328
  pos : 0 < bytes

set_option maxRecDepth 100000 in
theorem run_append_rwb {P : Program} {base t ty e size bytes B n m : Nat} {v vx : Value} {xs cs : List Value} {i : TypeInfo} {z : Value} {w : World} (ht : P.underlying t = some (.slice e)) (hi : P.info? e = some i) (hz : i.zero = some z)
    (hsize : i.size = size) (hby : i.bytes = bytes) (hzs : z.cells.size = size) (hsz : 0 < size) (H : Owb base e size bytes v n xs B vx m cs w) :
    ∃ v' w', (Builtin.append_ #[t, t] ty #[v, vx]).run P w = .ok v' w' ∧ w'.ownsRow base e size v' (n + m) (xs ++ cs) ∧ w.grownBy w' v.ownBlock ∧ (v'.ownBlock = v.ownBlock ∨ v'.ownBlock = some w.heap.size) := by
  obtain ⟨ax, cx, rfl, hl, hm, hc, hx⟩ := H.new
  have hbb := H.len
  have hlen : n + m ≤ 140737488355328 := Nat.le_trans (Nat.le_mul_of_pos_right _ H.pos) hbb
  have hm0 : ax = none → m = 0 := fun h => by
    subst h
    rcases Nat.eq_zero_or_pos m with h1 | h1
    · exact h1
    · obtain ⟨b, o, e, _⟩ := hx (by omega)
      cases e
  cases ax with
  | none =>
    have h0 := hm0 rfl
    subst h0
    have hcs : cs = [] := List.eq_nil_of_length_eq_zero (by simpa using hl)
    subst hcs
    refine ⟨v, w, ?_, by simpa using H.own, ⟨rfl, rfl, rfl, Nat.le_refl _, fun _ _ _ => rfl⟩, .inl rfl⟩
    rcases H.own.2 with ⟨rfl, _⟩ | ⟨g, cap, cur, rfl, _, _, hnc, _⟩
    · simp [Builtin.append_, run_underlying ht, sizeOf, typeInfo, hi, Builtin.lenOf, Builtin.firstCells]
    · simp [Builtin.append_, run_underlying ht, sizeOf, typeInfo, hi, Builtin.lenOf, Builtin.firstCells, hnc, storeCells]
  | some ad =>
    have hnews : ∀ j u, cs[j]? = some u → w.cell? (ad.add j) = some u := by
      intro j u hj
      have hjl : j < cs.length := (List.getElem?_eq_some_iff.1 hj).1
      have hn : 0 < m := by
        rcases Nat.eq_zero_or_pos m with h1 | h1
        · subst h1; omega
        · exact h1
      obtain ⟨b, off, e, _, hcell⟩ := hx (by omega)
      injection e with e
      subst e
      rw [Addr.add_lit]
      exact hcell j u hj
    obtain ⟨v', w', h1, h2, h3, _, h5⟩ := run_append_own_at (P := P) w base t ty e i z size bytes ht hi hz hsize hby hzs hsz v n xs H.own ad m cx cs hl hnews H.one (by unfold maxLen; omega) hbb H.size
    exact ⟨v', w', h1, h2, h3, h5⟩
theorem step_append_rwb {P : Program} {base t e size bytes B n m : Nat} {v vx : Value} {xs cs : List Value} {i : TypeInfo} {z : Value} {ops : Array Oper} {o : Oper} {a : Act} {K : Act → World → Prop} {Q : Exit → Act → World → Prop} {E : Prop} {w : World} (H : Owb base e size bytes v n xs B vx m cs w)
    (ht : P.underlying t = some (.slice e)) (hi : P.info? e = some i) (hz : i.zero = some z) (hsize : i.size = size) (hby : i.bytes = bytes) (hzs : z.cells.size = size) (hsz : 0 < size)
    (s x : Operand) (ho : o.op = .call { callee := .builtin .append, args := #[s, x], argTypes := #[t, t] }) (hw : Region.wanted o (yielded ops a.tmps) = true) (hs : a.eval s = v) (hx : a.eval x = vx)
    (h : ∀ v' w', w'.ownsRow base e size v' (n + m) (xs ++ cs) → w.grownBy w' v.ownBlock → (v'.ownBlock = v.ownBlock ∨ v'.ownBlock = some w.heap.size) → K (a.put o.dst v') w') : if Region.wanted o (yielded ops a.tmps) = true then Oper.wp P o a w K Q else E := by
  rw [if_pos hw]
  obtain ⟨v', w', hr, h2, h3, h4⟩ := run_append_rwb (ty := o.type) ht hi hz hsize hby hzs hsz H
  unfold Oper.wp execOp
  simp only [ho, resolve, invoke, builtin, Sem.run_bind, Sem.run_pure, Result.andThen_ok, List.map_toArray, List.map_cons, List.map_nil, hs, hx, hr]
  exact h v' w' h2 h3 h4

/-- The book and the verdict in its box. -/
structure Sv (BA : Nat → Nat → (Nat → Prop) → Bk → World → Prop) (w : World) (p : Nat) (K : Bk) (bv : Nat) (v : Vd) (W : World) : Prop where
  pz : Pz BA w p K (fun k => k = bv) W
  b0 : W.heap[bv]? = some (vbx v)
theorem Sv.on (I : Ifv BA) {w W W' : World} {p bv : Nat} {K : Bk} {v : Vd} (h : Sv BA w p K bv v W) (hb : Below W.heap.size W W') : Sv BA w p K bv v W' := ⟨h.pz.on I hb, heap_on hb h.b0⟩
theorem Sv.all {w W : World} {p bv : Nat} {K : Bk} {v : Vd} (h : Sv BA w p K bv v W) : W.cell? ⟨bv, 0, none⟩ = some (.int .u32 v.c) ∧ W.cell? ⟨bv, 1, none⟩ = some (.int .u32 v.n) ∧ W.cell? ⟨bv, 2, none⟩ = some (.int .u64 v.sp) ∧ W.cell? ⟨bv, 3, none⟩ = some (.int .u32 v.sl) ∧ W.cell? ⟨bv, 4, none⟩ = some (.int .u64 v.ap) ∧ W.cell? ⟨bv, 5, none⟩ = some (.int .u32 v.al) ∧ W.cell? ⟨bv, 6, none⟩ = some (.int .u8 v.pt) ∧ W.cell? ⟨bv, 7, none⟩ = some (.bool v.dn) := ⟨block_cell h.b0 rfl, block_cell h.b0 rfl, block_cell h.b0 rfl, block_cell h.b0 rfl, block_cell h.b0 rfl, block_cell h.b0 rfl, block_cell h.b0 rfl, block_cell h.b0 rfl⟩
/-- And an act in its. -/
structure Sx (BA : Nat → Nat → (Nat → Prop) → Bk → World → Prop) (w : World) (p : Nat) (K : Bk) (bv : Nat) (v : Vd) (bx : Nat) (a : Ac) (W : World) : Prop where
  pz : Pz BA w p K (fun k => k = bv ∨ k = bx) W
  b0 : W.heap[bv]? = some (vbx v)
  b1 : W.heap[bx]? = some (abx a)
section
variable {w W W' : World} {p bv bx : Nat} {K : Bk} {v : Vd} {a : Ac}
theorem Sx.on (I : Ifv BA) (h : Sx BA w p K bv v bx a W) (hb : Below W.heap.size W W') : Sx BA w p K bv v bx a W' := ⟨h.pz.on I hb, heap_on hb h.b0, heap_on hb h.b1⟩
theorem Sx.sv (h : Sx BA w p K bv v bx a W) : Sv BA w p K bv v W := ⟨h.pz.less (fun _ e => .inl e), h.b0⟩
theorem Sv.sx (I : Ifv BA) (h : Sv BA w p K bv v W) : Sx BA w p K bv v W.heap.size a (W.alloc (abx a)) :=
  ⟨h.pz.more I (al _) (fun k hk => by rcases hk with e | e; exact .inl e; exact .inr ⟨by omega, by rw [e]; simp⟩), heap_on (al _) h.b0, heap_alloc_new W _⟩
theorem sx_set (I : Ifv BA) (h : Sx BA w p K bv v bx a W) (hl : K.length < 8900) (hv : RgV a.v) : Calls Try.prog 9 #[.pointer (some ⟨p, 0, none⟩), .agg #[.int .u32 a.v.c, .int .u32 a.v.n, .int .u64 a.v.sp, .int .u32 a.v.sl, .int .u64 a.v.ap, .int .u32 a.v.al, .int .u8 a.v.pt, .bool a.v.dn]] W fun e w' => ∃ r, e = .returned (.int .i64 r) ∧ Sx BA w p (setB a.v K).1 bv v bx a w' := by
  refine (pz_set I a.v h.pz hl hv).mono ?_
  rintro e w' ⟨rfl, h3, h4⟩
  exact ⟨_, rfl, h3, h4.block (.inl (.inl rfl)) h.b0, h4.block (.inl (.inr rfl)) h.b1⟩
theorem sx_done (I : Ifv BA) (h : Sx BA w p K bv v bx a W) (hv : RgV a.v) : Calls Try.prog 11 #[.pointer (some ⟨p, 0, none⟩), .agg #[.int .u32 a.v.c, .int .u32 a.v.n]] W fun e w' => e = .returned (.bool (doneB a.v.c a.v.n K).2) ∧ Sx BA w p (doneB a.v.c a.v.n K).1 bv v bx a w' := by
  refine (pz_done I a.v.c a.v.n h.pz ⟨hv.c, hv.n⟩).mono ?_
  rintro e w' ⟨rfl, h3, h4⟩
  exact ⟨rfl, h3, h4.block (.inl (.inl rfl)) h.b0, h4.block (.inl (.inr rfl)) h.b1⟩
theorem sx_ret (I : Ifv BA) {L : List (Int × Int)} {v' : Value} {sp sl : Int} (h : Sx BA w p K bv v bx a W) (hb : Below W.heap.size W W') (ho : W'.ownsRow W.heap.size 32 2 v' L.length (rowC txc L)) (hs : R64 sp ∧ R32 sl) (hL : RgT L) (hz : L.length * 8 ≤ 140737488355328) : Calls Try.prog 13 #[.pointer (some ⟨p, 0, none⟩), .agg #[.int .u64 sp, .int .u32 sl], v'] W' fun e w' => ∃ r, e = .returned (.int .i64 r) ∧ Sx BA w p (retB sp sl L K) bv v bx a w' := by
  have h1 := h.pz.more I (G := fun k => (k = bv ∨ k = bx) ∨ v'.ownBlock = some k) hb (fun k hk => by rcases hk with e | e; exact .inl e; exact .inr (World.ownsRow.lt ho k e))
  refine (pz_retire I sp sl L v' h1 hs hL hz (rw_own ho) (fun _ k hk => .inr (.inr hk))).mono ?_
  rintro e w' ⟨rfl, h3, h4⟩
  exact ⟨_, rfl, h3.less (fun _ e => .inl e), h4.block (.inl (.inl (.inl rfl))) (heap_on hb h.b0), h4.block (.inl (.inl (.inr rfl))) (heap_on hb h.b1)⟩
theorem sv_ret (I : Ifv BA) {sp sl : Int} (h : Sv BA w p K bv v W) (hs : R64 sp ∧ R32 sl) : Calls Try.prog 13 #[.pointer (some ⟨p, 0, none⟩), .agg #[.int .u64 sp, .int .u32 sl], .slice none 0 0] W fun e w' => ∃ r, e = .returned (.int .i64 r) ∧ Sv BA w p (retB sp sl [] K) bv v w' := by
  refine (pz_retire I sp sl [] (.slice none 0 0) h.pz hs rg_nil (by simp) (ts_nil _ _) (fun h0 => absurd h0 (by simp))).mono ?_
  rintro e w' ⟨rfl, h3, h4⟩
  exact ⟨_, rfl, h3, h4.block (.inl rfl) h.b0⟩
theorem sv_of (I : Ifv BA) (h : Sv BA w p K bv v W) (hv : RgV v) : Calls Try.prog 15 #[.pointer (some ⟨p, 0, none⟩), .agg #[.int .u32 v.c, .int .u32 v.n]] W fun e w' => e = .returned (ofV (getB v.c v.n K)) ∧ Sv BA w p K bv v w' := by
  refine (pz_of I v.c v.n h.pz ⟨hv.c, hv.n⟩).mono ?_
  rintro e w' ⟨rfl, h3, hb⟩
  exact ⟨rfl, h3, heap_on hb h.b0⟩
theorem Sv.ok (I : Ifv BA) (h : Sv BA w p K bv v W) : SrtV K := h.pz.ok I
end
theorem info32 : (Try.prog.info? 32).map (fun i => (i.zero, i.size, i.bytes)) = some (some (.agg #[.int .u32 0, .int .u32 0]), 2, 8) := by kernel_rfl
theorem txc_one : ∀ x, ∀ u ∈ txc x, u.oneCell' = true := fun x u hu => by
  simp only [txc, List.mem_cons, List.not_mem_nil, or_false] at hu
  rcases hu with rfl | rfl <;> rfl
end Go.Proofs.Ytkadaoebehgkbaa
