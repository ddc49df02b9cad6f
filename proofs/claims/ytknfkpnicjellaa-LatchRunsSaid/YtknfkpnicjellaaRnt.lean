/-
  LatchRuns: what the walk holds on to behind the switch.
-/
import Derived.Test.YtknfkpnicjellaaRns
namespace Go.Proofs.Ytknfkpnicjellaa
open Go.RowKit
variable {TA : Nat → Nat → (Nat → Prop) → Tb → World → Prop}

theorem pr_start (I : Ifl TA) {w W : World} {p : Nat} (h : Pz TA w p [] (fun _ => False) W) : Pr TA w p W.heap.size [] [] (fun _ => False) (W.alloc (.cells #[.slice none 0 0] 29)) := by
  refine ⟨W.heap.size, .slice none 0 0, h.more I (al _) (fun k hk => .inr ?_), ⟨heap_alloc_new W _, World.ownsRow_nil _ _ _ _, Nat.le_refl _, by simp [Value.ownBlock], TOk.nil⟩, h.bel.size, fun _ _ h => h⟩
  rcases hk with hk | hk | hk
  · exact hk.elim
  · rw [hk]
    exact ⟨Nat.le_refl _, by simp⟩
  · cases hk
theorem Rx.dr (I : Ifl TA) {w W : World} {p rb bx : Nat} {Tp Td : Tb} {a : Ac} (h : Rx TA w p rb Tp Td a bx W) : Rx TA w p rb Tp Td a bx W.drew := h.on I (Below.refl _ _).drew
theorem Ry.dr (I : Ifl TA) {w W : World} {p rb bx base : Nat} {Tp Td : Tb} {a : Ac} {v : Value} {K : List Wr} (h : Ry TA w p rb Tp Td a bx base v K W) : Ry TA w p rb Tp Td a bx base v K W.drew := h.on I (Below.refl _ _).drew
theorem Ry.eight {w W : World} {p rb bx base : Nat} {Tp Td : Tb} {a : Ac} {v : Value} {K : List Wr} (h : Ry TA w p rb Tp Td a bx base v K W) : W.cell? ⟨bx, 1, none⟩ = some (.int .u32 a.c) ∧ W.cell? ⟨bx, 2, none⟩ = some (.int .u32 a.n) ∧ W.cell? ⟨bx, 3, none⟩ = some (.int .u64 a.sp) ∧ W.cell? ⟨bx, 4, none⟩ = some (.int .u32 a.sl) ∧ W.cell? ⟨bx, 5, none⟩ = some (.int .u64 a.mp) ∧ W.cell? ⟨bx, 6, none⟩ = some (.int .u32 a.ml) ∧ W.cell? ⟨bx, 7, none⟩ = some (.string (bs a.prim)) ∧ W.cell? ⟨bx, 8, none⟩ = some (.slice a.wa a.ws.length a.wc) := ⟨block_cell h.b0 rfl, block_cell h.b0 rfl, block_cell h.b0 rfl, block_cell h.b0 rfl, block_cell h.b0 rfl, block_cell h.b0 rfl, block_cell h.b0 rfl, block_cell h.b0 rfl⟩
/-- What the append begins with. -/
theorem rx_ow {w W : World} {p rb bx B : Nat} {Tp Td : Tb} {a : Ac} (h : Rx TA w p rb Tp Td a bx W) (ha : AcOk B a w) (hB : B ≤ w.heap.size) (hl : a.ws.length ≤ 200) : Ow W.heap.size 44 3 (.slice (some ⟨W.heap.size, 0, none⟩) 0 0) 0 [] B (.slice a.wa a.ws.length a.wc) a.ws.length (rowC wrc a.ws) (W.alloc (.cells #[] 44)) :=
  ⟨World.ownsRow_made W #[] 0 (Nat.le_refl _) (Nat.zero_le _) rfl, RwAt.on ha.ws ((h.pr.bel.mono hB).trans ((al _).mono (Nat.le_trans hB h.pr.bel.size))), rowC_cells wrc wrc_one _, by simp, by omega⟩
/-- What it ends with. -/
theorem ry_made (I : Ifl TA) {w W W' : World} {p rb bx : Nat} {Tp Td : Tb} {a : Ac} {v : Value} (h : Rx TA w p rb Tp Td a bx W) (ho : W'.ownsRow W.heap.size 44 3 v (0 + a.ws.length) ([] ++ rowC wrc a.ws)) (hg : (W.alloc (.cells #[] 44)).grownBy W' (some W.heap.size)) : Ry TA w p rb Tp Td a bx W.heap.size v a.ws W' := by
  rw [Nat.zero_add, List.nil_append] at ho
  have hb : Below W.heap.size W W' := below_own (e := 44) (size := 3) (v := .slice (some ⟨W.heap.size, 0, none⟩) 0 0) (al _) (by simp) (World.ownsRow_made W #[] 0 (Nat.le_refl _) (Nat.zero_le _) rfl) hg
  have hlb := (Array.getElem?_eq_some_iff.1 h.b0).1
  refine ⟨h.pr.more I hb (fun k hk => ?_), by rw [hb.block bx hlb]; exact h.b0, ho, fun e => ?_, h.pr.bel.size⟩
  · rcases hk with e | e
    · exact .inl e
    · exact .inr (World.ownsRow.lt ho k e)
  · have := (World.ownsRow.lt ho bx e).1
    omega
/-- An element of the copy. -/
theorem Ry.el {w W : World} {p rb bx base : Nat} {Tp Td : Tb} {a : Ac} {sa : Option Addr} {n sc : Nat} {L : List Wr} {k : Nat} (hn : n = L.length) (h : Ry TA w p rb Tp Td a bx base (.slice sa n sc) (inN L k) W) (hk : k < n) : ∃ g, sa = some ⟨g, 0, none⟩ ∧ WrAt W g (k * 3) (L.getD k dw) ∧ ∀ j, W.frozen? ⟨g, j, none⟩ = false := by
  subst hn
  have hrow := h.row
  rw [inN_len] at hrow
  obtain ⟨_, e | ⟨g, cap, cur, e, hg, hc⟩⟩ := hrow
  · exact absurd e.2 (by omega)
  · injection e with e1 e2 e3
    subst e1
    have hr := h.row
    rw [inN_len] at hr
    have he := WsAt.el (L := inN L k) (ao := some ⟨g, 0, none⟩) (cap := sc) (by have := rw_own hr; rw [← inN_len L k] at this; exact this) (i := k) (by rw [inN_len]; exact hk)
    obtain ⟨b, off, e, hw⟩ := he
    injection e with e
    injection e with e1 e2
    subst e1 e2
    rw [inN_at hk, Nat.zero_add] at hw
    exact ⟨g, rfl, hw, fun j => own_frozen hr j⟩

/-- Behind the switch: the act, the two answers of First, the two of Of. -/
structure Rq (TA : Nat → Nat → (Nat → Prop) → Tb → World → Prop) (w : World) (p rb : Nat) (sl : Value) (T : Tb) (a : Ac) (bx b9 b11 b13 b15 : Nat) (x y : List UInt8 × Ii) (W : World) : Prop where
  rx : Rx TA w p rb T T a bx W
  rt : ∃ B, RtAt B rb sl T W
  i9 : W.heap[b9]? = some (ibx x)
  i11 : W.heap[b11]? = some (ibx x)
  i13 : W.heap[b13]? = some (ibx y)
  i15 : W.heap[b15]? = some (ibx y)
section
variable {w W : World} {p rb bx b9 b11 b13 b15 : Nat} {sl : Value} {T : Tb} {a : Ac} {x y : List UInt8 × Ii}
theorem Rq.on (I : Ifl TA) {W' : World} (h : Rq TA w p rb sl T a bx b9 b11 b13 b15 x y W) (hb : Below W.heap.size W W') : Rq TA w p rb sl T a bx b9 b11 b13 b15 x y W' := by
  obtain ⟨B, hr⟩ := h.rt
  exact ⟨h.rx.on I hb, ⟨B, hr.on hb⟩, by rw [hb.block _ (Array.getElem?_eq_some_iff.1 h.i9).1]; exact h.i9, by rw [hb.block _ (Array.getElem?_eq_some_iff.1 h.i11).1]; exact h.i11, by rw [hb.block _ (Array.getElem?_eq_some_iff.1 h.i13).1]; exact h.i13, by rw [hb.block _ (Array.getElem?_eq_some_iff.1 h.i15).1]; exact h.i15⟩
theorem Rq.dr (I : Ifl TA) (h : Rq TA w p rb sl T a bx b9 b11 b13 b15 x y W) : Rq TA w p rb sl T a bx b9 b11 b13 b15 x y W.drew := h.on I (Below.refl _ _).drew
theorem Rq.lst (h : Rq TA w p rb sl T a bx b9 b11 b13 b15 x y W) : W.cell? ⟨rb, 0, none⟩ = some sl := by
  obtain ⟨B, hr⟩ := h.rt
  exact hr.cell
theorem Rq.all (h : Rq TA w p rb sl T a bx b9 b11 b13 b15 x y W) : W.cell? ⟨b9, 0, none⟩ = some (.int .u32 x.2.c) ∧ W.cell? ⟨b9, 1, none⟩ = some (.int .u32 x.2.n) ∧ W.cell? ⟨b9, 2, none⟩ = some (.int .u64 x.2.sp) ∧ W.cell? ⟨b9, 3, none⟩ = some (.int .u32 x.2.sl) ∧ W.cell? ⟨b9, 4, none⟩ = some (.int .u64 x.2.mp) ∧ W.cell? ⟨b9, 5, none⟩ = some (.int .u32 x.2.ml) ∧ W.cell? ⟨b9, 6, none⟩ = some (.string (bs x.2.prim)) ∧ W.cell? ⟨b9, 7, none⟩ = some (.string (bs x.1)) ∧ W.cell? ⟨b9, 8, none⟩ = some (.string (bs x.2.val)) ∧ W.cell? ⟨b9, 9, none⟩ = some (.bool x.2.dead) ∧ W.cell? ⟨b11, 0, none⟩ = some (.int .u32 x.2.c) ∧ W.cell? ⟨b11, 1, none⟩ = some (.int .u32 x.2.n) ∧ W.cell? ⟨b11, 2, none⟩ = some (.int .u64 x.2.sp) ∧ W.cell? ⟨b11, 3, none⟩ = some (.int .u32 x.2.sl) ∧ W.cell? ⟨b11, 4, none⟩ = some (.int .u64 x.2.mp) ∧ W.cell? ⟨b11, 5, none⟩ = some (.int .u32 x.2.ml) ∧ W.cell? ⟨b11, 6, none⟩ = some (.string (bs x.2.prim)) ∧ W.cell? ⟨b11, 7, none⟩ = some (.string (bs x.1)) ∧ W.cell? ⟨b11, 8, none⟩ = some (.string (bs x.2.val)) ∧ W.cell? ⟨b11, 9, none⟩ = some (.bool x.2.dead) ∧ W.cell? ⟨b13, 0, none⟩ = some (.int .u32 y.2.c) ∧ W.cell? ⟨b13, 1, none⟩ = some (.int .u32 y.2.n) ∧ W.cell? ⟨b13, 2, none⟩ = some (.int .u64 y.2.sp) ∧ W.cell? ⟨b13, 3, none⟩ = some (.int .u32 y.2.sl) ∧ W.cell? ⟨b13, 4, none⟩ = some (.int .u64 y.2.mp) ∧ W.cell? ⟨b13, 5, none⟩ = some (.int .u32 y.2.ml) ∧ W.cell? ⟨b13, 6, none⟩ = some (.string (bs y.2.prim)) ∧ W.cell? ⟨b13, 7, none⟩ = some (.string (bs y.1)) ∧ W.cell? ⟨b13, 8, none⟩ = some (.string (bs y.2.val)) ∧ W.cell? ⟨b13, 9, none⟩ = some (.bool y.2.dead) ∧ W.cell? ⟨b15, 0, none⟩ = some (.int .u32 y.2.c) ∧ W.cell? ⟨b15, 1, none⟩ = some (.int .u32 y.2.n) ∧ W.cell? ⟨b15, 2, none⟩ = some (.int .u64 y.2.sp) ∧ W.cell? ⟨b15, 3, none⟩ = some (.int .u32 y.2.sl) ∧ W.cell? ⟨b15, 4, none⟩ = some (.int .u64 y.2.mp) ∧ W.cell? ⟨b15, 5, none⟩ = some (.int .u32 y.2.ml) ∧ W.cell? ⟨b15, 6, none⟩ = some (.string (bs y.2.prim)) ∧ W.cell? ⟨b15, 7, none⟩ = some (.string (bs y.1)) ∧ W.cell? ⟨b15, 8, none⟩ = some (.string (bs y.2.val)) ∧ W.cell? ⟨b15, 9, none⟩ = some (.bool y.2.dead) ∧ W.cell? ⟨bx, 1, none⟩ = some (.int .u32 a.c) ∧ W.cell? ⟨bx, 2, none⟩ = some (.int .u32 a.n) ∧ W.cell? ⟨bx, 8, none⟩ = some (.slice a.wa a.ws.length a.wc) ∧ W.cell? ⟨rb, 0, none⟩ = some sl :=
  ⟨block_cell h.i9 rfl, block_cell h.i9 rfl, block_cell h.i9 rfl, block_cell h.i9 rfl, block_cell h.i9 rfl, block_cell h.i9 rfl, block_cell h.i9 rfl, block_cell h.i9 rfl, block_cell h.i9 rfl, block_cell h.i9 rfl, block_cell h.i11 rfl, block_cell h.i11 rfl, block_cell h.i11 rfl, block_cell h.i11 rfl, block_cell h.i11 rfl, block_cell h.i11 rfl, block_cell h.i11 rfl, block_cell h.i11 rfl, block_cell h.i11 rfl, block_cell h.i11 rfl, block_cell h.i13 rfl, block_cell h.i13 rfl, block_cell h.i13 rfl, block_cell h.i13 rfl, block_cell h.i13 rfl, block_cell h.i13 rfl, block_cell h.i13 rfl, block_cell h.i13 rfl, block_cell h.i13 rfl, block_cell h.i13 rfl, block_cell h.i15 rfl, block_cell h.i15 rfl, block_cell h.i15 rfl, block_cell h.i15 rfl, block_cell h.i15 rfl, block_cell h.i15 rfl, block_cell h.i15 rfl, block_cell h.i15 rfl, block_cell h.i15 rfl, block_cell h.i15 rfl, block_cell h.rx.b0 rfl, block_cell h.rx.b0 rfl, block_cell h.rx.b0 rfl, h.lst⟩
theorem is_on {v : Value} {K : Tb} {W' : World} (h : IsAt W.heap.size v K W) (hb : Below W.heap.size W W') : IsAt W'.heap.size v K W' := RwAt.le (RwAt.on h hb) hb.size
theorem rq_byP (I : Ifl TA) (h : Rq TA w p rb sl T a bx b9 b11 b13 b15 x y W) : Calls Try.prog 21 #[.pointer (some ⟨p, 0, none⟩), .agg #[.int .u32 a.c, .int .u32 a.n]] W fun e w' => ∃ v', e = .returned v' ∧ IsAt w'.heap.size v' (byF a.c a.n T) w' ∧ Rq TA w p rb sl T a bx b9 b11 b13 b15 x y w' := by
  refine (pr_byP I a.c a.n h.rx.pr).mono ?_
  rintro e w' ⟨v', rfl, h1, hb⟩
  exact ⟨v', rfl, h1, h.on I hb⟩
theorem rq_byD (I : Ifl TA) {v : Value} {K : Tb} (h : Rq TA w p rb sl T a bx b9 b11 b13 b15 x y W) (hl : T.length < 8900) (hv : IsAt W.heap.size v K W) : Calls Try.prog 22 #[.pointer (some ⟨rb, 0, none⟩), .agg #[.int .u32 a.c, .int .u32 a.n]] W fun e w' => ∃ v', e = .returned v' ∧ IsAt w'.heap.size v' (byF a.c a.n T) w' ∧ IsAt w'.heap.size v K w' ∧ Rq TA w p rb sl T a bx b9 b11 b13 b15 x y w' := by
  refine (pr_byD a.c a.n h.rx.pr hl).mono ?_
  rintro e w' ⟨v', rfl, h1, hb⟩
  exact ⟨v', rfl, h1, is_on hv hb, h.on I hb⟩
theorem rq_same (I : Ifl TA) {va vb : Value} {K : Tb} (h : Rq TA w p rb sl T a bx b9 b11 b13 b15 x y W) (ha : IsAt W.heap.size va K W) (hb : IsAt W.heap.size vb K W) : Calls Try.prog 12 #[va, vb] W fun e w' => e = .returned (.bool true) ∧ Rq TA w p rb sl T a bx b9 b11 b13 b15 x y w' := by
  refine (same12 _ _ K va vb W ha hb).mono ?_
  rintro e w' ⟨rfl, h1⟩
  exact ⟨rfl, h.on I h1⟩
theorem rq_all (I : Ifl TA) (h : Rq TA w p rb sl T a bx b9 b11 b13 b15 x y W) : Calls Try.prog 23 #[.pointer (some ⟨p, 0, none⟩)] W fun e w' => ∃ v', e = .returned v' ∧ IsAt w'.heap.size v' T w' ∧ Rq TA w p rb sl T a bx b9 b11 b13 b15 x y w' := by
  refine (pr_allP I h.rx.pr).mono ?_
  rintro e w' ⟨v', rfl, h1, hb⟩
  exact ⟨v', rfl, h1, h.on I hb⟩
theorem rq_list (I : Ifl TA) {va : Value} (h : Rq TA w p rb sl T a bx b9 b11 b13 b15 x y W) (ha : IsAt W.heap.size va T W) : Calls Try.prog 12 #[va, sl] W fun e w' => e = .returned (.bool true) ∧ Rq TA w p rb sl T a bx b9 b11 b13 b15 x y w' := by
  obtain ⟨B, hr⟩ := h.rt
  exact rq_same I h ha hr.is
theorem rq_rightP (I : Ifl TA) {B : Nat} (h : Rq TA w p rb sl T a bx b9 b11 b13 b15 x y W) (ha : AcOk B a w) (hB : B ≤ w.heap.size) : Calls Try.prog 24 #[.slice a.wa a.ws.length a.wc] W fun e w' => e = .returned (.bool (rightW a.ws)) ∧ Rq TA w p rb sl T a bx b9 b11 b13 b15 x y w' := by
  refine (I.right B a.ws _ W (ha.ws.on (h.rx.pr.bel.mono hB)) (Nat.le_trans hB h.rx.pr.bel.size)).mono ?_
  rintro e w' ⟨rfl, hb⟩
  exact ⟨rfl, h.on I hb⟩
theorem rq_rightD (I : Ifl TA) {B : Nat} (h : Rq TA w p rb sl T a bx b9 b11 b13 b15 x y W) (ha : AcOk B a w) (hB : B ≤ w.heap.size) : Calls Try.prog 25 #[.slice a.wa a.ws.length a.wc] W fun e w' => e = .returned (.bool (rightW a.ws)) ∧ Rq TA w p rb sl T a bx b9 b11 b13 b15 x y w' := by
  refine (right25 B a.ws _ W (ha.ws.on (h.rx.pr.bel.mono hB)) (Nat.le_trans hB h.rx.pr.bel.size)).mono ?_
  rintro e w' ⟨rfl, hb⟩
  exact ⟨rfl, h.on I hb⟩
/-- First and Of, the act and what was answered before kept. -/
theorem rx_firstP (I : Ifl TA) {B : Nat} (h : Rx TA w p rb T T a bx W) (ha : AcOk B a w) (hB : B ≤ w.heap.size) : Calls Try.prog 17 #[.pointer (some ⟨p, 0, none⟩), .string (bs a.lo), .string (bs a.hi), .agg #[.int .u64 a.mp, .int .u32 a.ml], .slice a.ba a.but.length a.bc] W fun e w' => e = .returned (fsV (firstF a.lo a.hi a.mp a.ml a.but T)) ∧ Rx TA w p rb T T a bx w' ∧ Below W.heap.size W w' := by
  refine (pr_firstP I a.lo a.hi a.mp a.ml h.pr ha.ts hB).mono ?_
  rintro e w' ⟨rfl, hb⟩
  exact ⟨rfl, h.on I hb, hb⟩
theorem rx_firstD (I : Ifl TA) {B : Nat} (h : Rx TA w p rb T T a bx W) (hl : T.length < 8900) (ha : AcOk B a w) (hB : B ≤ w.heap.size) : Calls Try.prog 18 #[.pointer (some ⟨rb, 0, none⟩), .string (bs a.lo), .string (bs a.hi), .agg #[.int .u64 a.mp, .int .u32 a.ml], .slice a.ba a.but.length a.bc] W fun e w' => e = .returned (fsV (firstF a.lo a.hi a.mp a.ml a.but T)) ∧ Rx TA w p rb T T a bx w' ∧ Below W.heap.size W w' := by
  refine (pr_firstD a.lo a.hi a.mp a.ml h.pr hl ha.ts hB).mono ?_
  rintro e w' ⟨rfl, hb⟩
  exact ⟨rfl, h.on I hb, hb⟩
theorem rx_ofP (I : Ifl TA) (h : Rx TA w p rb T T a bx W) : Calls Try.prog 19 #[.pointer (some ⟨p, 0, none⟩), .string (bs a.lo)] W fun e w' => e = .returned (ofV a.lo (getF a.lo T)) ∧ Rx TA w p rb T T a bx w' ∧ Below W.heap.size W w' := by
  refine (pr_ofP I a.lo h.pr).mono ?_
  rintro e w' ⟨rfl, hb⟩
  exact ⟨rfl, h.on I hb, hb⟩
theorem rx_ofD (I : Ifl TA) (h : Rx TA w p rb T T a bx W) : Calls Try.prog 20 #[.pointer (some ⟨rb, 0, none⟩), .string (bs a.lo)] W fun e w' => e = .returned (ofV a.lo (getF a.lo T)) ∧ Rx TA w p rb T T a bx w' ∧ Below W.heap.size W w' := by
  refine (pr_ofD a.lo h.pr).mono ?_
  rintro e w' ⟨rfl, hb⟩
  exact ⟨rfl, h.on I hb, hb⟩
end
theorem fsV_ex (o : Option (List UInt8 × Ii)) : ∃ x f, fsV o = .tuple #[inV x, .bool f] := by
  cases o
  · exact ⟨_, _, rfl⟩
  · exact ⟨_, _, rfl⟩
theorem ofV_ex (k : List UInt8) (o : Option Ii) : ∃ x f, ofV k o = .tuple #[inV x, .bool f] := by
  cases o
  · exact ⟨_, _, rfl⟩
  · exact ⟨_, _, rfl⟩
theorem run_neq49x (x : List UInt8 × Ii) (w : World) : (binOp .neq 49 (.agg #[.int .u32 x.2.c, .int .u32 x.2.n, .int .u64 x.2.sp, .int .u32 x.2.sl, .int .u64 x.2.mp, .int .u32 x.2.ml, .string (bs x.2.prim), .string (bs x.1), .string (bs x.2.val), .bool x.2.dead]) (.agg #[.int .u32 x.2.c, .int .u32 x.2.n, .int .u64 x.2.sp, .int .u32 x.2.sl, .int .u64 x.2.mp, .int .u32 x.2.ml, .string (bs x.2.prim), .string (bs x.1), .string (bs x.2.val), .bool x.2.dead])).run Try.prog w = .ok (.bool false) w := run_neq49 _ _ _ _ _ _ _ _ _ _ w
end Go.Proofs.Ytknfkpnicjellaa
