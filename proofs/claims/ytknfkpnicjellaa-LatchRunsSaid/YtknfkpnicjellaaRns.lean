/-
  LatchRuns: the copy of an act's writes, and what is asked behind it.
-/
import Derived.Test.YtknfkpnicjellaaRun
namespace Go.Proofs.Ytknfkpnicjellaa
open Go.RowKit
variable {TA : Nat → Nat → (Nat → Prop) → Tb → World → Prop}

/-- Both tables, and an act in its box. -/
structure Rx (TA : Nat → Nat → (Nat → Prop) → Tb → World → Prop) (w : World) (p rb : Nat) (Tp Td : Tb) (a : Ac) (bx : Nat) (W : World) : Prop where
  pr : Pr TA w p rb Tp Td (fun k => k = bx) W
  b0 : W.heap[bx]? = some (abx a)
theorem Rx.on (I : Ifl TA) {w W W' : World} {p rb bx : Nat} {Tp Td : Tb} {a : Ac} (h : Rx TA w p rb Tp Td a bx W) (hb : Below W.heap.size W W') : Rx TA w p rb Tp Td a bx W' := ⟨h.pr.on I hb, by rw [hb.block _ (Array.getElem?_eq_some_iff.1 h.b0).1]; exact h.b0⟩
theorem Rx.two {w W : World} {p rb bx : Nat} {Tp Td : Tb} {a : Ac} (h : Rx TA w p rb Tp Td a bx W) : W.cell? ⟨bx, 1, none⟩ = some (.int .u32 a.c) ∧ W.cell? ⟨bx, 2, none⟩ = some (.int .u32 a.n) := ⟨block_cell h.b0 rfl, block_cell h.b0 rfl⟩
theorem Rx.four {w W : World} {p rb bx : Nat} {Tp Td : Tb} {a : Ac} (h : Rx TA w p rb Tp Td a bx W) : W.cell? ⟨bx, 1, none⟩ = some (.int .u32 a.c) ∧ W.cell? ⟨bx, 2, none⟩ = some (.int .u32 a.n) ∧ W.cell? ⟨bx, 5, none⟩ = some (.int .u64 a.mp) ∧ W.cell? ⟨bx, 6, none⟩ = some (.int .u32 a.ml) := ⟨block_cell h.b0 rfl, block_cell h.b0 rfl, block_cell h.b0 rfl, block_cell h.b0 rfl⟩
theorem Rx.eight {w W : World} {p rb bx : Nat} {Tp Td : Tb} {a : Ac} (h : Rx TA w p rb Tp Td a bx W) : W.cell? ⟨bx, 1, none⟩ = some (.int .u32 a.c) ∧ W.cell? ⟨bx, 2, none⟩ = some (.int .u32 a.n) ∧ W.cell? ⟨bx, 3, none⟩ = some (.int .u64 a.sp) ∧ W.cell? ⟨bx, 4, none⟩ = some (.int .u32 a.sl) ∧ W.cell? ⟨bx, 5, none⟩ = some (.int .u64 a.mp) ∧ W.cell? ⟨bx, 6, none⟩ = some (.int .u32 a.ml) ∧ W.cell? ⟨bx, 7, none⟩ = some (.string (bs a.prim)) ∧ W.cell? ⟨bx, 8, none⟩ = some (.slice a.wa a.ws.length a.wc) := ⟨block_cell h.b0 rfl, block_cell h.b0 rfl, block_cell h.b0 rfl, block_cell h.b0 rfl, block_cell h.b0 rfl, block_cell h.b0 rfl, block_cell h.b0 rfl, block_cell h.b0 rfl⟩
theorem rx_cutP (I : Ifl TA) {w W : World} {p rb bx : Nat} {T : Tb} {a : Ac} (h : Rx TA w p rb T T a bx W) : Calls Try.prog 13 #[.pointer (some ⟨p, 0, none⟩), .agg #[.int .u32 a.c, .int .u32 a.n]] W fun e w' => ∃ v', e = .returned v' ∧ IsAt w'.heap.size v' (byF a.c a.n T) w' ∧ (∀ k, v'.ownBlock = some k → k ≠ rb) ∧ Rx TA w p rb (restF a.c a.n T) T a bx w' := by
  refine (pr_cutP I a.c a.n h.pr).mono ?_
  rintro e w' ⟨v', rfl, h1, h2, h3, h4⟩
  exact ⟨v', rfl, h1, h2, h3, h4.block (.inl rfl) h.b0⟩
theorem rx_cutD (I : Ifl TA) {w W : World} {p rb bx : Nat} {Tp T : Tb} {a : Ac} {v : Value} {K : Tb} (h : Rx TA w p rb Tp T a bx W) (hl : T.length < 8900) (hv : IsAt W.heap.size v K W) (hn : ∀ k, v.ownBlock = some k → k ≠ rb) : Calls Try.prog 14 #[.pointer (some ⟨rb, 0, none⟩), .agg #[.int .u32 a.c, .int .u32 a.n]] W fun e w' => ∃ v', e = .returned v' ∧ IsAt w'.heap.size v' (byF a.c a.n T) w' ∧ IsAt w'.heap.size v K w' ∧ Rx TA w p rb Tp (restF a.c a.n T) a bx w' := by
  refine (pr_cutD I a.c a.n h.pr hl).mono ?_
  rintro e w' ⟨v', rfl, h1, h2, h3, h4⟩
  exact ⟨v', rfl, h1, is_kept hv h2 hn, h3, h4.block (.inl rfl) h.b0⟩
theorem rx_same (I : Ifl TA) {w W : World} {p rb bx : Nat} {Tp Td : Tb} {a : Ac} {va vb : Value} {K : Tb} (h : Rx TA w p rb Tp Td a bx W) (ha : IsAt W.heap.size va K W) (hb : IsAt W.heap.size vb K W) : Calls Try.prog 12 #[va, vb] W fun e w' => e = .returned (.bool true) ∧ Rx TA w p rb Tp Td a bx w' ∧ Below W.heap.size W w' := by
  refine (same12 _ _ K va vb W ha hb).mono ?_
  rintro e w' ⟨rfl, h1⟩
  exact ⟨rfl, h.on I h1, h1⟩
theorem rx_raiseP (I : Ifl TA) {w W : World} {p rb bx : Nat} {T : Tb} {a : Ac} (h : Rx TA w p rb T T a bx W) (h0 : 0 ≤ a.mp ∧ 0 ≤ a.ml) : Calls Try.prog 15 #[.pointer (some ⟨p, 0, none⟩), .agg #[.int .u32 a.c, .int .u32 a.n], .agg #[.int .u64 a.mp, .int .u32 a.ml]] W fun e w' => e = .returned (.bool (rseB a.c a.n a.mp a.ml T)) ∧ Rx TA w p rb (rseF a.c a.n a.mp a.ml T) T a bx w' := by
  refine (pr_raiseP I a.c a.n a.mp a.ml h.pr h0).mono ?_
  rintro e w' ⟨rfl, h3, h4⟩
  exact ⟨rfl, h3, h4.block (.inl rfl) h.b0⟩
theorem rx_raiseD (I : Ifl TA) {w W : World} {p rb bx : Nat} {Tp T : Tb} {a : Ac} (h : Rx TA w p rb Tp T a bx W) (hl : T.length < 8900) : Calls Try.prog 16 #[.pointer (some ⟨rb, 0, none⟩), .agg #[.int .u32 a.c, .int .u32 a.n], .agg #[.int .u64 a.mp, .int .u32 a.ml]] W fun e w' => e = .returned (.bool (rseB a.c a.n a.mp a.ml T)) ∧ Rx TA w p rb Tp (rseF a.c a.n a.mp a.ml T) a bx w' := by
  refine (pr_raiseD I a.c a.n a.mp a.ml h.pr hl).mono ?_
  rintro e w' ⟨rfl, h3, h4⟩
  exact ⟨rfl, h3, h4.block (.inl rfl) h.b0⟩

/-- A write with another key. -/
def oth (x : Wr) : Wr := ⟨[111, 116, 104, 101, 114], x.val, x.dead⟩
def inN (L : List Wr) (k : Nat) : List Wr := (L.take k).map oth ++ L.drop k
theorem inN_len (L : List Wr) (k : Nat) : (inN L k).length = L.length := by
  unfold inN
  rw [List.length_append, List.length_map, List.length_take, List.length_drop]
  omega
theorem inN_at {L : List Wr} {k : Nat} (h : k < L.length) : (inN L k).getD k dw = L.getD k dw := by
  unfold inN
  have hl : ((L.take k).map oth).length = k := by rw [List.length_map, List.length_take]; omega
  rw [List.getD, List.getElem?_append_right (by omega), hl, Nat.sub_self, List.getElem?_drop, Nat.add_zero]
  rfl
theorem inN_step {L : List Wr} {k : Nat} (h : k < L.length) : (inN L k).set k (oth (L.getD k dw)) = inN L (k + 1) := by
  unfold inN
  have hl : ((L.take k).map oth).length = k := by rw [List.length_map, List.length_take]; omega
  have hd : L.drop k = L.getD k dw :: L.drop (k + 1) := by
    rw [List.drop_eq_getElem_cons h]
    simp [List.getD, h]
  rw [List.set_append_right _ _ (by omega), hl, Nat.sub_self, hd, List.set_cons_zero, wtk_snoc h, List.map_append, List.append_assoc]
  rfl
/-- Both tables, an act in its box, a copy of its writes. -/
structure Ry (TA : Nat → Nat → (Nat → Prop) → Tb → World → Prop) (w : World) (p rb : Nat) (Tp Td : Tb) (a : Ac) (bx base : Nat) (v : Value) (K : List Wr) (W : World) : Prop where
  pr : Pr TA w p rb Tp Td (fun k => k = bx ∨ v.ownBlock = some k) W
  b0 : W.heap[bx]? = some (abx a)
  row : W.ownsRow base 44 3 v K.length (rowC wrc K)
  nb : v.ownBlock ≠ some bx
  low : w.heap.size ≤ base
theorem Ry.step {w W W' : World} {p rb bx base : Nat} {Tp Td Tp' Td' : Tb} {a : Ac} {v : Value} {K : List Wr} (h : Ry TA w p rb Tp Td a bx base v K W) (h1 : Pr TA w p rb Tp' Td' (fun k => k = bx ∨ v.ownBlock = some k) W') (hk : Kp (fun k => k = bx ∨ v.ownBlock = some k) w W W') : Ry TA w p rb Tp' Td' a bx base v K W' :=
  ⟨h1, hk.block (.inl (.inl rfl)) h.b0, own_kept h.row hk (fun _ e hg => hg.1 (.inr e)), h.nb, h.low⟩
theorem Ry.on (I : Ifl TA) {w W W' : World} {p rb bx base : Nat} {Tp Td : Tb} {a : Ac} {v : Value} {K : List Wr} (h : Ry TA w p rb Tp Td a bx base v K W) (hb : Below W.heap.size W W') : Ry TA w p rb Tp Td a bx base v K W' :=
  ⟨h.pr.on I hb, by rw [hb.block _ (Array.getElem?_eq_some_iff.1 h.b0).1]; exact h.b0, own_on h.row hb, h.nb, h.low⟩
theorem Ry.rx (I : Ifl TA) {w W : World} {p rb bx base : Nat} {Tp Td : Tb} {a : Ac} {v : Value} {K : List Wr} (h : Ry TA w p rb Tp Td a bx base v K W) : Rx TA w p rb Tp Td a bx W := ⟨h.pr.more I (Below.refl _ _) (fun _ e => .inl (.inl e)), h.b0⟩
theorem ry_layP (I : Ifl TA) {w W : World} {p rb bx base : Nat} {T : Tb} {a : Ac} {v : Value} (h : Ry TA w p rb T T a bx base v a.ws W) (hl : T.length < 8900) (h0 : 0 ≤ a.mp ∧ 0 ≤ a.ml) : Calls Try.prog 10 #[.pointer (some ⟨p, 0, none⟩), .agg #[.int .u32 a.c, .int .u32 a.n], .agg #[.int .u64 a.sp, .int .u32 a.sl], .agg #[.int .u64 a.mp, .int .u32 a.ml], .string (bs a.prim), v] W fun e w' => e = .returned (.int .i64 (layA a T).2) ∧ Ry TA w p rb (layA a T).1 T a bx base v a.ws w' := by
  refine (pr_layP I a.c a.n a.sp a.sl a.mp a.ml a.prim a.ws v h.pr hl (rw_own h.row) (fun _ k hk => .inr (.inr hk)) h0).mono ?_
  rintro e w' ⟨rfl, h3, h4⟩
  exact ⟨rfl, h.step h3 h4⟩
theorem ry_layD (I : Ifl TA) {w W : World} {p rb bx base : Nat} {Tp T : Tb} {a : Ac} {v : Value} {K : List Wr} {B : Nat} (h : Ry TA w p rb Tp T a bx base v K W) (hl : T.length < 8900) (ha : AcOk B a w) (hB : B ≤ w.heap.size) : Calls Try.prog 11 #[.pointer (some ⟨rb, 0, none⟩), .agg #[.int .u32 a.c, .int .u32 a.n], .agg #[.int .u64 a.sp, .int .u32 a.sl], .agg #[.int .u64 a.mp, .int .u32 a.ml], .string (bs a.prim), .slice a.wa a.ws.length a.wc] W fun e w' => e = .returned (.int .i64 (layA a T).2) ∧ Ry TA w p rb Tp (layA a T).1 a bx base v K w' := by
  refine (pr_layD I a.c a.n a.sp a.sl a.mp a.ml a.prim h.pr hl ha.ws hB).mono ?_
  rintro e w' ⟨rfl, h3, h4⟩
  exact ⟨rfl, h.step h3 h4⟩
/-- A key of the copy written. -/
theorem Ry.put (I : Ifl TA) {w W : World} {p rb bx base : Nat} {Tp Td : Tb} {a : Ac} {g n cap : Nat} {L : List Wr} {k : Nat} (hn : n = L.length) (h : Ry TA w p rb Tp Td a bx base (.slice (some ⟨g, 0, none⟩) n cap) (inN L k) W) (hk : k < n) : Ry TA w p rb Tp Td a bx base (.slice (some ⟨g, 0, none⟩) n cap) (inN L (k + 1)) (W.setCell ⟨g, k * 3, none⟩ (.string ⟨#[111, 116, 104, 101, 114]⟩)) := by
  subst hn
  have hs := set_kept' W g (k * 3) (.string ⟨#[111, 116, 104, 101, 114]⟩)
  have hgb : bx ≠ g := fun e => h.nb (by rw [e]; rfl)
  have hrow := h.row
  rw [inN_len] at hrow
  have hgl : base ≤ g := (World.ownsRow.lt hrow g rfl).1
  have r1 := own_set hrow (k * 3) (.string ⟨#[111, 116, 104, 101, 114]⟩)
  have r2 := rowC_set wrc_len dw (oth (L.getD k dw)) (.string ⟨#[111, 116, 104, 101, 114]⟩) 0 (by omega) (inN L k) k (by rw [inN_len]; exact hk) (by rw [inN_at hk]; rfl)
  rw [Nat.add_zero, inN_step hk] at r2
  rw [r2] at r1
  exact ⟨h.pr.own I hs (fun i e => ⟨.inr (by rw [e]; rfl), by rw [e]; exact Nat.le_trans h.low hgl⟩), by rw [hs.block bx (Array.getElem?_eq_some_iff.1 h.b0).1 hgb]; exact h.b0, by rw [inN_len]; exact r1, h.nb, h.low⟩
theorem info44 : (Try.prog.info? 44).map (fun i => (i.zero, i.size, i.bytes)) = some (some (.agg #[.string ⟨#[]⟩, .string ⟨#[]⟩, .bool false]), 3, 40) := by kernel_rfl
theorem run_neq44e (x : Wr) (w : World) : (binOp .neq 44 (.agg #[.string (bs x.key), .string (bs x.val), .bool x.dead]) (.agg #[.string (bs x.key), .string (bs x.val), .bool x.dead])).run Try.prog w = .ok (.bool false) w := run_neq44 x.key x.val x.dead w
end Go.Proofs.Ytknfkpnicjellaa
