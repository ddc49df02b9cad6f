import Derived.Lib.Overlaps
import Derived.Laws.IdiomCopy
import Derived.Test.YtkdkgdollmmcnaaGreatWbl
set_option maxHeartbeats 4000000
set_option maxRecDepth 100000
set_option linter.unusedVariables false
set_option linter.unusedSimpArgs false
namespace Go.Proofs.YtkdkgdollmmcnaaGreat
open Go.RowKit Go.Sort Go.Shelf
variable {M M' G N : Nat → Prop} {W W' w : World} {f f' : Fo} {X X' : Ss}
theorem run_copy_rows {Pg : Program} (w : World) (dT sT ty elem : TypeId) (sz n b o dLen dCap sLen sCap : Nat) (a : Addr) (cs : List Value) (hu : Pg.underlying dT = some (.slice elem)) (hs : (Pg.info? elem).map (·.size) = some sz) (hn : Nat.min sLen dLen = n) (hl : cs.length = n * sz)
  (hsrc : ∀ j v, cs[j]? = some v → w.cell? (a.add j) = some v) (hc : ∀ j, j < cs.length → (w.cell? ⟨b, o + j, none⟩).isSome = true) (hf : ∀ j, j < cs.length → w.frozen? ⟨b, o + j, none⟩ = false) (h1 : ∀ v ∈ cs, v.oneCell' = true) :
  (Builtin.copy_ #[dT, sT] ty #[.slice (some ⟨b, o, none⟩) dLen dCap, .slice (some a) sLen sCap]).run Pg w = .ok (goInt n) (w.setCells b o cs) := by
 have hld := run_loadCells_list (P := Pg) w a cs hsrc
 have hst := run_storeCells_cells (P := Pg) b o cs 0 w (by simpa using hc) (by simpa using hf) h1
 cases hq : Pg.info? elem with
 | none => simp [hq] at hs
 | some i =>
  have hi : i.size = sz := by simpa [hq] using hs
  rw [hl] at hld
  simp [Builtin.copy_, run_underlying hu, Builtin.lenOf, Builtin.firstCells, sizeOf, typeInfo, hq, hi, hn, hld, hst]
theorem step_copy {Pg : Program} {ops : Array Oper} {o : Oper} {a : Act} {w : World} {K : Act → World → Prop} {Q : Exit → Act → World → Prop} {E : Prop} (hg : o.guard = none) (d x : Operand) (dT sT : TypeId) (hop : o.op = .call { callee := .builtin .copy, args := #[d, x], argTypes := #[dT, sT] })
  (v u : Value) (hd : a.eval d = v) (hx : a.eval x = u) {v' : Value} {w' : World} (hr : (Builtin.copy_ #[dT, sT] o.type #[v, u]).run Pg w = .ok v' w') (hK : K (a.put o.dst v') w') : if Region.wanted o (yielded ops a.tmps) = true then Oper.wp Pg o a w K Q else E := by
 rw [if_pos (by simp [Region.wanted, hg])]
 unfold Oper.wp execOp
 simp only [hop, resolve, invoke, builtin, Sem.run_bind, Sem.run_pure, Result.andThen_ok, List.map_toArray, List.map_cons, List.map_nil, hd, hx, hr]
 exact hK
theorem shape_box {b : Nat} {cs : Array Value} {ty : TypeId} (h : W.heap[b]? = some (.cells cs ty (0, 0))) : W.shape? b = some (ty, cs.size) := by
 unfold World.shape?
 rw [h]
theorem ov130 {g bx : Nat} {cur cx : Array Value} {o lb cb : Nat} (h : W.heap[g]? = some (.cells cur 70 (0, 0))) (hx : W.heap[bx]? = some (.cells cx 70 (0, 0))) (hne : bx ≠ g) (hz : cur.size ≠ 0) : (callFunc 130 #[.slice (some ⟨bx, 0, none⟩) 1 1, .slice (some ⟨g, o, none⟩) lb cb]).run Tryz.prog W = .ok (.value (.bool false)) W := by
 rw [run_callFunc_extern Tryz.func130 (by kernel_rfl) (by kernel_rfl) (by kernel_rfl) (e := Extern.SlicesOverlaps.overlaps #[50, 50] #[4]) (by kernel_rfl),
  Lib.run_overlaps_apart W 50 4 70 Tryz.underlying50 3 (fun w => rfl) ⟨bx, 0, none⟩ ⟨g, o, none⟩ 1 1 lb cb hne 70 70 cx.size cur.size (shape_box hx) (shape_box h) hz (block_frozen hx 0) (block_frozen hx _)]
 rfl
def insAt (L : List Wr) (i : Nat) (x : Wr) : List Wr := L.take i ++ x :: L.drop i
theorem insAt_len {L : List Wr} {i : Nat} (hi : i ≤ L.length) (x : Wr) : (insAt L i x).length = L.length + 1 := by simp [insAt]; omega
theorem insAt_cells (L : List Wr) (i : Nat) (x : Wr) : rowC wrc (insAt L i x) = rowC wrc (L.take i) ++ (wrc x ++ rowC wrc (L.drop i)) := by
 unfold insAt
 rw [rowC_append, rowC_cons]
theorem own_shift1 {base g cap i : Nat} {L : List Wr} (x : Wr) (h : W.ownsRow base 70 3 (.slice (some ⟨g, 0, none⟩) L.length cap) L.length (rowC wrc L)) (hi : i < L.length) (hc : L.length + 1 ≤ cap) :
  ((W.setCells g ((i + 1) * 3) (rowC wrc (L.drop i))).setCells g (i * 3) (wrc x)).ownsRow base 70 3 (.slice (some ⟨g, 0, none⟩) (L.length + 1) cap) (L.length + 1) (rowC wrc (insAt L i x)) := by
 obtain ⟨cur, h1, h2, h3, h4, h5, h6⟩ := own_there h
 have hA : (rowC wrc (L.take i)).length = i * 3 := by rw [rowC_length wrc_len, List.length_take, Nat.min_eq_left (by omega)]
 have hB : (rowC wrc (L.drop i)).length = (L.length - i) * 3 := by rw [rowC_length wrc_len, List.length_drop]
 have hX : (wrc x).length = 3 := rfl
 have e1 := setCells_box (rowC wrc (L.drop i)) ((i + 1) * 3) W cur h1 (by rw [hB, h2]; omega)
 have e2 := setCells_box (wrc x) (i * 3) _ _ e1 (by rw [hX]; simp; omega)
 have hAc : cur.toList.take (i * 3) = rowC wrc (L.take i) := by
  rw [← rowC_take wrc_len, ← h6, List.take_take, Nat.min_eq_left (by omega)]
 refine ⟨by rw [rowC_length wrc_len, insAt_len (by omega)], .inr ⟨g, cap, _, rfl, h5, e2, hc, h4, ?_, ?_⟩⟩
 ·rw [← h2]
  simp [hB, hX]
  omega
 ·rw [insAt_cells]
  simp only [List.toList_toArray, hX]
  have t1 : (cur.toList.take ((i + 1) * 3) ++ rowC wrc (L.drop i) ++ cur.toList.drop ((i + 1) * 3 + (rowC wrc (L.drop i)).length)).take (i * 3) = rowC wrc (L.take i) := by
   rw [List.append_assoc, List.take_append_of_le_length (by simp; omega), List.take_take, Nat.min_eq_left (by omega), hAc]
  have t2 : (cur.toList.take ((i + 1) * 3) ++ rowC wrc (L.drop i) ++ cur.toList.drop ((i + 1) * 3 + (rowC wrc (L.drop i)).length)).drop (i * 3 + 3) = rowC wrc (L.drop i) ++ cur.toList.drop ((i + 1) * 3 + (rowC wrc (L.drop i)).length) := by
   rw [List.append_assoc, List.drop_append, List.drop_of_length_le (by simp; omega)]
   simp [h2]
   rw [show i * 3 + 3 - min (i + 1) cap * 3 = 0 by omega]
   rfl
  rw [t1, t2, ← List.append_assoc, List.take_append_of_le_length (by simp [hA, hB, hX]; omega)]
  rw [List.take_of_length_le (by simp [hA, hB, hX]; omega), List.append_assoc]
theorem insert87a (base : Nat) (L : List Wr) (g cap : Nat) (w : World) (hL : w.ownsRow base 70 3 (.slice (some ⟨g, 0, none⟩) L.length cap) L.length (rowC wrc L)) (i : Nat) (hi : i < L.length) (hcap : L.length + 1 ≤ cap) (x : Wr) (bx : Nat) (hx : w.heap[bx]? = some (.cells (wrc x).toArray 70 (0, 0))) (hne : bx ≠ g) :
  Calls Tryz.prog 87 #[.slice (some ⟨g, 0, none⟩) L.length cap, iw (i : Int), .slice (some ⟨bx, 0, none⟩) 1 1] w fun e w' => ∃ v', e = .returned v' ∧ w'.ownsRow base 70 3 v' (L.length + 1) (rowC wrc (insAt L i x)) ∧ (v'.ownBlock = some g ∨ v'.ownBlock = some w.heap.size) ∧ Kept (fun k => k = g) w w' := by
 obtain ⟨cur, h1, h2, h3, h4, h5, h6⟩ := own_there hL
 have hcm : cap ≤ 9223372036854775807 := by unfold maxLen at h4; omega
 have hz0 : cur.size ≠ 0 := by omega
 have hov : ∀ lb cb, (callFunc 130 #[.slice (some ⟨bx, 0, none⟩) 1 1, .slice (some ⟨g, (i + 1) * 3, none⟩) lb cb]).run Tryz.prog w = .ok (.value (.bool false)) w := fun lb cb => ov130 h1 hx hne hz0
 have hB : (rowC wrc (L.drop i)).length = (L.length - i) * 3 := by rw [rowC_length wrc_len, List.length_drop]
 have hcell : ∀ (W : World), W.heap[g]? = some (.cells cur 70 (0, 0)) → ∀ j, j < cap * 3 → (W.cell? ⟨g, j, none⟩).isSome = true := fun W hW j hj => by
  rw [block_cell hW (Array.getElem?_eq_getElem (by omega))]
  rfl
 have hcp1 : ∀ ty dc sc, (Builtin.copy_ #[50, 50] ty #[.slice (some ⟨g, (i + 1) * 3, none⟩) (L.length + 1 - (i + 1)) dc, .slice (some ⟨g, i * 3, none⟩) (L.length + 1 - i) sc]).run Tryz.prog w.drew = .ok (goInt ((L.length - i : Nat) : Int)) (w.drew.setCells g ((i + 1) * 3) (rowC wrc (L.drop i))) := fun ty dc sc =>
  run_copy_rows w.drew 50 50 ty 70 3 (L.length - i) g ((i + 1) * 3) (L.length + 1 - (i + 1)) dc (L.length + 1 - i) sc ⟨g, i * 3, none⟩ (rowC wrc (L.drop i)) Tryz.underlying50 rfl (by simp only [Nat.min_def]; split <;> omega) hB
   (fun j v hj => by
    rw [Addr.add_lit]
    have k := World.ownsRow.cells hL (g := g) rfl (i * 3 + j) v (by rw [← rowC_drop wrc_len, List.getElem?_drop] at hj; exact hj)
    rw [Addr.add_lit, Nat.zero_add] at k
    exact k)
   (fun j hj => hcell w.drew h1 _ (by omega)) (fun j hj => block_frozen (w := w.drew) h1 _) (rowC_cells wrc wrc_one _)
 have ks1 := setCells_kept g (rowC wrc (L.drop i)) ((i + 1) * 3) w.drew
 have hx1 : (w.drew.setCells g ((i + 1) * 3) (rowC wrc (L.drop i))).heap[bx]? = some (.cells (wrc x).toArray 70 (0, 0)) := by rw [ks1.block bx (lt_blk (W := w.drew) hx) hne]; exact hx
 have e1 := setCells_box (rowC wrc (L.drop i)) ((i + 1) * 3) w.drew cur h1 (by rw [hB, h2]; omega)
 obtain ⟨cur1, hcur1⟩ : ∃ c : Array Value, (cur.toList.take ((i + 1) * 3) ++ rowC wrc (L.drop i) ++ cur.toList.drop ((i + 1) * 3 + (rowC wrc (L.drop i)).length)).toArray = c := ⟨_, rfl⟩
 have hs1 : cur1.size = cap * 3 := by rw [← hcur1, ← h2]; simp [hB]; omega
 rw [hcur1] at e1
 have HF : Hid (((w.drew.setCells g ((i + 1) * 3) (rowC wrc (L.drop i))).setCells g (i * 3) (wrc x)).ownsRow base 70 3 (.slice (some ⟨g, 0, none⟩) (L.length + 1) cap) (L.length + 1) (rowC wrc (insAt L i x))) := own_shift1 x (own_on hL (Below.refl _ _).drew) hi hcap
 have HK : Hid (Kept (fun k => k = g) w ((w.drew.setCells g ((i + 1) * 3) (rowC wrc (L.drop i))).setCells g (i * 3) (wrc x))) := ((Kept.of_below (Below.refl w.heap.size w).drew).trans ks1 (fun _ e => .inl e)).trans (setCells_kept g (wrc x) (i * 3) _) (fun _ e => .inl e)
 obtain ⟨W1, hW1⟩ := xj (w.drew.setCells g ((i + 1) * 3) (rowC wrc (L.drop i)))
 rw [hW1] at hcp1 hx1 e1 HF HK
 have hcp2 : ∀ ty dc, (Builtin.copy_ #[50, 50] ty #[.slice (some ⟨g, i * 3, none⟩) (L.length + 1 - i) dc, .slice (some ⟨bx, 0, none⟩) 1 1]).run Tryz.prog W1 = .ok (goInt 1) (W1.setCells g (i * 3) (wrc x)) := fun ty dc =>
  run_copy_rows W1 50 50 ty 70 3 1 g (i * 3) (L.length + 1 - i) dc 1 1 ⟨bx, 0, none⟩ (wrc x) Tryz.underlying50 rfl (by simp only [Nat.min_def]; split <;> omega) rfl
   (fun j v hj => by
    rw [Addr.add_lit, Nat.zero_add]
    exact block_cell hx1 (by simpa using hj))
   (fun j hj => by
    have : j < 3 := hj
    rw [block_cell e1 (Array.getElem?_eq_getElem (by omega))]
    rfl) (fun j hj => block_frozen e1 _) (wrc_one x)
 have hz2 : ((i : Int) == (L.length : Int)) = false := by simp; omega
 have hz3 : ¬ (cap : Int) < (L.length : Int) + 1 := by omega
 have hw1 : IntKind.i64.wrap ((i : Int) + 1) = (i : Int) + 1 := by rw [IntKind.wrap_i64]; omega
 have hb1 : (0 : Int) ≤ (i : Int) + 1 := by omega
 have hin : i ≤ L.length := by omega
 have htn : ((i : Int) + 1).toNat = i + 1 := by omega
 have hb2 : ¬ (cap = i + 1) := by omega
 have hb3 : (i : Int) ≤ (L.length : Int) + 1 := by omega
 have hb4 : ¬ (cap = i) := by omega
 clear hL h1 h2 h3 h4 h5 h6 hx hcell ks1 hx1 e1 hcur1 hs1 hB hW1 hz0 hne
 go_enter Tryz.func87, Tryz.ntmps87
 go_wp2_with (simp only [hov])
 refine wp_region_held_drew (S := (fun _ => True)) (by kernel_rfl) trivial (fun hHeld => ?_)
 refine tq 0 ?_
 refine tq 1 ?_
 refine tq 2 ?_
 refine tq 3 ?_
 refine tq 4 ?_
 refine tq 5 ?_
 refine tq 6 ?_
 refine tq 7 ?_
 refine rd 8 (fun K hK => ?_)
 refine step_copy rfl (.tmp 73) (.tmp 76) 50 50 rfl (.slice (some ⟨g, (i + 1) * 3, none⟩) (L.length + 1 - (i + 1)) (cap - (i + 1))) (.slice (some ⟨g, i * 3, none⟩) (L.length + 1 - i) (cap - i)) (by simp [Act.eval, Act.put]) (by simp [Act.eval, Act.put]) (hcp1 3 (cap - (i + 1)) (cap - i)) ?_
 refine kj hK trivial (fun hHeld => ?_)
 clear hK K
 refine wpAnyH_done (by kernel_rfl) ?_ _
 clear hHeld hcp1
 go_wp2_with (at_builtin; refine wpList_copy rfl _ _ 50 50 rfl _ _ rfl rfl (hcp2 _ _) ?_)
 go_ret
 exact ⟨_, rfl, HF.out, .inl rfl, HK.out⟩
theorem own_tail {base B G i : Nat} {L : List Wr} (x : Wr) {cur : Array Value} (h1 : W.heap[B]? = some (.cells cur 70 (0, 0))) (h2 : cur.size = G * 3) (hA : cur.toList.take ((i + 1) * 3) = rowC wrc (L.take i) ++ wrc x) (hi : i ≤ L.length) (hG : L.length + 1 ≤ G) (hm : G ≤ maxLen) (hb : base ≤ B) :
  (W.setCells B ((i + 1) * 3) (rowC wrc (L.drop i))).ownsRow base 70 3 (.slice (some ⟨B, 0, none⟩) (L.length + 1) G) (L.length + 1) (rowC wrc (insAt L i x)) := by
 have hAl : (rowC wrc (L.take i)).length = i * 3 := by rw [rowC_length wrc_len, List.length_take, Nat.min_eq_left (by omega)]
 have hB : (rowC wrc (L.drop i)).length = (L.length - i) * 3 := by rw [rowC_length wrc_len, List.length_drop]
 have hX : (wrc x).length = 3 := rfl
 have e2 := setCells_box (rowC wrc (L.drop i)) ((i + 1) * 3) W cur h1 (by rw [hB, h2]; omega)
 refine ⟨by rw [rowC_length wrc_len, insAt_len hi], .inr ⟨B, G, _, rfl, hb, e2, hG, hm, ?_, ?_⟩⟩
 ·rw [← h2]
  simp [hB, h2]
  omega
 ·rw [insAt_cells]
  simp only [List.toList_toArray]
  rw [hA, List.take_append_of_le_length (by simp [hAl, hB, hX]; omega)]
  rw [List.take_of_length_le (by simp [hAl, hB, hX]; omega), List.append_assoc]
theorem insert87b (base : Nat) (L : List Wr) (g cap : Nat) (w : World) (hL : w.ownsRow base 70 3 (.slice (some ⟨g, 0, none⟩) L.length cap) L.length (rowC wrc L)) (hb : base ≤ w.heap.size) (hlen : L.length ≤ 1000) (i : Nat) (hi : i < L.length) (hcap : cap < L.length + 1) (x : Wr) (bx : Nat) (hx : w.heap[bx]? = some (.cells (wrc x).toArray 70 (0, 0))) :
  Calls Tryz.prog 87 #[.slice (some ⟨g, 0, none⟩) L.length cap, iw (i : Int), .slice (some ⟨bx, 0, none⟩) 1 1] w fun e w' => ∃ v', e = .returned v' ∧ w'.ownsRow base 70 3 v' (L.length + 1) (rowC wrc (insAt L i x)) ∧ (v'.ownBlock = some g ∨ v'.ownBlock = some w.heap.size) ∧ Kept (fun k => k = g) w w' := by
 obtain ⟨cur, h1, h2, h3, h4, h5, h6⟩ := own_there hL
 obtain ⟨i0, hi0, hz0, hzs, hzb⟩ := info_parts Pla.info70
 have hB : (rowC wrc (L.drop i)).length = (L.length - i) * 3 := by rw [rowC_length wrc_len, List.length_drop]
 have hA : (rowC wrc (L.take i)).length = i * 3 := by rw [rowC_length wrc_len, List.length_take, Nat.min_eq_left (by omega)]
 have hcell : ∀ j v, (rowC wrc L)[j]? = some v → w.cell? ⟨g, j, none⟩ = some v := fun j v hj => by
  have k := World.ownsRow.cells hL (g := g) rfl j v hj
  rw [Addr.add_lit, Nat.zero_add] at k
  exact k
 have hold : (Builtin.firstCells i0.size i (.slice (some ⟨g, 0, none⟩) i cap)).run Tryz.prog w.drew = .ok (rowC wrc (L.take i)).toArray w.drew := by
  rw [hzs]
  exact run_firstCells_some w.drew 3 i ⟨g, 0, none⟩ i cap (rowC wrc (L.take i)) hA (fun j v hj => by
   rw [Addr.add_lit, Nat.zero_add]
   rw [← rowC_take wrc_len, List.getElem?_take] at hj
   split at hj
   ·exact hcell j v hj
   ·cases hj)
 have hik : i + (L.length + 1 - i) = L.length + 1 := by omega
 have hrz : ∀ ty, (Builtin.append_ #[50, 3] ty #[.slice (some ⟨g, 0, none⟩) i cap, iw ((L.length : Int) + 1 - (i : Int))]).run Tryz.prog w = .ok (.slice (some ⟨w.heap.size, 0, none⟩) (L.length + 1) (grownCap w (L.length + 1) cap 70)) (w.drew.alloc (.cells ((rowC wrc (L.take i)).toArray ++ Builtin.zeroCells (Value.agg #[su, su, .bool false]).cells (L.length + 1 - i) ++ Builtin.zeroCells (Value.agg #[su, su, .bool false]).cells (grownCap w (L.length + 1) cap 70 - (L.length + 1))) 70)) := fun ty => by
  have h := Lib.run_append_grow_zeros (P := Tryz.prog) w 50 3 ty 70 i0 _ .i64 .i64 Tryz.underlying50 Tryz.underlying3 hi0 hz0 (some ⟨g, 0, none⟩) i cap (rowC wrc (L.take i)) hold (L.length + 1 - i) (by omega) (by omega) (by omega) (by omega) (by rw [hzb]; omega) (by rw [hzb, hik]; exact growslice_fits hcap (by omega))
  rw [hik] at h
  rw [show (L.length : Int) + 1 - (i : Int) = ((L.length + 1 - i : Nat) : Int) by omega]
  exact h
 obtain ⟨G, hG⟩ := xj (grownCap w (L.length + 1) cap 70)
 have hGn : L.length + 1 ≤ G := by rw [← hG]; exact grownCap_ge w _ _ _
 have hGm : G ≤ maxLen := by rw [← hG]; exact grownCap_le_maxLen w (L.length + 1) cap 70 (by unfold maxLen; omega)
 rw [hG] at hrz
 obtain ⟨ROW, hROW⟩ : ∃ ROW : Array Value, (rowC wrc (L.take i)).toArray ++ Builtin.zeroCells (Value.agg #[su, su, .bool false]).cells (L.length + 1 - i) ++ Builtin.zeroCells (Value.agg #[su, su, .bool false]).cells (G - (L.length + 1)) = ROW := ⟨_, rfl⟩
 rw [hROW] at hrz
 have hRs : ROW.size = G * 3 := by
  rw [← hROW]
  simp only [Array.size_append, List.size_toArray, size_zeroCells, hA]
  show i * 3 + (L.length + 1 - i) * 3 + (G - (L.length + 1)) * 3 = G * 3
  omega
 have hRA : ROW.toList.take (i * 3) = rowC wrc (L.take i) := by
  rw [← hROW]
  simp only [Array.toList_append, List.toList_toArray, List.append_assoc]
  rw [List.take_append_of_le_length (by omega), List.take_of_length_le (by omega)]
 obtain ⟨W1, hW1⟩ := xj (w.drew.alloc (.cells ROW 70))
 have hN1 : W1.heap[w.heap.size]? = some (.cells ROW 70 (0, 0)) := by rw [← hW1]; exact heap_alloc_new w.drew _
 have hb1 : Below w.heap.size w W1 := by rw [← hW1]; exact (Below.refl _ _).drew.alloc (Nat.le_refl _) _
 have hx1 : W1.heap[bx]? = some (.cells (wrc x).toArray 70 (0, 0)) := by rw [hb1.block _ (lt_blk hx)]; exact hx
 rw [hW1] at hrz
 have hcpA : ∀ (W : World), W.heap = W1.heap → ∀ ty dc, (Builtin.copy_ #[50, 50] ty #[.slice (some ⟨w.heap.size, i * 3, none⟩) (L.length + 1 - i) dc, .slice (some ⟨bx, 0, none⟩) 1 1]).run Tryz.prog W = .ok (goInt 1) (W.setCells w.heap.size (i * 3) (wrc x)) := fun W hW ty dc =>
  run_copy_rows W 50 50 ty 70 3 1 w.heap.size (i * 3) (L.length + 1 - i) dc 1 1 ⟨bx, 0, none⟩ (wrc x) Tryz.underlying50 rfl (by simp only [Nat.min_def]; split <;> omega) rfl
   (fun j v hj => by
    rw [Addr.add_lit, Nat.zero_add]
    exact block_cell (w := W) (by rw [hW]; exact hx1) (by simpa using hj))
   (fun j hj => by
    have : j < 3 := hj
    rw [block_cell (w := W) (by rw [hW]; exact hN1) (Array.getElem?_eq_getElem (by omega))]
    rfl) (fun j hj => block_frozen (w := W) (by rw [hW]; exact hN1) _) (wrc_one x)
 have e1 := setCells_box (wrc x) (i * 3) W1 ROW hN1 (by rw [hRs, show (wrc x).length = 3 from rfl]; omega)
 obtain ⟨R2, hR2⟩ : ∃ R2 : Array Value, (ROW.toList.take (i * 3) ++ wrc x ++ ROW.toList.drop (i * 3 + (wrc x).length)).toArray = R2 := ⟨_, rfl⟩
 rw [hR2] at e1
 have hR2s : R2.size = G * 3 := by rw [← hR2, ← hRs]; simp [show (wrc x).length = 3 from rfl, hRs]; omega
 have hR2A : R2.toList.take ((i + 1) * 3) = rowC wrc (L.take i) ++ wrc x := by
  rw [← hR2]
  simp only [List.toList_toArray]
  rw [hRA, List.take_append_of_le_length (by simp [hA, show (wrc x).length = 3 from rfl]; omega), List.take_of_length_le (by simp [hA, show (wrc x).length = 3 from rfl]; omega)]
 have ks1 := setCells_kept w.heap.size (wrc x) (i * 3) W1
 have hcA := hcpA W1 rfl
 obtain ⟨W2, hW2⟩ := xj (W1.setCells w.heap.size (i * 3) (wrc x))
 rw [hW2] at hcA e1 ks1
 have hk2 : Kept (fun k => w.heap.size ≤ k) w W2 := (Kept.of_below hb1).trans ks1 (fun k e => .inl (by omega))
 have hg2 : W2.heap[g]? = w.heap[g]? := hk2.block g (lt_blk h1) (by have := lt_blk h1; omega)
 have hcB : ∀ ty dc sc, (Builtin.copy_ #[50, 50] ty #[.slice (some ⟨w.heap.size, (i + 1) * 3, none⟩) (L.length + 1 - (i + 1)) dc, .slice (some ⟨g, i * 3, none⟩) (L.length - i) sc]).run Tryz.prog W2.drew = .ok (goInt ((L.length - i : Nat) : Int)) (W2.drew.setCells w.heap.size ((i + 1) * 3) (rowC wrc (L.drop i))) := fun ty dc sc =>
  run_copy_rows W2.drew 50 50 ty 70 3 (L.length - i) w.heap.size ((i + 1) * 3) (L.length + 1 - (i + 1)) dc (L.length - i) sc ⟨g, i * 3, none⟩ (rowC wrc (L.drop i)) Tryz.underlying50 rfl (by simp only [Nat.min_def]; split <;> omega) hB
   (fun j v hj => by
    rw [Addr.add_lit]
    have k := hcell (i * 3 + j) v (by rw [← rowC_drop wrc_len, List.getElem?_drop] at hj; exact hj)
    unfold World.cell? at k ⊢
    rw [show W2.drew.heap[g]? = w.heap[g]? from hg2]
    exact k)
   (fun j hj => by
    rw [block_cell (w := W2.drew) e1 (Array.getElem?_eq_getElem (by omega))]
    rfl) (fun j hj => block_frozen (w := W2.drew) e1 _) (rowC_cells wrc wrc_one _)
 have HF : Hid ((W2.drew.setCells w.heap.size ((i + 1) * 3) (rowC wrc (L.drop i))).ownsRow base 70 3 (.slice (some ⟨w.heap.size, 0, none⟩) (L.length + 1) G) (L.length + 1) (rowC wrc (insAt L i x))) := own_tail (W := W2.drew) x e1 hR2s hR2A (by omega) hGn hGm hb
 have HK : Hid (Kept (fun k => k = g) w (W2.drew.setCells w.heap.size ((i + 1) * 3) (rowC wrc (L.drop i)))) := by
  have k := (hk2.drew).trans (setCells_kept w.heap.size (rowC wrc (L.drop i)) ((i + 1) * 3) W2.drew) (fun k e => .inl (by omega))
  exact ⟨k.os, k.tape, k.output, k.size, fun j hj _ => k.block j hj (by omega)⟩
 have hcm : cap ≤ 9223372036854775807 := by omega
 have hG63 : G ≤ 9223372036854775807 := by unfold maxLen at hGm; omega
 have hz2 : ((i : Int) == (L.length : Int)) = false := by simp; omega
 have hz3 : (cap : Int) < (L.length : Int) + 1 := by omega
 have hw1 : IntKind.i64.wrap ((i : Int) + 1) = (i : Int) + 1 := by rw [IntKind.wrap_i64]; omega
 have hbb1 : (0 : Int) ≤ (i : Int) + 1 := by omega
 have hin : i ≤ L.length := by omega
 have htn : ((i : Int) + 1).toNat = i + 1 := by omega
 have hG1 : ¬ (G = i + 1) := by omega
 have hG2 : ¬ (G = i) := by omega
 have hb3 : (i : Int) ≤ (L.length : Int) + 1 := by omega
 have hb4 : ¬ (cap = i) := by omega
 have hb5 : (i : Int) ≤ (cap : Int) := by omega
 clear hL h1 h2 h3 h4 h5 h6 hx hcell hx1 e1 hR2 hR2s hR2A ks1 hcpA hROW hRs hRA hN1 hb1 hold hB hA hi0 hz0 hzs hzb hk2 hg2 hW1 hW2 hG hb
 go_enter Tryz.func87, Tryz.ntmps87
 go_wp2_with (first
  | (at_builtin; refine Lib.wpList_append_run _ rfl _ _ _ _ rfl _ _ rfl rfl _ _ (hrz _) ?_)
  | (at_builtin; refine wpList_copy rfl _ _ 50 50 rfl _ _ rfl rfl (hcA _ _) ?_))
 refine wp_region_held_drew (S := (fun _ => True)) (by kernel_rfl) trivial (fun hHeld => ?_)
 refine tq 0 ?_
 refine tq 1 ?_
 refine tq 2 ?_
 refine tq 3 ?_
 refine tq 4 ?_
 refine tq 5 ?_
 refine tq 6 ?_
 refine tq 7 ?_
 refine rd 8 (fun K hK => ?_)
 refine step_copy rfl (.tmp 50) (.tmp 53) 50 50 rfl (.slice (some ⟨w.heap.size, (i + 1) * 3, none⟩) (L.length + 1 - (i + 1)) (G - (i + 1))) (.slice (some ⟨g, i * 3, none⟩) (L.length - i) (cap - i)) (by simp [Act.eval, Act.put]) (by simp [Act.eval, Act.put]) (hcB 3 (G - (i + 1)) (cap - i)) ?_
 refine kj hK trivial (fun hHeld => ?_)
 clear hK K
 refine wpAnyH_done (by kernel_rfl) ?_ _
 clear hHeld hcB hcA hrz
 go_wp2_with fail
 go_ret
 exact ⟨_, rfl, HF.out, .inr rfl, HK.out⟩
theorem insert87c (base : Nat) (L : List Wr) (v : Value) (w : World) (hL : w.ownsRow base 70 3 v L.length (rowC wrc L)) (hb : base ≤ w.heap.size) (hlen : L.length ≤ 1000) (x : Wr) (bx : Nat) (hx : w.heap[bx]? = some (.cells (wrc x).toArray 70 (0, 0))) :
  Calls Tryz.prog 87 #[v, iw (L.length : Int), .slice (some ⟨bx, 0, none⟩) 1 1] w fun e w' => ∃ v', e = .returned v' ∧ w'.ownsRow base 70 3 v' (L.length + 1) (rowC wrc (insAt L L.length x)) ∧ (v'.ownBlock = v.ownBlock ∨ v'.ownBlock = some w.heap.size) ∧ Kept (fun k => v.ownBlock = some k) w w' := by
 obtain ⟨i0, hin0, hi0, hi1, hi2⟩ := info_parts Pla.info70
 obtain ⟨ao, cap, rfl, -, hlc, hcm, -⟩ := rw_own hL
 have HO : Hid (Ow base 70 3 (.slice ao L.length cap) L.length (rowC wrc L) w.heap.size (.slice (some ⟨bx, 0, none⟩) 1 1) 1 (rowC wrc [x]) w) := ⟨hL, ⟨_, 1, rfl, rfl, Nat.le_refl _, by omega, fun _ => ⟨_, 0, rfl, fun _ => lt_blk hx, fun j u hj => by rw [Nat.zero_add]; rw [rowC_one] at hj; exact block_cell hx (by simpa using hj)⟩⟩, rowC_cells wrc wrc_one _, hb, by omega⟩
 have HI : Hid (rowC wrc (insAt L L.length x) = rowC wrc L ++ rowC wrc [x]) := by
  show _ = _
  unfold insAt
  rw [List.take_of_length_le (Nat.le_refl _), List.drop_of_length_le (Nat.le_refl _), rowC_append]
 have hl63 : L.length < 9223372036854775808 := by omega
 by_cases hcn : cap = L.length
 ·subst hcn
  clear hL hx
  go_enter Tryz.func87, Tryz.ntmps87
  go_wp2_with (at_builtin; refine wpList_append_rw HO.out Tryz.underlying50 hin0 hi0 hi1 hi2 rfl (by decide) (by decide) (.tmp 23) (.tmp 24) rfl rfl rfl rfl ?_)
  intro v' w1 hown hg hat
  go_wp2_with fail
  go_ret
  exact ⟨v', rfl, by rw [HI.out]; exact hown, hat, grown_kept hg⟩
 ·obtain ⟨g, rfl⟩ : ∃ g, ao = some ⟨g, 0, none⟩ := by
   rcases hL.2 with ⟨e, h0⟩ | ⟨g, cap', cur, e, -⟩
   ·injection e with e1 e2 e3
    omega
   ·injection e with e1
    exact ⟨g, e1⟩
  clear hL hx
  go_enter Tryz.func87, Tryz.ntmps87
  go_wp2_with (at_builtin; refine wpList_append_rw HO.out Tryz.underlying50 hin0 hi0 hi1 hi2 rfl (by decide) (by decide) (.tmp 23) (.tmp 24) rfl rfl rfl rfl ?_)
  intro v' w1 hown hg hat
  go_wp2_with fail
  go_ret
  exact ⟨v', rfl, by rw [HI.out]; exact hown, hat, grown_kept hg⟩
theorem insert87 (base : Nat) (L : List Wr) (v : Value) (w : World) (hL : w.ownsRow base 70 3 v L.length (rowC wrc L)) (hb : base ≤ w.heap.size) (hlen : L.length ≤ 1000) (i : Nat) (hi : i ≤ L.length) (x : Wr) (bx : Nat) (hx : w.heap[bx]? = some (.cells (wrc x).toArray 70 (0, 0))) (hne : v.ownBlock ≠ some bx) :
  Calls Tryz.prog 87 #[v, iw (i : Int), .slice (some ⟨bx, 0, none⟩) 1 1] w fun e w' => ∃ v', e = .returned v' ∧ w'.ownsRow base 70 3 v' (L.length + 1) (rowC wrc (insAt L i x)) ∧ (v'.ownBlock = v.ownBlock ∨ v'.ownBlock = some w.heap.size) ∧ Kept (fun k => v.ownBlock = some k) w w' := by
 by_cases hin : i = L.length
 ·subst hin
  exact insert87c base L v w hL hb hlen x bx hx
 ·have hi' : i < L.length := by omega
  obtain ⟨ao, cap, rfl, -, hlc, hcm, -⟩ := rw_own hL
  obtain ⟨g, rfl⟩ : ∃ g, ao = some ⟨g, 0, none⟩ := by
   rcases hL.2 with ⟨e, h0⟩ | ⟨g, cap', cur, e, -⟩
   ·omega
   ·injection e with e1
    exact ⟨g, e1⟩
  have hmono : ∀ {e w'}, (∃ v', e = Ending.returned v' ∧ w'.ownsRow base 70 3 v' (L.length + 1) (rowC wrc (insAt L i x)) ∧ (v'.ownBlock = some g ∨ v'.ownBlock = some w.heap.size) ∧ Kept (fun k => k = g) w w') → ∃ v', e = Ending.returned v' ∧ w'.ownsRow base 70 3 v' (L.length + 1) (rowC wrc (insAt L i x)) ∧ (v'.ownBlock = (Value.slice (some ⟨g, 0, none⟩) L.length cap).ownBlock ∨ v'.ownBlock = some w.heap.size) ∧ Kept (fun k => (Value.slice (some ⟨g, 0, none⟩) L.length cap).ownBlock = some k) w w' := fun {e w'} ⟨v', a, b, c, d⟩ => ⟨v', a, b, c, d.mono (fun k e => by subst e; rfl)⟩
  by_cases hc : L.length + 1 ≤ cap
  ·exact (insert87a base L g cap w hL i hi' hc x bx hx (fun e => hne (by rw [e]; rfl))).mono fun e w' h => hmono h
  ·exact (insert87b base L g cap w hL hb hlen i hi' (by omega) x bx hx).mono fun e w' h => hmono h
theorem lt_irr (a : List UInt8) : ¬ a < a := List.lt_irrefl a
theorem ins_at (x : Wr) : ∀ (L : List Wr) (i : Nat), i ≤ L.length → (∀ t, t < i → (L.getD t dw).key < x.key) → (i < L.length → ¬ (L.getD i dw).key < x.key) → insW x L = insAt L i x
 | [], i, h, _, _ => by
  obtain rfl : i = 0 := by simpa using h
  rfl
 | y :: l, 0, _, _, h2 => by
  have k : ¬ y.key < x.key := h2 (by simp)
  unfold insW
  rw [if_neg k]
  rfl
 | y :: l, i + 1, h, h1, h2 => by
  have k : y.key < x.key := h1 0 (by omega)
  unfold insW
  rw [if_pos k, ins_at x l i (by simpa using h) (fun t ht => h1 (t + 1) (by omega)) (fun hl => h2 (by simpa using hl))]
  rfl
theorem set_at (x : Wr) : ∀ (L : List Wr) (i : Nat), i < L.length → (∀ t, t < L.length → ((L.getD t dw).key = x.key ↔ t = i)) → (L.map fun y => if y.key == x.key then x else y) = L.set i x
 | [], i, h, _ => absurd h (by simp)
 | y :: l, 0, _, h => by
  have k : y.key = x.key := (h 0 (by simp)).2 rfl
  have kn : ∀ z ∈ l, ¬ z.key = x.key := fun z hz e => by
   obtain ⟨t, ht, rfl⟩ := List.getElem_of_mem hz
   have := (h (t + 1) (by simpa using ht)).1 (by simpa [List.getD, ht] using e)
   omega
  rw [List.map_cons, List.set_cons_zero, if_pos (by simpa using k)]
  congr 1
  conv => rhs; rw [← List.map_id l]
  apply List.map_congr_left
  intro z hz
  rw [if_neg (by simpa using kn z hz)]
  rfl
 | y :: l, i + 1, h, hh => by
  have k : ¬ y.key = x.key := fun e => by
   have := (hh 0 (by simp)).1 e
   omega
  rw [List.map_cons, List.set_cons_succ, if_neg (by simpa using k), set_at x l i (by simpa using h) (fun t ht => by
   have k2 := hh (t + 1) (by simpa using ht)
   constructor
   ·intro e
    have := k2.1 e
    omega
   ·intro e
    exact k2.2 (by omega))]
theorem rightW_one (x : Wr) : rightW [x] = wOk x := by simp [rightW]
theorem SC.written {vw' : Value} {ws' : List Wr} (h : SC f N X W) (ha : X.act = true) (hk : Kept (fun k => k = f.tb ∨ f.vw.ownBlock = some k) W W') (htb : W'.heap[f.tb]? = some (.cells (txA { f with vw := vw' } X) 79 (0, 0))) (hr : W'.ownsRow 0 70 3 vw' ws'.length (rowC wrc ws')) (hb : ∀ k, vw'.ownBlock = some k → f.vw.ownBlock = some k ∨ W.heap.size ≤ k) : To f N X.act W { f with vw := vw' } { X with ws := ws' } W' := by
 have htx := h.tx ha
 have hin : ∀ i, ({ f with vw := vw' } : Fo).In X.act i → f.In X.act i ∨ W.heap.size ≤ i := fun i e => by
  rcases e with e | e | e | ⟨e0, e | e⟩ | e | e
  ·exact .inl (.inl e)
  ·exact .inl (.inr (.inl e))
  ·exact .inl (.inr (.inr (.inl e)))
  ·exact .inl (.inr (.inr (.inr (.inl ⟨e0, .inl e⟩))))
  ·rcases hb i e with e | e
   ·exact .inl (.inr (.inr (.inr (.inl ⟨e0, .inr e⟩))))
   ·exact .inr e
  ·exact .inl (.inr (.inr (.inr (.inr (.inl e)))))
  ·exact .inl (.inr (.inr (.inr (.inr (.inr e)))))
 have s : Stay (fun k => k = f.tb ∨ f.vw.ownBlock = some k) (f.Ex N X.act) (({ f with vw := vw' } : Fo).Ex N X.act) W W' := ⟨hk, fun k e => .inr (.inr (.inr (.inr (.inl ⟨ha, e⟩)))), fun k hl e => e.elim .inl (fun e => by
  rcases hin k e with e | e
  ·exact .inr e
  ·omega)⟩
 have ne : ∀ {b : Nat} {cs : Array Value} {ty : TypeId}, W.heap[b]? = some (.cells cs ty (0, 0)) → ty ≠ 79 → ty ≠ 70 → ¬ (b = f.tb ∨ f.vw.ownBlock = some b) := fun {b cs ty} e h1 h2 e2 => by
  rcases e2 with e2 | e2
  ·exact ne_tag e htx.1 h1 e2
  ·exact own_ne htx.2 e (Ne.symm h2) e2
 have B : ∀ {b : Nat} {cs : Array Value} {ty : TypeId}, W.heap[b]? = some (.cells cs ty (0, 0)) → ty ≠ 79 → ty ≠ 70 → W'.heap[b]? = some (.cells cs ty (0, 0)) := fun {b cs ty} e h1 h2 => by rw [hk.block b (lt_blk e) (ne e h1 h2)]; exact e
 have O : ∀ {base e size : Nat} {v : Value} {n : Nat} {cs : List Value}, W.ownsRow base e size v n cs → e ≠ 79 → e ≠ 70 → W'.ownsRow base e size v n cs := fun h0 h1 h2 => own_kept h0 hk fun k hv => by
  obtain ⟨c, hc⟩ := own_blk h0 hv
  exact ne hc h1 h2
 exact ⟨⟨B h.blk (by decide) (by decide), fun a => ⟨htb, hr⟩, O h.ra (by decide) (by decide), O h.ro (by decide) (by decide), h.ea, h.eo, ⟨fun a => B (h.bx.l a) (by decide) (by decide), fun a => ⟨B (h.bx.p a).1 (by decide) (by decide), O (h.bx.p a).2.1 (by decide) (by decide), (h.bx.p a).2.2.stay s⟩, fun a => ⟨B (h.bx.c a).1 (by decide) (by decide), (h.bx.c a).2⟩, h.bx.le⟩, fun n a => B (h.gb n a) (by decide) (by decide), h.gd, fun x hx => (h.ak x hx).stay s ⟨rfl, rfl, rfl, rfl, fun _ h => ⟨h, rfl⟩⟩ rfl (fun _ _ => rfl), fun x hx => ⟨(h.lk x hx).1.stay s, (h.lk x hx).2⟩⟩, hk.mono (fun k e => .inr (.inr (.inr (.inl ⟨ha, e⟩)))), hin⟩
end Go.Proofs.YtkdkgdollmmcnaaGreat
