import Derived.Test.YtkdkgdollmmcnaaGreatWah
set_option maxHeartbeats 4000000
set_option maxRecDepth 100000
set_option linter.unusedVariables false
set_option linter.unusedSimpArgs false
namespace Go.Proofs.YtkdkgdollmmcnaaGreat
open Go.RowKit Go.Sort
theorem there_box {W : World} {b : Nat} {cs : Array Value} {ty : TypeId} {o n : Nat} (h : W.heap[b]? = some (.cells cs ty (0, 0))) (hn : o + n ≤ cs.size) : W.there b o n := fun j hj => ⟨by
  rw [block_cell h (Array.getElem?_eq_getElem (show o + j < cs.size by omega))]
  rfl, block_frozen h _⟩
theorem range_box {W : World} {b : Nat} {cs : Array Value} {ty : TypeId} {o n : Nat} (h : W.heap[b]? = some (.cells cs ty (0, 0))) : W.rangeAt b o ((cs.toList.drop o).take n) := fun j v hv => by
 refine block_cell h ?_
 rw [List.getElem?_take] at hv
 split at hv
 ·rw [List.getElem?_drop, Array.getElem?_toList] at hv
  exact hv
 ·cases hv
theorem setCells_kept (b : Nat) : ∀ (vs : List Value) (o : Nat) (W : World), Kept (fun k => k = b) W (W.setCells b o vs)
 | [], o, W => Kept.refl _ _
 | v :: vs, o, W => (set_kept' W b o v).trans (setCells_kept b vs (o + 1) (W.setCell ⟨b, o, none⟩ v)) (fun i e => .inl e)
theorem setCells_box {b : Nat} {ty : TypeId} : ∀ (vs : List Value) (o : Nat) (W : World) (cs : Array Value), W.heap[b]? = some (.cells cs ty (0, 0)) → o + vs.length ≤ cs.size → (W.setCells b o vs).heap[b]? = some (.cells (cs.toList.take o ++ vs ++ cs.toList.drop (o + vs.length)).toArray ty (0, 0))
 | [], o, W, cs, h, hl => by
  show W.heap[b]? = _
  rw [h]
  simp
 | v :: vs, o, W, cs, h, hl => by
  have h1 := block_set (j := o) v h
  have h2 := setCells_box vs (o + 1) _ _ h1 (by simp at hl ⊢; omega)
  show ((W.setCell ⟨b, o, none⟩ v).setCells b (o + 1) vs).heap[b]? = _
  rw [h2]
  congr 2
  simp only [List.length_cons] at hl
  have ho : o < cs.size := by omega
  apply congrArg List.toArray
  have e1 : (cs.setIfInBounds o v).toList = cs.toList.set o v := by simp
  rw [e1, List.take_set, List.drop_set]
  rw [if_pos (by omega)]
  simp only [List.length_cons]
  rw [show o + (vs.length + 1) = o + 1 + vs.length from by omega]
  congr 1
  have e2 : (cs.toList.take (o + 1)).set o v = cs.toList.take o ++ [v] := by
   rw [List.take_add_one, List.set_append]
   simp [List.length_take, Nat.min_eq_left (Nat.le_of_lt ho), ho]
  rw [e2]
  simp
theorem info99 : ∃ i z, Tryz.prog.info? 99 = some i ∧ i.zero = some z ∧ i.size = 33 ∧ i.bytes = 312 ∧ z.cells.size = 33 := ⟨_, _, rfl, rfl, rfl, rfl, rfl⟩
theorem info55 : ∃ i z, Tryz.prog.info? 55 = some i ∧ i.zero = some z ∧ i.size = 31 ∧ i.bytes = 296 ∧ z.cells.size = 31 := ⟨_, _, rfl, rfl, rfl, rfl, rfl⟩
theorem post147w (f : Fo) (w : World) (c1 c2 c3 c4 v6 v7 va vo ch fv q0 q1 q2 q3 q4 q5 q6 q7 q8 q9 q10 q11 q12 : Value) (cl sq s1 n nn : Int) (na no : Nat) (ca co : List Value)
  (hblk : w.heap[f.sb]? = some (.cells #[.int .u32 cl, c1, c2, c3, c4, .int .u32 sq, v6, v7, va, vo] 77 (0, 0))) (ra : w.ownsRow 0 99 33 va na ca) (ro : w.ownsRow 0 55 31 vo no co) (eva : f.va = va) (evo : f.vo = vo)
  (e1 : IntKind.u32.wrap (sq + 1) = s1) (e2 : IntKind.u32.wrap n = nn) (one : ∀ u ∈ [q0, q1, q2, q3, q4, q5, q6, q7, q8, q9, q10, q11, q12, ch, fv], u.oneCell' = true) (hna : na + 1 ≤ 1048576) (hno : no + 1 ≤ 1048576) :
  Calls Tryz.prog 147 #[pz f.sb, iw n, .agg #[q0, q1, q2, q3, q4, q5, q6, q7, q8, q9, q10, q11, q12], .agg (List.toArray (.int .u32 0 :: .int .u32 0 :: .int .u32 0 :: .bool false :: iw 0 :: .int .u32 0 :: .int .u32 0 :: .int .u64 0 :: .int .u32 0 :: .int .u64 0 :: .int .u32 0 :: su :: su :: iw 0 :: .int .u8 0 :: sy :: sy :: iw 0 :: iw 0 :: .bool false :: su :: sy :: .int .u32 0 :: .int .u32 0 :: .int .u64 0 :: .int .u32 0 :: .int .u64 0 :: .int .u32 0 :: su :: .int .u64 0 :: .int .u32 0 :: ch :: fv :: []))] w fun e w' => e = .returned (.tuple #[]) ∧ ∃ va' vo', Kept f.Pg w w' ∧ w'.heap[f.sb]? = some (.cells #[.int .u32 cl, c1, c2, c3, c4, .int .u32 s1, v6, v7, va', vo'] 77 (0, 0)) ∧
   w'.ownsRow 0 99 33 va' (na + 1) (ca ++ (.int .u32 cl :: .int .u32 nn :: .int .u32 s1 :: .bool false :: q0 :: q1 :: q2 :: q3 :: q4 :: q5 :: q6 :: q7 :: q8 :: q9 :: q10 :: q11 :: q12 :: iw 0 :: iw 0 :: .bool false :: su :: sy :: .int .u32 0 :: .int .u32 0 :: .int .u64 0 :: .int .u32 0 :: .int .u64 0 :: .int .u32 0 :: su :: .int .u64 0 :: .int .u32 0 :: ch :: fv :: [])) ∧ w'.ownsRow 0 55 31 vo' (no + 1) (co ++ (.int .u32 cl :: .int .u32 nn :: .int .u32 s1 :: .bool false :: q0 :: q1 :: q2 :: q3 :: q4 :: q5 :: q6 :: q7 :: q8 :: q9 :: q10 :: q11 :: q12 :: iw 0 :: iw 0 :: .bool false :: su :: sy :: .int .u32 0 :: .int .u32 0 :: .int .u64 0 :: .int .u32 0 :: .int .u64 0 :: .int .u32 0 :: su :: .int .u64 0 :: .int .u32 0 :: [])) ∧ (∀ k, va'.ownBlock = some k → f.va.ownBlock = some k ∨ w.heap.size ≤ k) ∧ (∀ k, vo'.ownBlock = some k → f.vo.ownBlock = some k ∨ w.heap.size ≤ k) := by
 have J0 : Hid (Pj w f w.heap.size (w.alloc (.cells #[q0, q1, q2, q3, q4, q5, q6, q7, q8, q9, q10, q11, q12] 53)).heap.size (.int .u32 cl) c1 c2 c3 c4 (.int .u32 sq) v6 v7 va vo #[q0, q1, q2, q3, q4, q5, q6, q7, q8, q9, q10, q11, q12] (List.toArray (.int .u32 0 :: .int .u32 0 :: .int .u32 0 :: .bool false :: iw 0 :: .int .u32 0 :: .int .u32 0 :: .int .u64 0 :: .int .u32 0 :: .int .u64 0 :: .int .u32 0 :: su :: su :: iw 0 :: .int .u8 0 :: sy :: sy :: iw 0 :: iw 0 :: .bool false :: su :: sy :: .int .u32 0 :: .int .u32 0 :: .int .u64 0 :: .int .u32 0 :: .int .u64 0 :: .int .u32 0 :: su :: .int .u64 0 :: .int .u32 0 :: ch :: fv :: [])) na ca no co ((w.alloc (.cells #[q0, q1, q2, q3, q4, q5, q6, q7, q8, q9, q10, q11, q12] 53)).alloc (.cells (List.toArray (.int .u32 0 :: .int .u32 0 :: .int .u32 0 :: .bool false :: iw 0 :: .int .u32 0 :: .int .u32 0 :: .int .u64 0 :: .int .u32 0 :: .int .u64 0 :: .int .u32 0 :: su :: su :: iw 0 :: .int .u8 0 :: sy :: sy :: iw 0 :: iw 0 :: .bool false :: su :: sy :: .int .u32 0 :: .int .u32 0 :: .int .u64 0 :: .int .u32 0 :: .int .u64 0 :: .int .u32 0 :: su :: .int .u64 0 :: .int .u32 0 :: ch :: fv :: [])) 99))) := by
  have hb1 := al (W := w) (.cells #[q0, q1, q2, q3, q4, q5, q6, q7, q8, q9, q10, q11, q12] 53)
  have hb2 := al (W := w.alloc (.cells #[q0, q1, q2, q3, q4, q5, q6, q7, q8, q9, q10, q11, q12] 53)) (.cells (List.toArray (.int .u32 0 :: .int .u32 0 :: .int .u32 0 :: .bool false :: iw 0 :: .int .u32 0 :: .int .u32 0 :: .int .u64 0 :: .int .u32 0 :: .int .u64 0 :: .int .u32 0 :: su :: su :: iw 0 :: .int .u8 0 :: sy :: sy :: iw 0 :: iw 0 :: .bool false :: su :: sy :: .int .u32 0 :: .int .u32 0 :: .int .u64 0 :: .int .u32 0 :: .int .u64 0 :: .int .u32 0 :: su :: .int .u64 0 :: .int .u32 0 :: ch :: fv :: [])) 99)
  have hb : Below w.heap.size w ((w.alloc (.cells #[q0, q1, q2, q3, q4, q5, q6, q7, q8, q9, q10, q11, q12] 53)).alloc (.cells (List.toArray (.int .u32 0 :: .int .u32 0 :: .int .u32 0 :: .bool false :: iw 0 :: .int .u32 0 :: .int .u32 0 :: .int .u64 0 :: .int .u32 0 :: .int .u64 0 :: .int .u32 0 :: su :: su :: iw 0 :: .int .u8 0 :: sy :: sy :: iw 0 :: iw 0 :: .bool false :: su :: sy :: .int .u32 0 :: .int .u32 0 :: .int .u64 0 :: .int .u32 0 :: .int .u64 0 :: .int .u32 0 :: su :: .int .u64 0 :: .int .u32 0 :: ch :: fv :: [])) 99)) := hb1.trans (hb2.mono hb1.size)
  refine ⟨Kept.of_below hb, by rw [hb.block _ (lt_blk hblk)]; exact hblk, own_on ra hb, own_on ro hb, fun k hk => .inl (by rw [eva]; exact hk), fun k hk => .inl (by rw [evo]; exact hk), ?_, heap_alloc_new _ _, Nat.le_refl _, hb1.size, lt_blk hblk, fun hv => ?_⟩
  ·rw [hb2.block _ (by simp)]
   exact heap_alloc_new _ _
  ·have := (World.ownsRow.lt ra _ hv).2
   simp at this
   omega
 have OL : Hid (((List.toArray (.int .u32 cl :: .int .u32 nn :: .int .u32 s1 :: .bool false :: q0 :: q1 :: q2 :: q3 :: q4 :: q5 :: q6 :: q7 :: q8 :: q9 :: q10 :: q11 :: q12 :: iw 0 :: iw 0 :: .bool false :: su :: sy :: .int .u32 0 :: .int .u32 0 :: .int .u64 0 :: .int .u32 0 :: .int .u64 0 :: .int .u32 0 :: su :: .int .u64 0 :: .int .u32 0 :: [])) : Array Value).all (·.oneCell') = true) := by
  show _ = _
  have i1 : ∀ k n, (Value.int k n).oneCell' = true := fun _ _ => rfl
  have i2 : ∀ b, (Value.bool b).oneCell' = true := fun _ => rfl
  have i3 : ∀ b, (Value.string b).oneCell' = true := fun _ => rfl
  have i4 : ∀ a b c, (Value.slice a b c).oneCell' = true := fun _ _ _ => rfl
  have o0 := one q0 (by simp)
  have o1 := one q1 (by simp)
  have o2 := one q2 (by simp)
  have o3 := one q3 (by simp)
  have o4 := one q4 (by simp)
  have o5 := one q5 (by simp)
  have o6 := one q6 (by simp)
  have o7 := one q7 (by simp)
  have o8 := one q8 (by simp)
  have o9 := one q9 (by simp)
  have o10 := one q10 (by simp)
  have o11 := one q11 (by simp)
  have o12 := one q12 (by simp)
  simp [i1, i2, i3, i4, o0, o1, o2, o3, o4, o5, o6, o7, o8, o9, o10, o11, o12]
 have OA : Hid (∀ u ∈ (.int .u32 cl :: .int .u32 nn :: .int .u32 s1 :: .bool false :: q0 :: q1 :: q2 :: q3 :: q4 :: q5 :: q6 :: q7 :: q8 :: q9 :: q10 :: q11 :: q12 :: iw 0 :: iw 0 :: .bool false :: su :: sy :: .int .u32 0 :: .int .u32 0 :: .int .u64 0 :: .int .u32 0 :: .int .u64 0 :: .int .u32 0 :: su :: .int .u64 0 :: .int .u32 0 :: ch :: fv :: []), u.oneCell' = true) := by
  show ∀ u ∈ _, _
  have i1 : ∀ k n, (Value.int k n).oneCell' = true := fun _ _ => rfl
  have i2 : ∀ b, (Value.bool b).oneCell' = true := fun _ => rfl
  have i3 : ∀ b, (Value.string b).oneCell' = true := fun _ => rfl
  have i4 : ∀ a b c, (Value.slice a b c).oneCell' = true := fun _ _ _ => rfl
  have o0 := one q0 (by simp)
  have o1 := one q1 (by simp)
  have o2 := one q2 (by simp)
  have o3 := one q3 (by simp)
  have o4 := one q4 (by simp)
  have o5 := one q5 (by simp)
  have o6 := one q6 (by simp)
  have o7 := one q7 (by simp)
  have o8 := one q8 (by simp)
  have o9 := one q9 (by simp)
  have o10 := one q10 (by simp)
  have o11 := one q11 (by simp)
  have o12 := one q12 (by simp)
  have o13 := one ch (by simp)
  have o14 := one fv (by simp)
  simp [i1, i2, i3, i4, o0, o1, o2, o3, o4, o5, o6, o7, o8, o9, o10, o11, o12, o13, o14]
 have OL2 : Hid (∀ u ∈ (.int .u32 cl :: .int .u32 nn :: .int .u32 s1 :: .bool false :: q0 :: q1 :: q2 :: q3 :: q4 :: q5 :: q6 :: q7 :: q8 :: q9 :: q10 :: q11 :: q12 :: iw 0 :: iw 0 :: .bool false :: su :: sy :: .int .u32 0 :: .int .u32 0 :: .int .u64 0 :: .int .u32 0 :: .int .u64 0 :: .int .u32 0 :: su :: .int .u64 0 :: .int .u32 0 :: []), u.oneCell' = true) := by
  show ∀ u ∈ _, _
  have i1 : ∀ k n, (Value.int k n).oneCell' = true := fun _ _ => rfl
  have i2 : ∀ b, (Value.bool b).oneCell' = true := fun _ => rfl
  have i3 : ∀ b, (Value.string b).oneCell' = true := fun _ => rfl
  have i4 : ∀ a b c, (Value.slice a b c).oneCell' = true := fun _ _ _ => rfl
  have o0 := one q0 (by simp)
  have o1 := one q1 (by simp)
  have o2 := one q2 (by simp)
  have o3 := one q3 (by simp)
  have o4 := one q4 (by simp)
  have o5 := one q5 (by simp)
  have o6 := one q6 (by simp)
  have o7 := one q7 (by simp)
  have o8 := one q8 (by simp)
  have o9 := one q9 (by simp)
  have o10 := one q10 (by simp)
  have o11 := one q11 (by simp)
  have o12 := one q12 (by simp)
  simp [i1, i2, i3, i4, o0, o1, o2, o3, o4, o5, o6, o7, o8, o9, o10, o11, o12]
 clear hblk ra ro eva evo one
 obtain ⟨W1, hW1⟩ := xj (w.alloc (.cells #[q0, q1, q2, q3, q4, q5, q6, q7, q8, q9, q10, q11, q12] 53))
 rw [hW1] at J0
 obtain ⟨W2, hW2⟩ := xj (W1.alloc (.cells (List.toArray (.int .u32 0 :: .int .u32 0 :: .int .u32 0 :: .bool false :: iw 0 :: .int .u32 0 :: .int .u32 0 :: .int .u64 0 :: .int .u32 0 :: .int .u64 0 :: .int .u32 0 :: su :: su :: iw 0 :: .int .u8 0 :: sy :: sy :: iw 0 :: iw 0 :: .bool false :: su :: sy :: .int .u32 0 :: .int .u32 0 :: .int .u64 0 :: .int .u32 0 :: .int .u64 0 :: .int .u32 0 :: su :: .int .u64 0 :: .int .u32 0 :: ch :: fv :: [])) 99))
 rw [hW2] at J0
 obtain ⟨bx, hbx⟩ := xj W1.heap.size
 rw [hbx] at J0
 obtain ⟨bq, hbq⟩ := xj w.heap.size
 rw [hbq] at J0
 have p5 : W2.cell? ⟨f.sb, 5, none⟩ = some (.int .u32 sq) := block_cell J0.out.blk rfl
 have g5 : W2.frozen? ⟨f.sb, 5, none⟩ = false := block_frozen J0.out.blk 5
 go_enter Tryz.func147, Tryz.ntmps147
 go_upto_region 2 with fail
 have J1 : Hid _ := J0.out.st 5 (.int .u32 s1) (.int .u32 s1) rfl
 obtain ⟨W3, hW3⟩ := xj (W2.setCell ⟨f.sb, 5, none⟩ (.int .u32 s1))
 rw [hW3] at J1
 rw [hW3]
 clear J0 p5 g5 hW3 hW2 hW1
 have J2 : Hid (Pj w f bq bx (.int .u32 cl) c1 c2 c3 c4 (.int .u32 s1) v6 v7 va vo #[q0, q1, q2, q3, q4, q5, q6, q7, q8, q9, q10, q11, q12] (List.toArray (.int .u32 cl :: .int .u32 nn :: .int .u32 s1 :: .bool false :: q0 :: q1 :: q2 :: q3 :: q4 :: q5 :: q6 :: q7 :: q8 :: q9 :: q10 :: q11 :: q12 :: iw 0 :: iw 0 :: .bool false :: su :: sy :: .int .u32 0 :: .int .u32 0 :: .int .u64 0 :: .int .u32 0 :: .int .u64 0 :: .int .u32 0 :: su :: .int .u64 0 :: .int .u32 0 :: ch :: fv :: [])) na ca no co (W3.drew.setCells bx 0 (.int .u32 cl :: .int .u32 nn :: .int .u32 s1 :: .bool false :: q0 :: q1 :: q2 :: q3 :: q4 :: q5 :: q6 :: q7 :: q8 :: q9 :: q10 :: q11 :: q12 :: iw 0 :: iw 0 :: .bool false :: su :: sy :: .int .u32 0 :: .int .u32 0 :: .int .u64 0 :: .int .u32 0 :: .int .u64 0 :: .int .u32 0 :: su :: .int .u64 0 :: .int .u32 0 :: []))) := J1.out.dr.box (setCells_kept bx (.int .u32 cl :: .int .u32 nn :: .int .u32 s1 :: .bool false :: q0 :: q1 :: q2 :: q3 :: q4 :: q5 :: q6 :: q7 :: q8 :: q9 :: q10 :: q11 :: q12 :: iw 0 :: iw 0 :: .bool false :: su :: sy :: .int .u32 0 :: .int .u32 0 :: .int .u64 0 :: .int .u32 0 :: .int .u64 0 :: .int .u32 0 :: su :: .int .u64 0 :: .int .u32 0 :: []) 0 _) (setCells_box (.int .u32 cl :: .int .u32 nn :: .int .u32 s1 :: .bool false :: q0 :: q1 :: q2 :: q3 :: q4 :: q5 :: q6 :: q7 :: q8 :: q9 :: q10 :: q11 :: q12 :: iw 0 :: iw 0 :: .bool false :: su :: sy :: .int .u32 0 :: .int .u32 0 :: .int .u64 0 :: .int .u32 0 :: .int .u64 0 :: .int .u32 0 :: su :: .int .u64 0 :: .int .u32 0 :: []) 0 _ _ J1.out.dr.hx (by simp))
 refine wp_region_held_drew (S := (fun W => ∃ ac : Array Value, Pj w f bq bx (.int .u32 cl) c1 c2 c3 c4 (.int .u32 s1) v6 v7 va vo #[q0, q1, q2, q3, q4, q5, q6, q7, q8, q9, q10, q11, q12] ac na ca no co W ∧ ac.size = 33)) (by kernel_rfl) ⟨_, J1.out.dr, rfl⟩ (fun hHeld => ?_)
 refine tq 0 ?_
 refine tq 1 ?_
 refine tq 2 ?_
 refine tj 3 ?v4 ?hy4 ?_
 case hy4 => (intro w' hS'; obtain ⟨ac, h', hs'⟩ := hS'; have p0 : w'.cell? ⟨f.sb, 0, none⟩ = some (.int .u32 cl) := block_cell h'.blk rfl; have p5 : w'.cell? ⟨f.sb, 5, none⟩ = some (.int .u32 s1) := block_cell h'.blk rfl; go_simp; (try with_reducible rfl))
 simp only [Act.put, sx]
 refine tq 4 ?_
 refine tq 5 ?_
 refine tq 6 ?_
 refine tq 7 ?_
 refine tq 8 ?_
 refine tj 9 ?v10 ?hy10 ?_
 case hy10 => (intro w' hS'; obtain ⟨ac, h', hs'⟩ := hS'; have p0 : w'.cell? ⟨f.sb, 0, none⟩ = some (.int .u32 cl) := block_cell h'.blk rfl; have p5 : w'.cell? ⟨f.sb, 5, none⟩ = some (.int .u32 s1) := block_cell h'.blk rfl; go_simp; (try with_reducible rfl))
 simp only [Act.put, sx]
 refine tl 10 53 bq 0 [q0, q1, q2, q3, q4, q5, q6, q7, q8, q9, q10, q11, q12] (fun W hW => by obtain ⟨ac, h', hs'⟩ := hW; exact range_box (n := 13) h'.hq) Tryz.underlying53 ?_
 refine tq 11 ?_
 refine tq 12 ?_
 refine rd 13 (fun K hK => ?_)
 rw [if_pos (by rfl)]
 refine wp_store_mid 55 _ _ rfl bx 0 (List.toArray (.int .u32 cl :: .int .u32 nn :: .int .u32 s1 :: .bool false :: q0 :: q1 :: q2 :: q3 :: q4 :: q5 :: q6 :: q7 :: q8 :: q9 :: q10 :: q11 :: q12 :: iw 0 :: iw 0 :: .bool false :: su :: sy :: .int .u32 0 :: .int .u32 0 :: .int .u64 0 :: .int .u32 0 :: .int .u64 0 :: .int .u32 0 :: su :: .int .u64 0 :: .int .u32 0 :: [])) rfl rfl (there_box J1.out.dr.hx (by simp)) (by kernel_rfl) OL.out ?_
 refine kj hK ⟨_, J2.out, rfl⟩ (fun hHeld => ?_)
 clear hK K
 refine wpAnyH_done (by kernel_rfl) ?_ _
 clear J1
 obtain ⟨W4, hW4⟩ := xj (W3.drew.setCells bx 0 (.int .u32 cl :: .int .u32 nn :: .int .u32 s1 :: .bool false :: q0 :: q1 :: q2 :: q3 :: q4 :: q5 :: q6 :: q7 :: q8 :: q9 :: q10 :: q11 :: q12 :: iw 0 :: iw 0 :: .bool false :: su :: sy :: .int .u32 0 :: .int .u32 0 :: .int .u64 0 :: .int .u32 0 :: .int .u64 0 :: .int .u32 0 :: su :: .int .u64 0 :: .int .u32 0 :: []))
 rw [hW4] at J2
 rw [hW4]
 clear hW4
 go_upto_region 3 with fail
 have J3 : Hid _ := J2.out.dr
 have p8 : W4.drew.cell? ⟨f.sb, 8, none⟩ = some va := block_cell J3.out.blk rfl
 obtain ⟨W5, hW5⟩ := xj (W4.drew.alloc (.cells (List.toArray (.int .u32 cl :: .int .u32 nn :: .int .u32 s1 :: .bool false :: q0 :: q1 :: q2 :: q3 :: q4 :: q5 :: q6 :: q7 :: q8 :: q9 :: q10 :: q11 :: q12 :: iw 0 :: iw 0 :: .bool false :: su :: sy :: .int .u32 0 :: .int .u32 0 :: .int .u64 0 :: .int .u32 0 :: .int .u64 0 :: .int .u32 0 :: su :: .int .u64 0 :: .int .u32 0 :: ch :: fv :: [])) 99))
 have J4 : Hid (Pj w f bq bx (.int .u32 cl) c1 c2 c3 c4 (.int .u32 s1) v6 v7 va vo #[q0, q1, q2, q3, q4, q5, q6, q7, q8, q9, q10, q11, q12] (List.toArray (.int .u32 cl :: .int .u32 nn :: .int .u32 s1 :: .bool false :: q0 :: q1 :: q2 :: q3 :: q4 :: q5 :: q6 :: q7 :: q8 :: q9 :: q10 :: q11 :: q12 :: iw 0 :: iw 0 :: .bool false :: su :: sy :: .int .u32 0 :: .int .u32 0 :: .int .u64 0 :: .int .u32 0 :: .int .u64 0 :: .int .u32 0 :: su :: .int .u64 0 :: .int .u32 0 :: ch :: fv :: [])) na ca no co W5) := by rw [← hW5]; exact J3.out.on (al _)
 have R4 : Hid (RwAt W5.heap.size 33 (.slice (some ⟨W4.drew.heap.size, 0, none⟩) 1 1) 1 (.int .u32 cl :: .int .u32 nn :: .int .u32 s1 :: .bool false :: q0 :: q1 :: q2 :: q3 :: q4 :: q5 :: q6 :: q7 :: q8 :: q9 :: q10 :: q11 :: q12 :: iw 0 :: iw 0 :: .bool false :: su :: sy :: .int .u32 0 :: .int .u32 0 :: .int .u64 0 :: .int .u32 0 :: .int .u64 0 :: .int .u32 0 :: su :: .int .u64 0 :: .int .u32 0 :: ch :: fv :: []) W5) := by
  rw [← hW5]
  refine ⟨_, 1, rfl, rfl, Nat.le_refl _, by omega, fun _ => ⟨_, 0, rfl, fun _ => by simp, fun j u hj => ?_⟩⟩
  rw [Nat.zero_add]
  exact block_cell (heap_alloc_new _ _) (by simpa using hj)
 have z8 : W5.cell? ⟨f.sb, 8, none⟩ = some va := block_cell J4.out.blk rfl
 have HO : Hid (Ow 0 99 33 va na ca W5.heap.size (.slice (some ⟨W4.drew.heap.size, 0, none⟩) 1 1) 1 (.int .u32 cl :: .int .u32 nn :: .int .u32 s1 :: .bool false :: q0 :: q1 :: q2 :: q3 :: q4 :: q5 :: q6 :: q7 :: q8 :: q9 :: q10 :: q11 :: q12 :: iw 0 :: iw 0 :: .bool false :: su :: sy :: .int .u32 0 :: .int .u32 0 :: .int .u64 0 :: .int .u32 0 :: .int .u64 0 :: .int .u32 0 :: su :: .int .u64 0 :: .int .u32 0 :: ch :: fv :: []) W5) := ⟨J4.out.ra, R4.out, OA.out, Nat.zero_le _, hna⟩
 obtain ⟨bn, hbn⟩ := xj W4.drew.heap.size
 rw [hbn] at HO
 clear R4 J2
 obtain ⟨i9, z9, jin, j1, j2, j3, j4⟩ := info99
 refine wp_region_held_drew (S := (fun W => W.rangeAt bx 0 (.int .u32 cl :: .int .u32 nn :: .int .u32 s1 :: .bool false :: q0 :: q1 :: q2 :: q3 :: q4 :: q5 :: q6 :: q7 :: q8 :: q9 :: q10 :: q11 :: q12 :: iw 0 :: iw 0 :: .bool false :: su :: sy :: .int .u32 0 :: .int .u32 0 :: .int .u64 0 :: .int .u32 0 :: .int .u64 0 :: .int .u32 0 :: su :: .int .u64 0 :: .int .u32 0 :: ch :: fv :: []))) (by kernel_rfl) (range_box (n := 33) J3.out.hx) (fun hHeld => ?_)
 refine tq 0 ?_
 refine tq 1 ?_
 refine tq 2 ?_
 refine tq 3 ?_
 refine tl 5 99 bx 0 (.int .u32 cl :: .int .u32 nn :: .int .u32 s1 :: .bool false :: q0 :: q1 :: q2 :: q3 :: q4 :: q5 :: q6 :: q7 :: q8 :: q9 :: q10 :: q11 :: q12 :: iw 0 :: iw 0 :: .bool false :: su :: sy :: .int .u32 0 :: .int .u32 0 :: .int .u64 0 :: .int .u32 0 :: .int .u64 0 :: .int .u32 0 :: su :: .int .u64 0 :: .int .u32 0 :: ch :: fv :: []) (fun W hW => hW) Tryz.underlying99 ?_
 refine wpAnyH_ready (rs := [4, 6]) (by kernel_rfl) (by simp) ?_
 refine AllReadyH.cons rfl (fun K hK => ?_) (AllReadyH.cons rfl (fun K hK => ?_) AllReadyH.nil)
 go_simp
 refine kj hK (range_box (n := 33) J3.out.hx) (fun hHeld => ?_)
 clear hK K
 refine rd 6 (fun K hK => ?_)
 go_simp
 refine kj hK (range_box (n := 33) J4.out.hx) (fun hHeld => ?_)
 clear hK K
 rotate_left 1
 go_simp
 refine kj hK (range_box (n := 33) J4.out.hx) (fun hHeld => ?_)
 clear hK K
 refine rd 4 (fun K hK => ?_)
 go_simp
 refine kj hK (range_box (n := 33) J4.out.hx) (fun hHeld => ?_)
 clear hK K
 all_goals
  refine rd 7 (fun K hK => ?_)
  refine Pla.step_append_rw HO.out Tryz.underlying75 jin j1 j2 j3 j4 (by decide) (by decide) (.tmp 32) (.tmp 34) (by rfl) (by rfl) (by rfl) (by rfl) ?_
  intro va' w6 hown hg hat
  obtain ⟨sa, sc, rfl, -, -, -, -⟩ := rw_own hown
  have J6 : Hid _ := J4.out.pa hown hg hat
  have hb6 : Hid (Kept (fun k => va.ownBlock = some k) W5 w6) := grown_kept hg
  have x6 : Hid (w6.rangeAt bx 0 (.int .u32 cl :: .int .u32 nn :: .int .u32 s1 :: .bool false :: q0 :: q1 :: q2 :: q3 :: q4 :: q5 :: q6 :: q7 :: q8 :: q9 :: q10 :: q11 :: q12 :: iw 0 :: iw 0 :: .bool false :: su :: sy :: .int .u32 0 :: .int .u32 0 :: .int .u64 0 :: .int .u32 0 :: .int .u64 0 :: .int .u32 0 :: su :: .int .u64 0 :: .int .u32 0 :: ch :: fv :: [])) := range_box (n := 33) (show w6.heap[bx]? = some (.cells (List.toArray (.int .u32 cl :: .int .u32 nn :: .int .u32 s1 :: .bool false :: q0 :: q1 :: q2 :: q3 :: q4 :: q5 :: q6 :: q7 :: q8 :: q9 :: q10 :: q11 :: q12 :: iw 0 :: iw 0 :: .bool false :: su :: sy :: .int .u32 0 :: .int .u32 0 :: .int .u64 0 :: .int .u32 0 :: .int .u64 0 :: .int .u32 0 :: su :: .int .u64 0 :: .int .u32 0 :: ch :: fv :: [])) 99 (0, 0)) by rw [hb6.out.block _ (lt_blk J4.out.hx) J4.out.xa]; exact J4.out.hx)
  have s6 : w6.cell? ⟨f.sb, 8, none⟩ = some va := block_cell (show w6.heap[f.sb]? = some (.cells #[.int .u32 cl, c1, c2, c3, c4, .int .u32 s1, v6, v7, va, vo] 77 (0, 0)) by rw [hb6.out.block _ (lt_blk J4.out.blk) (own_ne J4.out.ra J4.out.blk (by decide))]; exact J4.out.blk) rfl
  have g6 : w6.frozen? ⟨f.sb, 8, none⟩ = false := block_frozen (show w6.heap[f.sb]? = some (.cells #[.int .u32 cl, c1, c2, c3, c4, .int .u32 s1, v6, v7, va, vo] 77 (0, 0)) by rw [hb6.out.block _ (lt_blk J4.out.blk) (own_ne J4.out.ra J4.out.blk (by decide))]; exact J4.out.blk) 8
  clear hown hg hat hb6
  refine kj hK x6.out (fun hHeld => ?_)
  clear hK K
  refine tq 8 ?_
  refine tq 9 ?_
  refine rd 10 (fun K hK => ?_)
  go_simp
  refine kj hK (range_box (n := 33) J6.out.hx) (fun hHeld => ?_)
  clear hK K
  refine wpAnyH_done (by kernel_rfl) ?_ _
  clear J3 J4 HO p8 z8 s6 g6 x6
  obtain ⟨W7, hW7⟩ := xj (w6.setCell ⟨f.sb, 8, none⟩ (.slice sa (na + 1) sc))
  rw [hW7] at J6
  rw [hW7]
  clear hW7 hHeld hbn hW5
  obtain ⟨VA, hVA⟩ := xj (Value.slice sa (na + 1) sc)
  rw [hVA] at J6
  clear hVA
  go_upto_region 4 with fail
  have J7 : Hid _ := J6.out.dr
  have p9 : W7.drew.cell? ⟨f.sb, 9, none⟩ = some vo := block_cell J7.out.blk rfl
  obtain ⟨W8, hW8⟩ := xj (W7.drew.alloc (.cells (List.toArray (.int .u32 cl :: .int .u32 nn :: .int .u32 s1 :: .bool false :: q0 :: q1 :: q2 :: q3 :: q4 :: q5 :: q6 :: q7 :: q8 :: q9 :: q10 :: q11 :: q12 :: iw 0 :: iw 0 :: .bool false :: su :: sy :: .int .u32 0 :: .int .u32 0 :: .int .u64 0 :: .int .u32 0 :: .int .u64 0 :: .int .u32 0 :: su :: .int .u64 0 :: .int .u32 0 :: [])) 55))
  have J8 : Hid (Pj w f bq bx (.int .u32 cl) c1 c2 c3 c4 (.int .u32 s1) v6 v7 VA vo #[q0, q1, q2, q3, q4, q5, q6, q7, q8, q9, q10, q11, q12] (List.toArray (.int .u32 cl :: .int .u32 nn :: .int .u32 s1 :: .bool false :: q0 :: q1 :: q2 :: q3 :: q4 :: q5 :: q6 :: q7 :: q8 :: q9 :: q10 :: q11 :: q12 :: iw 0 :: iw 0 :: .bool false :: su :: sy :: .int .u32 0 :: .int .u32 0 :: .int .u64 0 :: .int .u32 0 :: .int .u64 0 :: .int .u32 0 :: su :: .int .u64 0 :: .int .u32 0 :: ch :: fv :: [])) (na + 1) (ca ++ (.int .u32 cl :: .int .u32 nn :: .int .u32 s1 :: .bool false :: q0 :: q1 :: q2 :: q3 :: q4 :: q5 :: q6 :: q7 :: q8 :: q9 :: q10 :: q11 :: q12 :: iw 0 :: iw 0 :: .bool false :: su :: sy :: .int .u32 0 :: .int .u32 0 :: .int .u64 0 :: .int .u32 0 :: .int .u64 0 :: .int .u32 0 :: su :: .int .u64 0 :: .int .u32 0 :: ch :: fv :: [])) no co W8) := by rw [← hW8]; exact J7.out.on (al _)
  have R8 : Hid (RwAt W8.heap.size 31 (.slice (some ⟨W7.drew.heap.size, 0, none⟩) 1 1) 1 (.int .u32 cl :: .int .u32 nn :: .int .u32 s1 :: .bool false :: q0 :: q1 :: q2 :: q3 :: q4 :: q5 :: q6 :: q7 :: q8 :: q9 :: q10 :: q11 :: q12 :: iw 0 :: iw 0 :: .bool false :: su :: sy :: .int .u32 0 :: .int .u32 0 :: .int .u64 0 :: .int .u32 0 :: .int .u64 0 :: .int .u32 0 :: su :: .int .u64 0 :: .int .u32 0 :: []) W8) := by
   rw [← hW8]
   refine ⟨_, 1, rfl, rfl, Nat.le_refl _, by omega, fun _ => ⟨_, 0, rfl, fun _ => by simp, fun j u hj => ?_⟩⟩
   rw [Nat.zero_add]
   exact block_cell (heap_alloc_new _ _) (by simpa using hj)
  have z9 : W8.cell? ⟨f.sb, 9, none⟩ = some vo := block_cell J8.out.blk rfl
  have HO : Hid (Ow 0 55 31 vo no co W8.heap.size (.slice (some ⟨W7.drew.heap.size, 0, none⟩) 1 1) 1 (.int .u32 cl :: .int .u32 nn :: .int .u32 s1 :: .bool false :: q0 :: q1 :: q2 :: q3 :: q4 :: q5 :: q6 :: q7 :: q8 :: q9 :: q10 :: q11 :: q12 :: iw 0 :: iw 0 :: .bool false :: su :: sy :: .int .u32 0 :: .int .u32 0 :: .int .u64 0 :: .int .u32 0 :: .int .u64 0 :: .int .u32 0 :: su :: .int .u64 0 :: .int .u32 0 :: []) W8) := ⟨J8.out.ro, R8.out, OL2.out, Nat.zero_le _, hno⟩
  obtain ⟨bn, hbn⟩ := xj W7.drew.heap.size
  rw [hbn] at HO
  clear R8 J6
  obtain ⟨i5, z5, kin, k1, k2, k3, k4⟩ := info55
  refine wp_region_held_drew (S := (fun W => W.rangeAt bx 0 (.int .u32 cl :: .int .u32 nn :: .int .u32 s1 :: .bool false :: q0 :: q1 :: q2 :: q3 :: q4 :: q5 :: q6 :: q7 :: q8 :: q9 :: q10 :: q11 :: q12 :: iw 0 :: iw 0 :: .bool false :: su :: sy :: .int .u32 0 :: .int .u32 0 :: .int .u64 0 :: .int .u32 0 :: .int .u64 0 :: .int .u32 0 :: su :: .int .u64 0 :: .int .u32 0 :: []))) (by kernel_rfl) (range_box (n := 31) J7.out.hx) (fun hHeld => ?_)
  refine tq 0 ?_
  refine tq 1 ?_
  refine tq 2 ?_
  refine tq 3 ?_
  refine tq 5 ?_
  refine tl 6 55 bx 0 (.int .u32 cl :: .int .u32 nn :: .int .u32 s1 :: .bool false :: q0 :: q1 :: q2 :: q3 :: q4 :: q5 :: q6 :: q7 :: q8 :: q9 :: q10 :: q11 :: q12 :: iw 0 :: iw 0 :: .bool false :: su :: sy :: .int .u32 0 :: .int .u32 0 :: .int .u64 0 :: .int .u32 0 :: .int .u64 0 :: .int .u32 0 :: su :: .int .u64 0 :: .int .u32 0 :: []) (fun W hW => hW) Tryz.underlying55 ?_
  refine wpAnyH_ready (rs := [4, 7]) (by kernel_rfl) (by simp) ?_
  refine AllReadyH.cons rfl (fun K hK => ?_) (AllReadyH.cons rfl (fun K hK => ?_) AllReadyH.nil)
  go_simp
  refine kj hK (range_box (n := 31) J7.out.hx) (fun hHeld => ?_)
  clear hK K
  refine rd 7 (fun K hK => ?_)
  go_simp
  refine kj hK (range_box (n := 31) J8.out.hx) (fun hHeld => ?_)
  clear hK K
  rotate_left 1
  go_simp
  refine kj hK (range_box (n := 31) J8.out.hx) (fun hHeld => ?_)
  clear hK K
  refine rd 4 (fun K hK => ?_)
  go_simp
  refine kj hK (range_box (n := 31) J8.out.hx) (fun hHeld => ?_)
  clear hK K
  all_goals
   refine rd 8 (fun K hK => ?_)
   refine Pla.step_append_rw HO.out Tryz.underlying46 kin k1 k2 k3 k4 (by decide) (by decide) (.tmp 42) (.tmp 45) (by rfl) (by rfl) (by rfl) (by rfl) ?_
   intro vo' w9 hown hg hat
   obtain ⟨ua, uc, rfl, -, -, -, -⟩ := rw_own hown
   have J9 : Hid _ := J8.out.po hown hg hat
   have hb9 : Hid (Kept (fun k => vo.ownBlock = some k) W8 w9) := grown_kept hg
   have b9 : Hid (w9.heap[f.sb]? = some (.cells #[.int .u32 cl, c1, c2, c3, c4, .int .u32 s1, v6, v7, VA, vo] 77 (0, 0))) := by show _ = _; rw [hb9.out.block _ (lt_blk J8.out.blk) (own_ne J8.out.ro J8.out.blk (by decide))]; exact J8.out.blk
   have x9 : Hid (w9.rangeAt bx 0 (.int .u32 cl :: .int .u32 nn :: .int .u32 s1 :: .bool false :: q0 :: q1 :: q2 :: q3 :: q4 :: q5 :: q6 :: q7 :: q8 :: q9 :: q10 :: q11 :: q12 :: iw 0 :: iw 0 :: .bool false :: su :: sy :: .int .u32 0 :: .int .u32 0 :: .int .u64 0 :: .int .u32 0 :: .int .u64 0 :: .int .u32 0 :: su :: .int .u64 0 :: .int .u32 0 :: [])) := range_box (n := 31) (show w9.heap[bx]? = some (.cells (List.toArray (.int .u32 cl :: .int .u32 nn :: .int .u32 s1 :: .bool false :: q0 :: q1 :: q2 :: q3 :: q4 :: q5 :: q6 :: q7 :: q8 :: q9 :: q10 :: q11 :: q12 :: iw 0 :: iw 0 :: .bool false :: su :: sy :: .int .u32 0 :: .int .u32 0 :: .int .u64 0 :: .int .u32 0 :: .int .u64 0 :: .int .u32 0 :: su :: .int .u64 0 :: .int .u32 0 :: ch :: fv :: [])) 99 (0, 0)) by rw [hb9.out.block _ (lt_blk J8.out.hx) (own_ne J8.out.ro J8.out.hx (by decide))]; exact J8.out.hx)
   have s9 : w9.cell? ⟨f.sb, 9, none⟩ = some vo := block_cell b9.out rfl
   have g9 : w9.frozen? ⟨f.sb, 9, none⟩ = false := block_frozen b9.out 9
   clear hown hg hat hb9 b9
   refine kj hK x9.out (fun hHeld => ?_)
   clear hK K
   refine tq 9 ?_
   refine tq 10 ?_
   refine rd 11 (fun K hK => ?_)
   go_simp
   refine kj hK (range_box (n := 31) J9.out.hx) (fun hHeld => ?_)
   clear hK K
   refine wpAnyH_done (by kernel_rfl) ?_ _
   clear J7 J8 HO p9 z9 s9 g9 x9 hbn hW8 hHeld
   go_end0
   exact ⟨rfl, _, _, J9.out.kp, J9.out.blk, J9.out.ra, J9.out.ro, J9.out.ba, J9.out.bo⟩
variable {M M' G N : Nat → Prop} {W W' w : World} {f f' : Fo} {X X' : Ss}
theorem u32_of {n : Nat} (h : n < 4294967296) : IntKind.u32.wrap (n : Int) = (n : Int) := by
 have h1 : (0 : Int) ≤ n := by omega
 have h2 : (n : Int) < 4294967296 := by omega
 simp [IntKind.wrap, IntKind.bits, IntKind.signed]
 omega
theorem u32_succ {n : Nat} (h : n + 1 < 4294967296) : IntKind.u32.wrap ((n : Int) + 1) = ((n + 1 : Nat) : Int) := by
 rw [show ((n : Int) + 1) = ((n + 1 : Nat) : Int) from by omega]
 exact u32_of h
theorem rqc_one {q : Rq} {vw vs : Value} (h1 : vw.oneCell' = true) (h2 : vs.oneCell' = true) : ∀ u ∈ rqc q vw vs, u.oneCell' = true := fun u hu => by
 simp only [rqc, List.mem_cons, List.not_mem_nil, or_false] at hu
 rcases hu with rfl | rfl | rfl | rfl | rfl | rfl | rfl | rfl | rfl | rfl | rfl | rfl | rfl
 all_goals first | rfl | exact h1 | exact h2
def Fo.ask (f : Fo) (X : Ss) (a : Ak) (vw vs fv va vo : Value) : Fo := { f with va := va, vo := vo, la := f.la ++ [⟨{ a with sq := X.sq + 1 }, vw, vs, fv⟩], lo := f.lo ++ [⟨letF X { a with sq := X.sq + 1 }, vw, vs⟩] }
def Asked (f : Fo) (N : Nat → Prop) (X : Ss) (w : World) (a : Ak) (vw vs fv : Value) (e : Ending) (w' : World) : Prop := e = .returned (.tuple #[]) ∧ ∃ va vo, To f N X.act w (f.ask X a vw vs fv va vo) (askF X a) w'
structure Room (f : Fo) (X : Ss) : Prop where
 sq : X.sq + 1 < 4294967296
 la : f.la.length + 1 ≤ 1048576
 lo : f.lo.length + 1 ≤ 1048576
theorem post147 (h : SC f N X w) (rm : Room f X) (n : Nat) (a : Ak) (vw vs fv : Value) (qc : Array Value) (hqc : qc = (rqc a.q vw vs).toArray) (hsh : a.sh = n) (hn : n < 4294967296) (hk : AkIs (f.Ex N X.act) f X w ⟨{ a with sq := X.sq + 1 }, vw, vs, fv⟩) :
  Calls Tryz.prog 147 #[pz f.sb, iw (n : Int), .agg qc, .agg (List.toArray (.int .u32 0 :: .int .u32 0 :: .int .u32 0 :: .bool false :: iw 0 :: .int .u32 0 :: .int .u32 0 :: .int .u64 0 :: .int .u32 0 :: .int .u64 0 :: .int .u32 0 :: su :: su :: iw 0 :: .int .u8 0 :: sy :: sy :: iw 0 :: iw 0 :: .bool false :: su :: sy :: .int .u32 0 :: .int .u32 0 :: .int .u64 0 :: .int .u32 0 :: .int .u64 0 :: .int .u32 0 :: su :: .int .u64 0 :: .int .u32 0 :: .bool a.ch :: fv :: []))] w (Asked f N X w a vw vs fv) := by
 subst hqc
 subst hsh
 refine (post147w f w _ _ _ _ _ _ _ _ (.bool a.ch) fv _ _ _ _ _ _ _ _ _ _ _ _ _ (X.cl : Int) (X.sq : Int) ((X.sq + 1 : Nat) : Int) (a.sh : Int) (a.sh : Int) f.la.length f.lo.length _ _ h.blk h.ra h.ro rfl rfl (u32_succ rm.sq) (u32_of hn) (fun u hu => ?_) rm.la rm.lo).mono ?_
 ·have hu' : u ∈ rqc a.q vw vs ∨ u = .bool a.ch ∨ u = fv := by
   simp only [rqc, List.mem_cons, List.not_mem_nil, or_false] at hu ⊢
   rcases hu with e | e | e | e | e | e | e | e | e | e | e | e | e | e | e <;> simp [e]
  rcases hu' with hu | rfl | rfl
  ·exact rqc_one hk.one.2.1 hk.one.2.2 u hu
  ·rfl
  ·exact hk.one.1
 ·rintro e w' ⟨rfl, va', vo', hkp, hb, ra, ro, ba, bo⟩
  refine ⟨rfl, va', vo', ?_⟩
  have hla : (f.la ++ [(⟨{ a with sq := X.sq + 1 }, vw, vs, fv⟩ : Ax)]).length = f.la.length + 1 := by simp
  have hlo : (f.lo ++ [(⟨letF X { a with sq := X.sq + 1 }, vw, vs⟩ : Lx)]).length = f.lo.length + 1 := by simp
  refine SC.posted h hkp hb (by rw [hla, rowC_append, rowC_one]; exact ra) (by rw [hlo, rowC_append, rowC_one]; exact ro) ba bo ?_ (fun x hx => ?_) (fun x hx => ?_)
  ·simp only [askF, List.map_append, List.map_cons, List.map_nil, ← h.ea, ← h.eo]
  ·rcases List.mem_append.1 hx with hx | hx
   ·exact .inl hx
   ·rw [List.mem_singleton] at hx
    subst hx
    exact .inr hk
  ·rcases List.mem_append.1 hx with hx | hx
   ·exact .inl hx
   ·rw [List.mem_singleton] at hx
    subst hx
    exact .inr ⟨hk.q, rfl, rfl, hk.one.2⟩
theorem To.pre {W1 : World} {act : Bool} (hb : Below w.heap.size w W1) (h : To f N act W1 f' X' W) : To f N act w f' X' W :=
 ⟨h.sc, (Kept.of_below (F := f.In act) hb).trans h.kp (fun _ e => .inl e), fun i hi => (h.sub i hi).elim .inl (fun e => .inr (Nat.le_trans hb.size e))⟩
theorem AkIs.on {x : Ax} (h : AkIs M f X W x) (hb : Below W.heap.size W W') : AkIs M f X W' x :=
 h.stay (G := fun _ => False) (M' := M) ⟨Kept.of_below hb, fun _ e => e.elim, fun _ _ e => e⟩ (SameF.refl f) rfl (fun _ _ => rfl)
theorem QF.on {q : Rq} {vw vs : Value} (h : QF M q vw vs W) (hb : Below W.heap.size W W') : QF M q vw vs W' :=
 h.stay (G := fun _ => False) ⟨Kept.of_below hb, fun _ e => e.elim, fun _ _ e => e⟩
theorem DoAt.on {k : Int} {dv : Value} (h : DoAt M f W k dv) (hb : Below W.heap.size W W') : DoAt M f W' k dv :=
 h.stay (G := fun _ => False) ⟨Kept.of_below hb, fun _ e => e.elim, fun _ _ e => e⟩ (SameF.refl f)
theorem ask116 (h : SC f N X w) (rm : Room f X) (n : Nat) (a : Ak) (vw vs : Value) (fn : Fn) (fi cp qc : Array Value) (hqc : qc = (rqc a.q vw vs).toArray) (hsh : a.sh = n) (hch : a.ch = false) (hn : n < 4294967296) (hk : AkIs (f.Ex N X.act) f X w ⟨{ a with sq := X.sq + 1 }, vw, vs, .func fn fi cp⟩) :
  Calls Tryz.prog 116 #[pz f.sb, iw (n : Int), .agg qc, .func fn fi cp] w (Asked f N X w a vw vs (.func fn fi cp)) := by
 have hb : Hid (Below w.heap.size w (w.alloc (.cells qc 53))) := al _
 have hx : Hid ((w.alloc (.cells qc 53)).heap[w.heap.size]? = some (.cells qc 53 (0, 0))) := heap_alloc_new w _
 have hs : (Tryz.prog.info? 53).map (·.size) = some qc.size := by rw [hqc]; kernel_rfl
 have C : Hid (1 = 1 → Calls Tryz.prog 147 #[pz f.sb, iw (n : Int), .agg qc, .agg (List.toArray (.int .u32 0 :: .int .u32 0 :: .int .u32 0 :: .bool false :: iw 0 :: .int .u32 0 :: .int .u32 0 :: .int .u64 0 :: .int .u32 0 :: .int .u64 0 :: .int .u32 0 :: su :: su :: iw 0 :: .int .u8 0 :: sy :: sy :: iw 0 :: iw 0 :: .bool false :: su :: sy :: .int .u32 0 :: .int .u32 0 :: .int .u64 0 :: .int .u32 0 :: .int .u64 0 :: .int .u32 0 :: su :: .int .u64 0 :: .int .u32 0 :: .bool false :: .func fn fi cp :: []))] (w.alloc (.cells qc 53)) (Asked f N X (w.alloc (.cells qc 53)) a vw vs (.func fn fi cp))) := fun _ => by
  have := post147 (h.on hb.out) rm n a vw vs (.func fn fi cp) qc hqc hsh hn (hk.on hb.out)
  rw [hch] at this
  exact this
 obtain ⟨W1, hW1⟩ := xj (w.alloc (.cells qc 53))
 rw [hW1] at C hb hx
 obtain ⟨b, hbq⟩ := xj w.heap.size
 rw [hbq] at hx
 clear h rm hk hqc hsh hch
 go_enter Tryz.func116, Tryz.ntmps116
 go_wp2_with (refine wpList_load_row rfl 53 _ rfl b rfl 53 _ (0, 0) _ hx.out Tryz.underlying53 rfl hs ?_)
 refine (C.out (by trivial)).mono ?_
 rintro e w2 ⟨rfl, va, vo, ht⟩
 have HT : Hid _ := To.pre hb.out ht
 clear ht C hb hx hW1
 go_wp2_with fail
 go_end0
 exact ⟨rfl, va, vo, HT.out⟩
theorem chore132 (h : SC f N X w) (rm : Room f X) (n : Nat) (a : Ak) (vw vs : Value) (fn : Fn) (fi cp qc : Array Value) (hqc : qc = (rqc a.q vw vs).toArray) (hsh : a.sh = n) (hch : a.ch = true) (hn : n < 4294967296) (hk : AkIs (f.Ex N X.act) f X w ⟨{ a with sq := X.sq + 1 }, vw, vs, .func fn fi cp⟩) :
  Calls Tryz.prog 132 #[pz f.sb, iw (n : Int), .agg qc, .func fn fi cp] w (Asked f N X w a vw vs (.func fn fi cp)) := by
 have hb : Hid (Below w.heap.size w (w.alloc (.cells qc 53))) := al _
 have hx : Hid ((w.alloc (.cells qc 53)).heap[w.heap.size]? = some (.cells qc 53 (0, 0))) := heap_alloc_new w _
 have hs : (Tryz.prog.info? 53).map (·.size) = some qc.size := by rw [hqc]; kernel_rfl
 have C : Hid (1 = 1 → Calls Tryz.prog 147 #[pz f.sb, iw (n : Int), .agg qc, .agg (List.toArray (.int .u32 0 :: .int .u32 0 :: .int .u32 0 :: .bool false :: iw 0 :: .int .u32 0 :: .int .u32 0 :: .int .u64 0 :: .int .u32 0 :: .int .u64 0 :: .int .u32 0 :: su :: su :: iw 0 :: .int .u8 0 :: sy :: sy :: iw 0 :: iw 0 :: .bool false :: su :: sy :: .int .u32 0 :: .int .u32 0 :: .int .u64 0 :: .int .u32 0 :: .int .u64 0 :: .int .u32 0 :: su :: .int .u64 0 :: .int .u32 0 :: .bool true :: .func fn fi cp :: []))] (w.alloc (.cells qc 53)) (Asked f N X (w.alloc (.cells qc 53)) a vw vs (.func fn fi cp))) := fun _ => by
  have := post147 (h.on hb.out) rm n a vw vs (.func fn fi cp) qc hqc hsh hn (hk.on hb.out)
  rw [hch] at this
  exact this
 obtain ⟨W1, hW1⟩ := xj (w.alloc (.cells qc 53))
 rw [hW1] at C hb hx
 obtain ⟨b, hbq⟩ := xj w.heap.size
 rw [hbq] at hx
 clear h rm hk hqc hsh hch
 go_enter Tryz.func132, Tryz.ntmps132
 go_wp2_with (refine wpList_load_row rfl 53 _ rfl b rfl 53 _ (0, 0) _ hx.out Tryz.underlying53 rfl hs ?_)
 refine (C.out (by trivial)).mono ?_
 rintro e w2 ⟨rfl, va, vo, ht⟩
 have HT : Hid _ := To.pre hb.out ht
 clear ht C hb hx hW1
 go_wp2_with fail
 go_end0
 exact ⟨rfl, va, vo, HT.out⟩
theorem SC.fresh (h : SC f N X w) (hN : ∀ k, N k → k < w.heap.size) {b : Nat} (hb : w.heap.size ≤ b) : ¬ f.Ex N X.act b := fun e => by
 rcases e with e | e
 ·exact absurd (hN b e) (by omega)
 ·exact absurd (h.lt e) (by omega)
theorem four_new (w : World) (c1 c2 c3 c4 : Array Value) (t1 t2 t3 t4 : TypeId) : ∃ W, (((w.alloc (.cells c1 t1)).alloc (.cells c2 t2)).alloc (.cells c3 t3)).alloc (.cells c4 t4) = W ∧ Below w.heap.size w W ∧ W.heap[w.heap.size]? = some (.cells c1 t1 (0, 0)) ∧ W.heap[w.heap.size + 1]? = some (.cells c2 t2 (0, 0)) ∧ W.heap[w.heap.size + 2]? = some (.cells c3 t3 (0, 0)) ∧ W.heap[w.heap.size + 3]? = some (.cells c4 t4 (0, 0)) := by
 have b1 := al (W := w) (.cells c1 t1)
 have n1 := heap_alloc_new w (.cells c1 t1)
 have s1 := size_al w (.cells c1 t1)
 generalize w.alloc (.cells c1 t1) = W1 at *
 have b2 := al (W := W1) (.cells c2 t2)
 have n2 := heap_alloc_new W1 (.cells c2 t2)
 have s2 := size_al W1 (.cells c2 t2)
 generalize W1.alloc (.cells c2 t2) = W2 at *
 have b3 := al (W := W2) (.cells c3 t3)
 have n3 := heap_alloc_new W2 (.cells c3 t3)
 have s3 := size_al W2 (.cells c3 t3)
 generalize W2.alloc (.cells c3 t3) = W3 at *
 have b4 := al (W := W3) (.cells c4 t4)
 have n4 := heap_alloc_new W3 (.cells c4 t4)
 generalize W3.alloc (.cells c4 t4) = W4 at *
 refine ⟨_, rfl, ((b1.trans (b2.mono (by omega))).trans (b3.mono (by omega))).trans (b4.mono (by omega)), ?_, ?_, ?_, ?_⟩
 ·rw [b4.block _ (by omega), b3.block _ (by omega), b2.block _ (by omega)]
  exact n1
 ·rw [b4.block _ (by omega), b3.block _ (by omega), ← s1]
  exact n2
 ·rw [b4.block _ (by omega), show w.heap.size + 2 = W2.heap.size from by omega]
  exact n3
 ·rw [show w.heap.size + 3 = W3.heap.size from by omega]
  exact n4
theorem try80 (h : SC f N X w) (hN : ∀ k, N k → k < w.heap.size) (rm : Room f X) (n : Nat) (q : Rq) (vw vs : Value) (o1 : vw.oneCell' = true) (o2 : vs.oneCell' = true) (fn : Fn) (fi cp qc : Array Value) (hqc : qc = (rqc q vw vs).toArray) (hn : n < 4294967296) (hq : QF (f.Ex N X.act) q vw vs w) (hk : q.k ≤ 3) (hd : DoAt (f.Ex N X.act) f w q.k (.func fn fi cp)) :
  Calls Tryz.prog 80 #[pz f.sb, iw (n : Int), .agg qc, .func fn fi cp] w fun e w' => ∃ fv, Asked f N X w (akF n q) vw vs fv e w' := by
 obtain ⟨W4, hW4, hb, x1, x2, x3, x4⟩ := four_new w #[pz f.sb] #[iw (n : Int)] qc #[.func fn fi cp] 24 3 53 97
 have hs : (Tryz.prog.info? 53).map (·.size) = some qc.size := by rw [hqc]; kernel_rfl
 have ha : AkIs (f.Ex N X.act) f X W4 ⟨{ akF n q with sq := X.sq + 1 }, vw, vs, .func (.func 117) #[] #[pz w.heap.size, .pointer (some ⟨w.heap.size + 1, 0, none⟩), .pointer (some ⟨w.heap.size + 2, 0, none⟩), .pointer (some ⟨w.heap.size + 3, 0, none⟩)]⟩ := by
  refine ⟨hq.on hb, ⟨rfl, o1, o2⟩, fun _ _ _ => ⟨_, _, _, _, rfl, ⟨x1, h.fresh hN (by omega)⟩, ⟨x2, h.fresh hN (by omega)⟩, ⟨vw, vs, ⟨by have x := x3; rw [hqc] at x; exact x, h.fresh hN (by omega)⟩, hq.on hb⟩, _, ⟨x4, h.fresh hN (by omega)⟩, hd.on hb⟩, (fun _ e => by cases e), (fun _ e => by cases e), (fun _ _ e => ?_), (fun _ _ e => ?_), (fun e => by cases e), (fun e => by cases e)⟩
  ·simp only [akF] at e
   omega
  ·simp only [akF] at e
   omega
 have C : Hid (1 = 1 → Calls Tryz.prog 116 #[pz f.sb, iw (n : Int), .agg qc, .func (.func 117) #[] #[pz w.heap.size, .pointer (some ⟨w.heap.size + 1, 0, none⟩), .pointer (some ⟨w.heap.size + 2, 0, none⟩), .pointer (some ⟨w.heap.size + 3, 0, none⟩)]] W4 (Asked f N X W4 (akF n q) vw vs _)) := fun _ => ask116 (h.on hb) rm n (akF n q) vw vs (.func 117) #[] _ qc hqc rfl rfl hn ha
 have HB : Hid (Below w.heap.size w W4) := hb
 have p1 : W4.cell? ⟨w.heap.size, 0, none⟩ = some (pz f.sb) := block_cell x1 rfl
 have p2 : W4.cell? ⟨w.heap.size + 1, 0, none⟩ = some (iw (n : Int)) := block_cell x2 rfl
 have HX : Hid (W4.heap[w.heap.size + 2]? = some (.cells qc 53 (0, 0))) := x3
 clear h rm hq hd ha x1 x2 x3 x4 hb hqc hN
 go_enter Tryz.func80, Tryz.ntmps80
 go_wp2_with (refine wpList_load_row rfl 53 _ rfl (w.heap.size + 2) rfl 53 _ (0, 0) _ HX.out Tryz.underlying53 rfl hs ?_)
 refine (C.out (by trivial)).mono ?_
 rintro e w2 ⟨rfl, va, vo, ht⟩
 have HT : Hid _ := To.pre HB.out ht
 clear ht C HB HX hW4 p1 p2
 go_wp2_with fail
 go_end0
 exact ⟨_, rfl, va, vo, HT.out⟩
end Go.Proofs.YtkdkgdollmmcnaaGreat
