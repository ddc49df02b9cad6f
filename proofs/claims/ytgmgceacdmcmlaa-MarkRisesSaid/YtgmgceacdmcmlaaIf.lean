/-
  What the laws ask of the program's mark; awake; MarkTells, walked.
-/
import Derived.Test.YtgmgceacdmcmlaaSf
namespace Go.Proofs.Ytgmgceacdmcmlaa
open Go.RowKit Go.Sort

def nn (t : Ts) : Prop := 0 ≤ t.1 ∧ 0 ≤ t.2
/-- What the laws ask of the program's Least and Safe, over lists of together so many stamps. -/
structure Ifm (N : Nat) : Prop where
  big : 1048576 ≤ N
  le : ∀ (l : List Ts) (ao : Option Addr) (cp : Nat) (w : World), l.length ≤ N → (∀ t ∈ l, nn t) → TsAt w.heap.size (.slice ao l.length cp) l w → Calls Try.prog 6 #[.slice ao l.length cp] w fun r w' => r = .returned (.tuple #[.agg #[.int .u64 (oT (leastF l)).1, .int .u32 (oT (leastF l)).2], .bool (leastF l).isSome]) ∧ Below w.heap.size w w'
  sa : ∀ (o : Ts) (a c : List Ts) (aa ac : Option Addr) (ca cc : Nat) (w : World), a.length + c.length ≤ N → nn o → (∀ t ∈ a, nn t) → (∀ t ∈ c, nn t) → TsAt w.heap.size (.slice aa a.length ca) a w → TsAt w.heap.size (.slice ac c.length cc) c w → Calls Try.prog 8 #[.agg #[.int .u64 o.1, .int .u32 o.2], .slice aa a.length ca, .slice ac c.length cc] w fun r w' => r = .returned (.agg #[.int .u64 (safeF o a c).1, .int .u32 (safeF o a c).2]) ∧ Below w.heap.size w w'
theorem fresh_row {W : World} {g : Nat} {cs : Array Value} {L : List Ts} (h : W.heap[g]? = some (.cells cs 25 (0, 0))) (hc : cs.toList = rowC tsc L) (hl : L.length ≤ 1000) : TsAt W.heap.size (.slice (some ⟨g, 0, none⟩) L.length L.length) L W := by
  refine ⟨some ⟨g, 0, none⟩, L.length, rfl, rowC_length tsc_len L, Nat.le_refl _, by omega, fun _ => ⟨g, 0, rfl, fun _ => (Array.getElem?_eq_some_iff.1 h).1, fun j u hj => ?_⟩⟩
  rw [Nat.zero_add]
  refine block_cell h ?_
  rw [← hc] at hj
  simpa using hj
theorem wake : safeF (3, 0) [(9, 0), (5, 1)] [(7, 0)] = (5, 1) := by decide
theorem run_eql25 (p l q m : Int) (w : World) : (binOp .eql 25 (.agg #[.int .u64 p, .int .u32 l]) (.agg #[.int .u64 q, .int .u32 m])).run Try.prog w = .ok (.bool (p == q && l == m)) w := by
  by_cases h : p = q <;> by_cases h2 : l = m <;> simp [go_sem, h, h2]
theorem run_neq25 (p l q m : Int) (w : World) : (binOp .neq 25 (.agg #[.int .u64 p, .int .u32 l]) (.agg #[.int .u64 q, .int .u32 m])).run Try.prog w = .ok (.bool (!(p == q && l == m))) w := by
  by_cases h : p = q <;> by_cases h2 : l = m <;> simp [go_sem, h, h2]
set_option maxHeartbeats 800000 in
set_option maxRecDepth 100000 in
theorem awake5 {N : Nat} (I : Ifm N) (w : World) : Calls Try.prog 5 #[] w fun e w' => e = .returned (.bool true) ∧ Below w.heap.size w w' := by
  have k1 : (w.alloc (.cells #[.int .u64 9, .int .u32 0, .int .u64 5, .int .u32 1] 25)).heap[w.heap.size]? = some (.cells #[.int .u64 9, .int .u32 0, .int .u64 5, .int .u32 1] 25 (0, 0)) := heap_alloc_new w _
  have k2 := heap_alloc_new (w.alloc (.cells #[.int .u64 9, .int .u32 0, .int .u64 5, .int .u32 1] 25)) (.cells #[.int .u64 7, .int .u32 0] 25)
  have hs : (w.alloc (.cells #[.int .u64 9, .int .u32 0, .int .u64 5, .int .u32 1] 25)).heap.size = w.heap.size + 1 := by simp
  rw [hs] at k2
  have HB : Hid (Below w.heap.size w ((w.alloc (.cells #[.int .u64 9, .int .u32 0, .int .u64 5, .int .u32 1] 25)).alloc (.cells #[.int .u64 7, .int .u32 0] 25))) := (al _).alloc (by simp) _
  have k3 : ((w.alloc (.cells #[.int .u64 9, .int .u32 0, .int .u64 5, .int .u32 1] 25)).alloc (.cells #[.int .u64 7, .int .u32 0] 25)).heap[w.heap.size]? = some (.cells #[.int .u64 9, .int .u32 0, .int .u64 5, .int .u32 1] 25 (0, 0)) := by rw [(al (W := w.alloc (.cells #[.int .u64 9, .int .u32 0, .int .u64 5, .int .u32 1] 25)) _).block _ (Array.getElem?_eq_some_iff.1 k1).1]; exact k1
  have C : Hid (1 = 1 → Calls Try.prog 8 #[.agg #[.int .u64 3, .int .u32 0], .slice (some ⟨w.heap.size, 0, none⟩) 2 2, .slice (some ⟨w.heap.size + 1, 0, none⟩) 1 1] ((w.alloc (.cells #[.int .u64 9, .int .u32 0, .int .u64 5, .int .u32 1] 25)).alloc (.cells #[.int .u64 7, .int .u32 0] 25)) fun r w' => r = .returned (.agg #[.int .u64 5, .int .u32 1]) ∧ Below ((w.alloc (.cells #[.int .u64 9, .int .u32 0, .int .u64 5, .int .u32 1] 25)).alloc (.cells #[.int .u64 7, .int .u32 0] 25)).heap.size ((w.alloc (.cells #[.int .u64 9, .int .u32 0, .int .u64 5, .int .u32 1] 25)).alloc (.cells #[.int .u64 7, .int .u32 0] 25)) w') := fun _ => by
    have := I.sa (3, 0) [(9, 0), (5, 1)] [(7, 0)] _ _ _ _ _ (by have := I.big; simp; omega) (by unfold nn; decide) (by unfold nn; simp) (by unfold nn; simp) (fresh_row (L := [(9, 0), (5, 1)]) k3 rfl (by simp)) (fresh_row (L := [(7, 0)]) k2 rfl (by simp))
    rw [wake] at this
    exact this
  have e1 := run_eql25 5 1 5 1
  simp only [beq_self_eq_true, Bool.and_self] at e1
  clear k1 k2 k3 hs
  go_enter Try.func5, Try.ntmps5
  go_wp2_with fail
  refine (C.out (by trivial)).mono ?_
  rintro r w1 ⟨rfl, hb1⟩
  have H1 : Hid (Below w.heap.size w w1) := HB.out.trans (hb1.mono HB.out.size)
  clear hb1 C HB
  go_wp2_with fail
  go_ret
  exact ⟨rfl, H1.out⟩
/-- What was safe, in its box; both lists. -/
structure Tz (w : World) (bo : Nat) (o : Ts) (va vc : Value) (a c : List Ts) (W : World) : Prop where
  bel : Below w.heap.size w W
  o : W.heap[bo]? = some (.cells #[.int .u64 o.1, .int .u32 o.2] 25 (0, 0))
  a : TsAt w.heap.size va a W
  c : TsAt w.heap.size vc c W
theorem Tz.on {w W W' : World} {bo : Nat} {o : Ts} {va vc : Value} {a c : List Ts} (h : Tz w bo o va vc a c W) (hb : Below W.heap.size W W') : Tz w bo o va vc a c W' :=
  ⟨h.bel.trans (hb.mono h.bel.size), by rw [hb.block _ (Array.getElem?_eq_some_iff.1 h.o).1]; exact h.o, h.a.on (hb.mono h.bel.size), h.c.on (hb.mono h.bel.size)⟩
set_option maxHeartbeats 3200000 in
set_option maxRecDepth 100000 in
theorem tells3 {N : Nat} (I : Ifm N) (o : Ts) (a c : List Ts) (aa ac : Option Addr) (ca cc : Nat) (w : World) (hl : a.length + c.length ≤ 1048576) (no : nn o) (na : ∀ t ∈ a, nn t) (nc : ∀ t ∈ c, nn t) (ha : TsAt w.heap.size (.slice aa a.length ca) a w) (hc : TsAt w.heap.size (.slice ac c.length cc) c w) : Calls Try.prog 3 #[.agg #[.int .u64 o.1, .int .u32 o.2], .slice aa a.length ca, .slice ac c.length cc] w fun r w' => r = .returned (.bool true) ∧ Below w.heap.size w w' := by
  have H0 : Hid (Tz w w.heap.size o (.slice aa a.length ca) (.slice ac c.length cc) a c (w.alloc (.cells #[.int .u64 o.1, .int .u32 o.2] 25))) := ⟨al _, heap_alloc_new w _, ha.on (al _), hc.on (al _)⟩
  obtain ⟨W1, hW1⟩ : ∃ W1, w.alloc (.cells #[.int .u64 o.1, .int .u32 o.2] 25) = W1 := ⟨_, rfl⟩
  obtain ⟨bo, hbo⟩ : ∃ b, w.heap.size = b := ⟨_, rfl⟩
  have H1 : Hid (Tz w bo o (.slice aa a.length ca) (.slice ac c.length cc) a c W1) := by rw [← hbo, ← hW1]; exact H0.out
  have CA : Hid (1 = 1 → Calls Try.prog 5 #[] W1 fun e w' => e = .returned (.bool true) ∧ Below W1.heap.size W1 w') := fun _ => awake5 I W1
  have CL : Hid (∀ W, Tz w bo o (.slice aa a.length ca) (.slice ac c.length cc) a c W → Calls Try.prog 6 #[.slice aa a.length ca] W fun r w' => r = .returned (.tuple #[.agg #[.int .u64 (oT (leastF a)).1, .int .u32 (oT (leastF a)).2], .bool (leastF a).isSome]) ∧ Below W.heap.size W w') := fun W h => I.le a aa ca W (by have := I.big; omega) na (RwAt.le h.a h.bel.size)
  have CM : Hid (∀ W, Tz w bo o (.slice aa a.length ca) (.slice ac c.length cc) a c W → Calls Try.prog 7 #[.slice aa a.length ca] W fun r w' => r = .returned (.tuple #[.agg #[.int .u64 (oT (leastF a)).1, .int .u32 (oT (leastF a)).2], .bool (leastF a).isSome]) ∧ Below W.heap.size W w') := fun W h => least7 a aa ca W (RwAt.le h.a h.bel.size)
  have CS : Hid (∀ W, Tz w bo o (.slice aa a.length ca) (.slice ac c.length cc) a c W → Calls Try.prog 8 #[.agg #[.int .u64 o.1, .int .u32 o.2], .slice aa a.length ca, .slice ac c.length cc] W fun r w' => r = .returned (.agg #[.int .u64 (safeF o a c).1, .int .u32 (safeF o a c).2]) ∧ Below W.heap.size W w') := fun W h => I.sa o a c aa ac ca cc W (by have := I.big; omega) no na nc (RwAt.le h.a h.bel.size) (RwAt.le h.c h.bel.size)
  have CT : Hid (∀ W, Tz w bo o (.slice aa a.length ca) (.slice ac c.length cc) a c W → Calls Try.prog 9 #[.agg #[.int .u64 o.1, .int .u32 o.2], .slice aa a.length ca, .slice ac c.length cc] W fun r w' => r = .returned (.agg #[.int .u64 (safeF o a c).1, .int .u32 (safeF o a c).2]) ∧ Below W.heap.size W w') := fun W h => safe9 o a c aa ac ca cc W hl (RwAt.le h.a h.bel.size) (RwAt.le h.c h.bel.size)
  generalize oT (leastF a) = t at *
  generalize (leastF a).isSome = f at *
  generalize safeF o a c = z at *
  obtain ⟨op, ol⟩ := o
  obtain ⟨tp, tl⟩ := t
  obtain ⟨zp, zl⟩ := z
  dsimp only at *
  clear H0 ha hc na nc no
  go_enter Try.func3, Try.ntmps3
  go_wp2_with fail
  refine (CA.out (by trivial)).mono ?_
  rintro r w1 ⟨rfl, hb1⟩
  have H2 : Hid (Tz w bo (op, ol) (.slice aa a.length ca) (.slice ac c.length cc) a c w1) := H1.out.on hb1
  clear hb1 CA H1 hW1 hbo
  go_wp2_with fail
  refine (CL.out _ H2.out).mono ?_
  rintro r w2 ⟨rfl, hb2⟩
  have H3 : Hid (Tz w bo (op, ol) (.slice aa a.length ca) (.slice ac c.length cc) a c (w2.alloc (.cells #[.int .u64 tp, .int .u32 tl] 25)) ∧ (w2.alloc (.cells #[.int .u64 tp, .int .u32 tl] 25)).heap[w2.heap.size]? = some (.cells #[.int .u64 tp, .int .u32 tl] 25 (0, 0))) := ⟨(H2.out.on hb2).on (al _), heap_alloc_new w2 _⟩
  clear hb2 CL H2
  go_upto_region 4 with fail
  obtain ⟨w3, hw3⟩ : ∃ w3, w2.alloc (.cells #[.int .u64 tp, .int .u32 tl] 25) = w3 := ⟨_, rfl⟩
  obtain ⟨b1, hb1⟩ : ∃ b, w2.heap.size = b := ⟨_, rfl⟩
  rw [hw3, hb1] at H3
  rw [hw3, hb1]
  clear hw3 hb1
  go_wp2_with fail
  refine (CM.out _ H3.out.1).mono ?_
  rintro r w4 ⟨rfl, hb4⟩
  have H5 : Hid (Tz w bo (op, ol) (.slice aa a.length ca) (.slice ac c.length cc) a c (w4.alloc (.cells #[.int .u64 tp, .int .u32 tl] 25)) ∧ (w4.alloc (.cells #[.int .u64 tp, .int .u32 tl] 25)).heap[b1]? = some (.cells #[.int .u64 tp, .int .u32 tl] 25 (0, 0)) ∧ (w4.alloc (.cells #[.int .u64 tp, .int .u32 tl] 25)).heap[w4.heap.size]? = some (.cells #[.int .u64 tp, .int .u32 tl] 25 (0, 0))) := ⟨(H3.out.1.on hb4).on (al _), by
      have h9 : w4.heap[b1]? = some (.cells #[.int .u64 tp, .int .u32 tl] 25 (0, 0)) := by rw [hb4.block _ (Array.getElem?_eq_some_iff.1 H3.out.2).1]; exact H3.out.2
      rw [(al (W := w4) _).block _ (Array.getElem?_eq_some_iff.1 h9).1]; exact h9, heap_alloc_new w4 _⟩
  clear hb4 CM H3
  go_upto_region 5 with fail
  obtain ⟨w5, hw5⟩ : ∃ w5, w4.alloc (.cells #[.int .u64 tp, .int .u32 tl] 25) = w5 := ⟨_, rfl⟩
  obtain ⟨b2, hb2⟩ : ∃ b, w4.heap.size = b := ⟨_, rfl⟩
  rw [hw5, hb2] at H5
  rw [hw5, hb2]
  clear hw5 hb2
  have cS : Hid (∀ d os, Calls Try.prog 8 #[.agg #[.int .u64 op, .int .u32 ol], .slice aa a.length ca, .slice ac c.length cc] (grow (redrawn w5 d) os) fun q w'' => q = .returned (.agg #[.int .u64 zp, .int .u32 zl]) ∧ ∃ p : Regrown, w'' = grow (redrawn w5 p.d) p.os) := fun d os => Calls.regrown_of (CS.out _ (H5.out.1.on (below_regrown w5 d os)))
  have cT : Hid (∀ d os, Calls Try.prog 9 #[.agg #[.int .u64 op, .int .u32 ol], .slice aa a.length ca, .slice ac c.length cc] (grow (redrawn w5 d) os) fun q w'' => q = .returned (.agg #[.int .u64 zp, .int .u32 zl]) ∧ ∃ p : Regrown, w'' = grow (redrawn w5 p.d) p.os) := fun d os => Calls.regrown_of (CT.out _ (H5.out.1.on (below_regrown w5 d os)))
  have g0 := cell_regrown (show w5.cell? ⟨bo, 0, none⟩ = some (.int .u64 op) from block_cell H5.out.1.o rfl)
  have g1 := cell_regrown (show w5.cell? ⟨bo, 1, none⟩ = some (.int .u32 ol) from block_cell H5.out.1.o rfl)
  have g2 := cell_regrown (show w5.cell? ⟨b1, 0, none⟩ = some (.int .u64 tp) from block_cell H5.out.2.1 rfl)
  have g3 := cell_regrown (show w5.cell? ⟨b1, 1, none⟩ = some (.int .u32 tl) from block_cell H5.out.2.1 rfl)
  have g4 := cell_regrown (show w5.cell? ⟨b2, 0, none⟩ = some (.int .u64 tp) from block_cell H5.out.2.2 rfl)
  have g5 := cell_regrown (show w5.cell? ⟨b2, 1, none⟩ = some (.int .u32 tl) from block_cell H5.out.2.2 rfl)
  have e1 := run_eql25 tp tl tp tl
  have e2 := run_eql25 zp zl zp zl
  simp only [beq_self_eq_true, Bool.and_self] at e1 e2
  clear CS CT
  refine wp_region_quiet_below (by kernel_rfl) (by kernel_rfl) (Veil.out ?_)
  repeat (refine vq_step (fun K hK => ?_); go_simp; refine hK _ ?_; clear hK K)
  (refine vq_step (fun K hK => ?_); go_simp; apply Exists.intro; refine ⟨fun _ => ?_, hK _ ?_⟩; exact cS.out _ _; clear hK K)
  repeat (refine vq_step (fun K hK => ?_); go_simp; refine hK _ ?_; clear hK K)
  (refine vq_step (fun K hK => ?_); go_simp; apply Exists.intro; refine ⟨fun _ => ?_, hK _ ?_⟩; exact cT.out _ _; clear hK K)
  repeat (refine vq_step (fun K hK => ?_); go_simp; refine hK _ ?_; clear hK K)
  refine vq_nil ?_
  intro _ hw'
  obtain ⟨⟨dq, osq⟩, hw''⟩ := hw'
  subst hw''
  have H6 : Hid (Below w.heap.size w (Sort.grow (redrawn w5 dq) osq)) := H5.out.1.bel.trans ((below_regrown w5 dq osq).mono H5.out.1.bel.size)
  go_wp2_with fail
  go_ret
  exact ⟨rfl, H6.out⟩
end Go.Proofs.Ytgmgceacdmcmlaa
