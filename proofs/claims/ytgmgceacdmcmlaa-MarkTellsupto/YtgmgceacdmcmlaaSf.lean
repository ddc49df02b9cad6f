/-
  The document's Safe.
-/
import Derived.Test.YtgmgceacdmcmlaaLr
namespace Go.Proofs.Ytgmgceacdmcmlaa
open Go.RowKit Go.Sort

theorem info25 : (Try.prog.info? 25).map (fun i => (i.zero, i.size, i.bytes)) = some (some (.agg #[.int .u64 0, .int .u32 0]), 2, 16) := by kernel_rfl
theorem own_nil (base e size : Nat) (w : World) : w.ownsRow base e size (.slice none 0 0) 0 [] := World.ownsRow_nil w base e size
/-- Safe's boxes: what was safe, the answer. -/
structure Sz (w : World) (bo bx : Nat) (o : Ts) (v : Value) (L : List Ts) (W : World) : Prop where
  bel : Below w.heap.size w W
  o : W.heap[bo]? = some (.cells #[.int .u64 o.1, .int .u32 o.2] 25 (0, 0))
  x : W.heap[bx]? = some (.cells #[.int .u64 0, .int .u32 0] 25 (0, 0))
  lo : w.heap.size ≤ bo
  lx : w.heap.size ≤ bx
  ne : bo ≠ bx
  own : W.ownsRow (w.heap.size + 2) 25 2 v L.length (rowC tsc L)
  bo2 : bo < w.heap.size + 2
  bx2 : bx < w.heap.size + 2
  big : w.heap.size + 2 ≤ W.heap.size
theorem Sz.on {w W W' : World} {bo bx : Nat} {o : Ts} {v : Value} {L : List Ts} (h : Sz w bo bx o v L W) (hb : Below W.heap.size W W') : Sz w bo bx o v L W' :=
  ⟨h.bel.trans (hb.mono h.bel.size), by rw [hb.block _ (Array.getElem?_eq_some_iff.1 h.o).1]; exact h.o, by rw [hb.block _ (Array.getElem?_eq_some_iff.1 h.x).1]; exact h.x, h.lo, h.lx, h.ne, own_on h.own hb, h.bo2, h.bx2, Nat.le_trans h.big hb.size⟩
theorem Sz.grow {w W W' : World} {bo bx : Nat} {o : Ts} {v v' : Value} {L R : List Ts} (h : Sz w bo bx o v L W) (hown : W'.ownsRow (w.heap.size + 2) 25 2 v' (L.length + R.length) (rowC tsc L ++ rowC tsc R)) (hg : W.grownBy W' v.ownBlock) : Sz w bo bx o v' (L ++ R) W' := by
  have hk := grown_kept hg
  have ob : ∀ k, v.ownBlock = some k → w.heap.size + 2 ≤ k := fun k hk => (World.ownsRow.lt h.own k hk).1
  have h1 := h.bo2
  have h2 := h.bx2
  refine ⟨h.bel.trans (hk.below h.bel.size (fun k hf => by have := ob k hf; omega)), ?_, ?_, h.lo, h.lx, h.ne, by rw [rowC_append, List.length_append]; exact hown, h.bo2, h.bx2, Nat.le_trans h.big hk.size⟩
  · rw [hk.block bo (Array.getElem?_eq_some_iff.1 h.o).1 (fun hf => by have := ob _ hf; omega)]; exact h.o
  · rw [hk.block bx (Array.getElem?_eq_some_iff.1 h.x).1 (fun hf => by have := ob _ hf; omega)]; exact h.x
theorem Sz.put {w W : World} {bo bx : Nat} {o : Ts} {v : Value} {L : List Ts} (h : Sz w bo bx o v L W) (u : Ts) : Sz w bo bx u v L ((W.setCell ⟨bo, 0, none⟩ (.int .u64 u.1)).setCell ⟨bo, 1, none⟩ (.int .u32 u.2)) := by
  have kk := (set_kept' W bo 0 (.int .u64 u.1)).trans (set_kept' (W.setCell ⟨bo, 0, none⟩ (.int .u64 u.1)) bo 1 (.int .u32 u.2)) (fun _ h => .inl h)
  have h1 := h.bo2
  refine ⟨h.bel.trans (kk.below h.bel.size (fun k hf => by subst hf; exact h.lo)), ?_, ?_, h.lo, h.lx, h.ne, own_kept h.own kk (fun k hk hf => by have := (World.ownsRow.lt h.own k hk).1; omega), h.bo2, h.bx2, Nat.le_trans h.big kk.size⟩
  · have := block_set (j := 1) (.int .u32 u.2) (block_set (j := 0) (.int .u64 u.1) h.o)
    simpa using this
  · rw [kk.block bx (Array.getElem?_eq_some_iff.1 h.x).1 (Ne.symm h.ne)]; exact h.x
theorem sz_new (w : World) (o : Ts) : Sz w w.heap.size (w.heap.size + 1) o (.slice none 0 0) [] ((w.alloc (.cells #[.int .u64 o.1, .int .u32 o.2] 25)).alloc (.cells #[.int .u64 0, .int .u32 0] 25)) := by
  have k1 : (w.alloc (.cells #[.int .u64 o.1, .int .u32 o.2] 25)).heap[w.heap.size]? = some (.cells #[.int .u64 o.1, .int .u32 o.2] 25 (0, 0)) := heap_alloc_new w _
  have k2 := heap_alloc_new (w.alloc (.cells #[.int .u64 o.1, .int .u32 o.2] 25)) (.cells #[.int .u64 0, .int .u32 0] 25)
  have hs : (w.alloc (.cells #[.int .u64 o.1, .int .u32 o.2] 25)).heap.size = w.heap.size + 1 := by simp
  rw [hs] at k2
  exact ⟨(al _).alloc (by simp) _, by rw [(al (W := w.alloc (.cells #[.int .u64 o.1, .int .u32 o.2] 25)) _).block _ (Array.getElem?_eq_some_iff.1 k1).1]; exact k1, k2, Nat.le_refl _, by omega, by omega, own_nil _ _ _ _, by omega, by omega, by simp⟩
theorem ts_pair (t : Ts) : (t.1, t.2) = t := rfl
set_option maxHeartbeats 3200000 in
set_option maxRecDepth 100000 in
theorem safe9 (o : Ts) (a c : List Ts) (aa ac : Option Addr) (ca cc : Nat) (w : World) (hl : a.length + c.length ≤ 1048576) (ha : TsAt w.heap.size (.slice aa a.length ca) a w) (hc : TsAt w.heap.size (.slice ac c.length cc) c w) : Calls Try.prog 9 #[.agg #[.int .u64 o.1, .int .u32 o.2], .slice aa a.length ca, .slice ac c.length cc] w fun r w' => r = .returned (.agg #[.int .u64 (safeF o a c).1, .int .u32 (safeF o a c).2]) ∧ Below w.heap.size w w' := by
  obtain ⟨i0, hin, hi0, hi1, hi2⟩ := info_parts info25
  have H0 : Hid _ := sz_new w o
  have HA : Hid (∀ W, Below w.heap.size w W → TsAt w.heap.size (.slice aa a.length ca) a W ∧ TsAt w.heap.size (.slice ac c.length cc) c W) := fun W h => ⟨ha.on h, hc.on h⟩
  go_enter Try.func9, Try.ntmps9
  go_upto_region 1 with fail
  obtain ⟨W0, hW0⟩ : ∃ W0, (w.alloc (.cells #[.int .u64 o.1, .int .u32 o.2] 25)).alloc (.cells #[.int .u64 0, .int .u32 0] 25) = W0 := ⟨_, rfl⟩
  obtain ⟨bo, hbo⟩ : ∃ b, w.heap.size = b := ⟨_, rfl⟩
  obtain ⟨bx, hbx⟩ : ∃ b, w.heap.size + 1 = b := ⟨_, rfl⟩
  rw [hW0, hbx] at H0
  rw [hW0, hbx, hbo]
  have HZ : Hid (Sz w bo bx o (.slice none 0 0) [] W0) := by rw [← hbo]; exact H0.out
  clear H0 hW0 hbx hbo ha hc
  have HOw : Hid (Ow (w.heap.size + 2) 25 2 (.slice none 0 0) 0 [] w.heap.size (.slice aa a.length ca) a.length (rowC tsc a) W0) := ⟨own_nil _ _ _ _, (HA.out W0 HZ.out.bel).1, rowC_cells tsc tsc_one _, HZ.out.big, by omega⟩
  go_wp2_with (at_builtin; refine wpList_append_rw HOw.out Try.underlying26 hin hi0 hi1 hi2 rfl (by decide) (by decide) (.tmp 10) (.tmp 11) rfl rfl rfl rfl ?_)
  intro v1 w1 hown hg hat
  have H1 : Hid (Sz w bo bx o v1 a w1) := HZ.out.grow (R := a) (by rw [List.length_nil, Nat.zero_add, rowC_nil, List.nil_append]; exact hown) hg
  clear hown hg hat HOw HZ
  have HOw : Hid (Ow (w.heap.size + 2) 25 2 v1 a.length (rowC tsc a) w.heap.size (.slice ac c.length cc) c.length (rowC tsc c) w1) := ⟨H1.out.own, (HA.out w1 H1.out.bel).2, rowC_cells tsc tsc_one _, H1.out.big, by omega⟩
  go_wp2_with (at_builtin; refine wpList_append_rw HOw.out Try.underlying26 hin hi0 hi1 hi2 rfl (by decide) (by decide) (.tmp 13) (.tmp 14) rfl rfl rfl rfl ?_)
  intro v2 w2 hown hg hat
  have H2 : Hid (Sz w bo bx o v2 (a ++ c) w2) := H1.out.grow hown hg
  clear hown hg hat HOw H1 HA
  have CR : Hid (1 = 1 → Calls Try.prog 12 #[.agg #[.int .u64 o.1, .int .u32 o.2]] w2 fun e w' => e = .returned (.bool (rt o)) ∧ Below w2.heap.size w2 w') := fun _ => right20 o.1 o.2 w2
  have p0 : w2.cell? ⟨bo, 0, none⟩ = some (.int .u64 o.1) := block_cell H2.out.o rfl
  have p1 : w2.cell? ⟨bo, 1, none⟩ = some (.int .u32 o.2) := block_cell H2.out.o rfl
  go_wp2_with fail
  refine (CR.out (by trivial)).mono ?_
  rintro r w3 ⟨rfl, hb3⟩
  have H3 : Hid (Sz w bo bx o v2 (a ++ c) w3) := H2.out.on hb3
  clear hb3 CR p0 p1 H2
  obtain ⟨S, hS⟩ : ∃ S, a ++ c = S := ⟨_, rfl⟩
  have HSS : Hid (a ++ c = S) := hS
  rw [hS] at H3
  clear hS
  obtain ⟨sa, sc, hv2, -⟩ := (show TsAt _ _ S w3 from rw_own H3.out.own).shape
  subst hv2
  obtain ⟨q, hq⟩ : ∃ q, rt o = q := ⟨_, rfl⟩
  have HQ : Hid (rt o = q) := hq
  rw [hq]
  clear hq
  cases q
  · have HOL : Hid (oldF o = ((0 : Int), (0 : Int))) := by show _ = _; unfold oldF; rw [HQ.out]; rfl
    have q0 : w3.cell? ⟨bo, 0, none⟩ = some (.int .u64 o.1) := block_cell H3.out.o rfl
    have q1 : w3.cell? ⟨bo, 1, none⟩ = some (.int .u32 o.2) := block_cell H3.out.o rfl
    have f0 : w3.frozen? ⟨bo, 0, none⟩ = false := block_frozen H3.out.o 0
    have f1 : w3.frozen? ⟨bo, 1, none⟩ = false := block_frozen H3.out.o 1
    have HP : Hid _ := H3.out.put (0, 0)
    go_upto_region 6 with fail
    obtain ⟨w5, hw5⟩ : ∃ w5, (w3.setCell ⟨bo, 0, none⟩ (.int .u64 0)).setCell ⟨bo, 1, none⟩ (.int .u32 0) = w5 := ⟨_, rfl⟩
    have H5 : Hid (Sz w bo bx ((0 : Int), (0 : Int)) (.slice sa S.length sc) S w5) := by rw [← hw5]; exact HP.out
    rw [hw5]
    clear hw5 HP q0 q1 f0 f1 H3
    have CL : Hid (1 = 1 → Calls Try.prog 7 #[.slice sa S.length sc] w5 fun r w' => r = .returned (.tuple #[.agg #[.int .u64 (oT (leastF S)).1, .int .u32 (oT (leastF S)).2], .bool (leastF S).isSome]) ∧ Below w5.heap.size w5 w') := fun _ => least7 S sa sc w5 (rw_own H5.out.own)
    obtain ⟨m, hm⟩ : ∃ m, leastF S = m := ⟨_, rfl⟩
    have HM : Hid (leastF S = m) := hm
    rw [hm] at CL
    clear hm
    go_wp2_with fail
    refine (CL.out (by trivial)).mono ?_
    rintro r w6 ⟨rfl, hb6⟩
    have HN : Hid (Sz w bo bx ((0 : Int), (0 : Int)) (.slice sa S.length sc) S (w6.alloc (.cells #[.int .u64 (oT m).1, .int .u32 (oT m).2] 25)) ∧ (w6.alloc (.cells #[.int .u64 (oT m).1, .int .u32 (oT m).2] 25)).heap[w6.heap.size]? = some (.cells #[.int .u64 (oT m).1, .int .u32 (oT m).2] 25 (0, 0))) := ⟨(H5.out.on hb6).on (al _), heap_alloc_new w6 _⟩
    clear hb6 CL H5
    go_upto_region 7 with fail
    obtain ⟨w7, hw7⟩ : ∃ w7, w6.alloc (.cells #[.int .u64 (oT m).1, .int .u32 (oT m).2] 25) = w7 := ⟨_, rfl⟩
    obtain ⟨bt, hbt⟩ : ∃ b, w6.heap.size = b := ⟨_, rfl⟩
    rw [hw7, hbt] at HN
    rw [hw7, hbt]
    clear hw7 hbt
    have H7 : Hid (Sz w bo bx ((0 : Int), (0 : Int)) (.slice sa S.length sc) S w7) := HN.out.1
    have k0 : w7.cell? ⟨bo, 0, none⟩ = some (.int .u64 ((0 : Int), (0 : Int)).1) := block_cell H7.out.o rfl
    have k1 : w7.cell? ⟨bo, 1, none⟩ = some (.int .u32 ((0 : Int), (0 : Int)).2) := block_cell H7.out.o rfl
    cases m with
    | none =>
      have HE : Hid (safeF o a c = ((0 : Int), (0 : Int))) := by show _ = _; unfold safeF; rw [HSS.out, HM.out]; exact HOL.out
      have y0 : w7.cell? ⟨bx, 0, none⟩ = some (.int .u64 0) := block_cell H7.out.x rfl
      have y1 : w7.cell? ⟨bx, 1, none⟩ = some (.int .u32 0) := block_cell H7.out.x rfl
      have z0 : w7.frozen? ⟨bx, 0, none⟩ = false := block_frozen H7.out.x 0
      have z1 : w7.frozen? ⟨bx, 1, none⟩ = false := block_frozen H7.out.x 1
      have HI : Hid ((((w7.setCell ⟨bx, 0, none⟩ (.int .u64 ((0 : Int), (0 : Int)).1)).setCell ⟨bx, 1, none⟩ (.int .u32 ((0 : Int), (0 : Int)).2)).heap[bx]? = some (.cells #[.int .u64 ((0 : Int), (0 : Int)).1, .int .u32 ((0 : Int), (0 : Int)).2] 25 (0, 0)))) := by
        have := block_set (j := 1) (.int .u32 ((0 : Int), (0 : Int)).2) (block_set (j := 0) (.int .u64 ((0 : Int), (0 : Int)).1) H7.out.x)
        show _ = _
        simpa using this
      have HB : Hid (Below w.heap.size w ((w7.setCell ⟨bx, 0, none⟩ (.int .u64 ((0 : Int), (0 : Int)).1)).setCell ⟨bx, 1, none⟩ (.int .u32 ((0 : Int), (0 : Int)).2))) := (H7.out.bel.setCell (p := ⟨bx, 0, none⟩) H7.out.lx _).setCell (p := ⟨bx, 1, none⟩) H7.out.lx _
      go_wp2_with fail
      have r0 : ((w7.setCell ⟨bx, 0, none⟩ (.int .u64 ((0 : Int), (0 : Int)).1)).setCell ⟨bx, 1, none⟩ (.int .u32 ((0 : Int), (0 : Int)).2)).cell? ⟨bx, 0, none⟩ = some (.int .u64 ((0 : Int), (0 : Int)).1) := block_cell HI.out rfl
      have r1 : ((w7.setCell ⟨bx, 0, none⟩ (.int .u64 ((0 : Int), (0 : Int)).1)).setCell ⟨bx, 1, none⟩ (.int .u32 ((0 : Int), (0 : Int)).2)).cell? ⟨bx, 1, none⟩ = some (.int .u32 ((0 : Int), (0 : Int)).2) := block_cell HI.out rfl
      refine bodyPost_ret (v := .agg #[.int .u64 ((0 : Int), (0 : Int)).1, .int .u32 ((0 : Int), (0 : Int)).2]) (by simp [results, Try.results9, go_sem, r0, r1]) rfl ?_
      exact ⟨by rw [HE.out], HB.out⟩
    | some t =>
      have b0 : w7.cell? ⟨bt, 0, none⟩ = some (.int .u64 t.1) := block_cell HN.out.2 rfl
      have b1 : w7.cell? ⟨bt, 1, none⟩ = some (.int .u32 t.2) := block_cell HN.out.2 rfl
      have HE : Hid (safeF o a c = maxF ((0 : Int), (0 : Int)).1 ((0 : Int), (0 : Int)).2 t.1 t.2) := by show _ = _; unfold safeF; rw [HSS.out, HM.out]; show maxF (oldF o).1 (oldF o).2 t.1 t.2 = _; rw [HOL.out]
      have CM : Hid (1 = 1 → Calls Try.prog 15 #[.agg #[.int .u64 ((0 : Int), (0 : Int)).1, .int .u32 ((0 : Int), (0 : Int)).2], .agg #[.int .u64 t.1, .int .u32 t.2]] w7 fun e w' => e = .returned (.agg #[.int .u64 (maxF ((0 : Int), (0 : Int)).1 ((0 : Int), (0 : Int)).2 t.1 t.2).1, .int .u32 (maxF ((0 : Int), (0 : Int)).1 ((0 : Int), (0 : Int)).2 t.1 t.2).2]) ∧ Below w7.heap.size w7 w') := fun _ => max24 ((0 : Int), (0 : Int)).1 ((0 : Int), (0 : Int)).2 t.1 t.2 w7
      generalize maxF ((0 : Int), (0 : Int)).1 ((0 : Int), (0 : Int)).2 t.1 t.2 = z at *
      go_wp2_with fail
      refine (CM.out (by trivial)).mono ?_
      rintro r w8 ⟨rfl, hb8⟩
      have H8 : Hid (Sz w bo bx ((0 : Int), (0 : Int)) (.slice sa S.length sc) S w8) := H7.out.on hb8
      clear hb8 CM k0 k1 b0 b1 H7 HN
      have y0 : w8.cell? ⟨bx, 0, none⟩ = some (.int .u64 0) := block_cell H8.out.x rfl
      have y1 : w8.cell? ⟨bx, 1, none⟩ = some (.int .u32 0) := block_cell H8.out.x rfl
      have z0 : w8.frozen? ⟨bx, 0, none⟩ = false := block_frozen H8.out.x 0
      have z1 : w8.frozen? ⟨bx, 1, none⟩ = false := block_frozen H8.out.x 1
      have HI : Hid ((((w8.setCell ⟨bx, 0, none⟩ (.int .u64 z.1)).setCell ⟨bx, 1, none⟩ (.int .u32 z.2)).heap[bx]? = some (.cells #[.int .u64 z.1, .int .u32 z.2] 25 (0, 0)))) := by
        have := block_set (j := 1) (.int .u32 z.2) (block_set (j := 0) (.int .u64 z.1) H8.out.x)
        show _ = _
        simpa using this
      have HB : Hid (Below w.heap.size w ((w8.setCell ⟨bx, 0, none⟩ (.int .u64 z.1)).setCell ⟨bx, 1, none⟩ (.int .u32 z.2))) := (H8.out.bel.setCell (p := ⟨bx, 0, none⟩) H8.out.lx _).setCell (p := ⟨bx, 1, none⟩) H8.out.lx _
      go_wp2_with fail
      have r0 : ((w8.setCell ⟨bx, 0, none⟩ (.int .u64 z.1)).setCell ⟨bx, 1, none⟩ (.int .u32 z.2)).cell? ⟨bx, 0, none⟩ = some (.int .u64 z.1) := block_cell HI.out rfl
      have r1 : ((w8.setCell ⟨bx, 0, none⟩ (.int .u64 z.1)).setCell ⟨bx, 1, none⟩ (.int .u32 z.2)).cell? ⟨bx, 1, none⟩ = some (.int .u32 z.2) := block_cell HI.out rfl
      refine bodyPost_ret (v := .agg #[.int .u64 z.1, .int .u32 z.2]) (by simp [results, Try.results9, go_sem, r0, r1]) rfl ?_
      exact ⟨by rw [HE.out], HB.out⟩
  · have HOL : Hid (oldF o = o) := by show _ = _; unfold oldF; rw [HQ.out]; rfl
    have CL : Hid (1 = 1 → Calls Try.prog 7 #[.slice sa S.length sc] w3 fun r w' => r = .returned (.tuple #[.agg #[.int .u64 (oT (leastF S)).1, .int .u32 (oT (leastF S)).2], .bool (leastF S).isSome]) ∧ Below w3.heap.size w3 w') := fun _ => least7 S sa sc w3 (rw_own H3.out.own)
    obtain ⟨m, hm⟩ : ∃ m, leastF S = m := ⟨_, rfl⟩
    have HM : Hid (leastF S = m) := hm
    rw [hm] at CL
    clear hm
    go_wp2_with fail
    refine (CL.out (by trivial)).mono ?_
    rintro r w6 ⟨rfl, hb6⟩
    have HN : Hid (Sz w bo bx o (.slice sa S.length sc) S (w6.alloc (.cells #[.int .u64 (oT m).1, .int .u32 (oT m).2] 25)) ∧ (w6.alloc (.cells #[.int .u64 (oT m).1, .int .u32 (oT m).2] 25)).heap[w6.heap.size]? = some (.cells #[.int .u64 (oT m).1, .int .u32 (oT m).2] 25 (0, 0))) := ⟨(H3.out.on hb6).on (al _), heap_alloc_new w6 _⟩
    clear hb6 CL H3
    go_upto_region 7 with fail
    obtain ⟨w7, hw7⟩ : ∃ w7, w6.alloc (.cells #[.int .u64 (oT m).1, .int .u32 (oT m).2] 25) = w7 := ⟨_, rfl⟩
    obtain ⟨bt, hbt⟩ : ∃ b, w6.heap.size = b := ⟨_, rfl⟩
    rw [hw7, hbt] at HN
    rw [hw7, hbt]
    clear hw7 hbt
    have H7 : Hid (Sz w bo bx o (.slice sa S.length sc) S w7) := HN.out.1
    have k0 : w7.cell? ⟨bo, 0, none⟩ = some (.int .u64 o.1) := block_cell H7.out.o rfl
    have k1 : w7.cell? ⟨bo, 1, none⟩ = some (.int .u32 o.2) := block_cell H7.out.o rfl
    cases m with
    | none =>
      have HE : Hid (safeF o a c = o) := by show _ = _; unfold safeF; rw [HSS.out, HM.out]; exact HOL.out
      have y0 : w7.cell? ⟨bx, 0, none⟩ = some (.int .u64 0) := block_cell H7.out.x rfl
      have y1 : w7.cell? ⟨bx, 1, none⟩ = some (.int .u32 0) := block_cell H7.out.x rfl
      have z0 : w7.frozen? ⟨bx, 0, none⟩ = false := block_frozen H7.out.x 0
      have z1 : w7.frozen? ⟨bx, 1, none⟩ = false := block_frozen H7.out.x 1
      have HI : Hid ((((w7.setCell ⟨bx, 0, none⟩ (.int .u64 o.1)).setCell ⟨bx, 1, none⟩ (.int .u32 o.2)).heap[bx]? = some (.cells #[.int .u64 o.1, .int .u32 o.2] 25 (0, 0)))) := by
        have := block_set (j := 1) (.int .u32 o.2) (block_set (j := 0) (.int .u64 o.1) H7.out.x)
        show _ = _
        simpa using this
      have HB : Hid (Below w.heap.size w ((w7.setCell ⟨bx, 0, none⟩ (.int .u64 o.1)).setCell ⟨bx, 1, none⟩ (.int .u32 o.2))) := (H7.out.bel.setCell (p := ⟨bx, 0, none⟩) H7.out.lx _).setCell (p := ⟨bx, 1, none⟩) H7.out.lx _
      go_wp2_with fail
      have r0 : ((w7.setCell ⟨bx, 0, none⟩ (.int .u64 o.1)).setCell ⟨bx, 1, none⟩ (.int .u32 o.2)).cell? ⟨bx, 0, none⟩ = some (.int .u64 o.1) := block_cell HI.out rfl
      have r1 : ((w7.setCell ⟨bx, 0, none⟩ (.int .u64 o.1)).setCell ⟨bx, 1, none⟩ (.int .u32 o.2)).cell? ⟨bx, 1, none⟩ = some (.int .u32 o.2) := block_cell HI.out rfl
      refine bodyPost_ret (v := .agg #[.int .u64 o.1, .int .u32 o.2]) (by simp [results, Try.results9, go_sem, r0, r1]) rfl ?_
      exact ⟨by rw [HE.out], HB.out⟩
    | some t =>
      have b0 : w7.cell? ⟨bt, 0, none⟩ = some (.int .u64 t.1) := block_cell HN.out.2 rfl
      have b1 : w7.cell? ⟨bt, 1, none⟩ = some (.int .u32 t.2) := block_cell HN.out.2 rfl
      have HE : Hid (safeF o a c = maxF o.1 o.2 t.1 t.2) := by show _ = _; unfold safeF; rw [HSS.out, HM.out]; show maxF (oldF o).1 (oldF o).2 t.1 t.2 = _; rw [HOL.out]
      have CM : Hid (1 = 1 → Calls Try.prog 15 #[.agg #[.int .u64 o.1, .int .u32 o.2], .agg #[.int .u64 t.1, .int .u32 t.2]] w7 fun e w' => e = .returned (.agg #[.int .u64 (maxF o.1 o.2 t.1 t.2).1, .int .u32 (maxF o.1 o.2 t.1 t.2).2]) ∧ Below w7.heap.size w7 w') := fun _ => max24 o.1 o.2 t.1 t.2 w7
      generalize maxF o.1 o.2 t.1 t.2 = z at *
      go_wp2_with fail
      refine (CM.out (by trivial)).mono ?_
      rintro r w8 ⟨rfl, hb8⟩
      have H8 : Hid (Sz w bo bx o (.slice sa S.length sc) S w8) := H7.out.on hb8
      clear hb8 CM k0 k1 b0 b1 H7 HN
      have y0 : w8.cell? ⟨bx, 0, none⟩ = some (.int .u64 0) := block_cell H8.out.x rfl
      have y1 : w8.cell? ⟨bx, 1, none⟩ = some (.int .u32 0) := block_cell H8.out.x rfl
      have z0 : w8.frozen? ⟨bx, 0, none⟩ = false := block_frozen H8.out.x 0
      have z1 : w8.frozen? ⟨bx, 1, none⟩ = false := block_frozen H8.out.x 1
      have HI : Hid ((((w8.setCell ⟨bx, 0, none⟩ (.int .u64 z.1)).setCell ⟨bx, 1, none⟩ (.int .u32 z.2)).heap[bx]? = some (.cells #[.int .u64 z.1, .int .u32 z.2] 25 (0, 0)))) := by
        have := block_set (j := 1) (.int .u32 z.2) (block_set (j := 0) (.int .u64 z.1) H8.out.x)
        show _ = _
        simpa using this
      have HB : Hid (Below w.heap.size w ((w8.setCell ⟨bx, 0, none⟩ (.int .u64 z.1)).setCell ⟨bx, 1, none⟩ (.int .u32 z.2))) := (H8.out.bel.setCell (p := ⟨bx, 0, none⟩) H8.out.lx _).setCell (p := ⟨bx, 1, none⟩) H8.out.lx _
      go_wp2_with fail
      have r0 : ((w8.setCell ⟨bx, 0, none⟩ (.int .u64 z.1)).setCell ⟨bx, 1, none⟩ (.int .u32 z.2)).cell? ⟨bx, 0, none⟩ = some (.int .u64 z.1) := block_cell HI.out rfl
      have r1 : ((w8.setCell ⟨bx, 0, none⟩ (.int .u64 z.1)).setCell ⟨bx, 1, none⟩ (.int .u32 z.2)).cell? ⟨bx, 1, none⟩ = some (.int .u32 z.2) := block_cell HI.out rfl
      refine bodyPost_ret (v := .agg #[.int .u64 z.1, .int .u32 z.2]) (by simp [results, Try.results9, go_sem, r0, r1]) rfl ?_
      exact ⟨by rw [HE.out], HB.out⟩
end Go.Proofs.Ytgmgceacdmcmlaa
