/-
  The landed mark's Safe, and so what the laws ask of the program's mark.
-/
import Derived.Test.YtgmgceacdmcmlaaLp
import Derived.Test.YtgmgceacdmcmlaaMx
import Derived.Test.YtgmgceacdmcmlaaIf
namespace Go.Proofs.Ytgmgceacdmcmlaa
open Go.RowKit Go.Sort

/-- The leasts of so many lists. -/
def toldF (L : List (List Ts)) : List Ts := L.flatMap fun l => (leastF l).toList
theorem told_snoc (L : List (List Ts)) (l : List Ts) : toldF (L ++ [l]) = toldF L ++ (leastF l).toList := by simp [toldF]
theorem told_least (a c : List Ts) : leastF (toldF [a, c]) = leastF (a ++ c) := by
  have ha := isL_least a
  have hc := isL_least c
  have ht := isL_least (toldF [a, c])
  have hm : ∀ x, x ∈ toldF [a, c] ↔ leastF a = some x ∨ leastF c = some x := fun x => by simp [toldF]
  refine isL_uniq (l := a ++ c) (r := a ++ c) (fun _ => Iff.rfl) ⟨fun t e => ?_, fun e x hx => ?_⟩ (isL_least (a ++ c))
  · obtain ⟨h1, h2, h3⟩ := ht.some t e
    refine ⟨?_, h2, fun x hx hr => ?_⟩
    · rcases (hm t).1 h1 with h | h
      · exact List.mem_append.2 (.inl (ha.some t h).1)
      · exact List.mem_append.2 (.inr (hc.some t h).1)
    · rcases List.mem_append.1 hx with h | h
      · cases hs : leastF a with
        | none => rw [ha.none hs x h] at hr; cases hr
        | some s => exact nlt_trans (h3 s ((hm s).2 (.inl hs)) (ha.some s hs).2.1) ((ha.some s hs).2.2 x h hr)
      · cases hs : leastF c with
        | none => rw [hc.none hs x h] at hr; cases hr
        | some s => exact nlt_trans (h3 s ((hm s).2 (.inr hs)) (hc.some s hs).2.1) ((hc.some s hs).2.2 x h hr)
  · have hn := ht.none e
    rcases List.mem_append.1 hx with h | h
    · cases hs : leastF a with
      | none => exact ha.none hs x h
      | some s => have := hn s ((hm s).2 (.inl hs)); rw [(ha.some s hs).2.1] at this; cases this
    · cases hs : leastF c with
      | none => exact hc.none hs x h
      | some s => have := hn s ((hm s).2 (.inr hs)); rw [(hc.some s hs).2.1] at this; cases this
theorem nn_old {o : Ts} (h : nn o) : nn (oldF o) := by
  unfold oldF
  cases rt o
  · exact ⟨Int.le_refl 0, Int.le_refl 0⟩
  · exact h
theorem max_zero {o : Ts} (h : nn o) : maxF 0 0 o.1 o.2 = o := by
  obtain ⟨p, l⟩ := o
  obtain ⟨h1, h2⟩ := h
  dsimp only at h1 h2 ⊢
  unfold maxF
  cases hl : lessB 0 0 p l
  · simp only [lessB, decide_eq_false_iff_not] at hl
    refine Prod.ext ?_ ?_ <;> simp <;> omega
  · rfl
theorem max_old {o : Ts} (h : nn o) : maxF o.1 o.2 0 0 = o := by
  obtain ⟨p, l⟩ := o
  obtain ⟨h1, h2⟩ := h
  dsimp only at h1 h2 ⊢
  unfold maxF
  cases hl : lessB p l 0 0
  · rfl
  · simp only [lessB, decide_eq_true_eq] at hl
    omega
theorem safe_max {o : Ts} (h : nn o) (a c : List Ts) : maxL [oldF o, oT (leastF (toldF [a, c]))] = safeF o a c := by
  have h1 := nn_old h
  rw [told_least]
  show maxF (maxF 0 0 (oldF o).1 (oldF o).2).1 (maxF 0 0 (oldF o).1 (oldF o).2).2 (oT (leastF (a ++ c))).1 (oT (leastF (a ++ c))).2 = _
  rw [max_zero h1]
  unfold safeF
  cases leastF (a ++ c) with
  | none => exact max_old h1
  | some t => rfl
/-- Safe's boxes: what was safe, the answer, both lists; the leasts so far. -/
structure Sq (w : World) (bo bx br : Nat) (o : Ts) (va vc : Value) (v : Value) (L : List Ts) (W : World) : Prop where
  bel : Below w.heap.size w W
  o : W.heap[bo]? = some (.cells #[.int .u64 o.1, .int .u32 o.2] 25 (0, 0))
  x : W.heap[bx]? = some (.cells #[.int .u64 0, .int .u32 0] 25 (0, 0))
  r : W.heap[br]? = some (.cells #[va, vc] 26 (0, 0))
  lo : w.heap.size ≤ bo
  lx : w.heap.size ≤ bx
  n1 : bo ≠ bx
  n2 : bo ≠ br
  own : W.ownsRow (w.heap.size + 3) 25 2 v L.length (rowC tsc L)
  bo2 : bo < w.heap.size + 3
  bx2 : bx < w.heap.size + 3
  br2 : br < w.heap.size + 3
  big : w.heap.size + 3 ≤ W.heap.size
theorem Sq.on {w W W' : World} {bo bx br : Nat} {o : Ts} {va vc v : Value} {L : List Ts} (h : Sq w bo bx br o va vc v L W) (hb : Below W.heap.size W W') : Sq w bo bx br o va vc v L W' :=
  ⟨h.bel.trans (hb.mono h.bel.size), by rw [hb.block _ (Array.getElem?_eq_some_iff.1 h.o).1]; exact h.o, by rw [hb.block _ (Array.getElem?_eq_some_iff.1 h.x).1]; exact h.x, by rw [hb.block _ (Array.getElem?_eq_some_iff.1 h.r).1]; exact h.r, h.lo, h.lx, h.n1, h.n2, own_on h.own hb, h.bo2, h.bx2, h.br2, Nat.le_trans h.big hb.size⟩
theorem Sq.grow {w W W' : World} {bo bx br : Nat} {o : Ts} {va vc v v' : Value} {L R : List Ts} (h : Sq w bo bx br o va vc v L W) (hown : W'.ownsRow (w.heap.size + 3) 25 2 v' (L.length + R.length) (rowC tsc L ++ rowC tsc R)) (hg : W.grownBy W' v.ownBlock) : Sq w bo bx br o va vc v' (L ++ R) W' := by
  have hk := grown_kept hg
  have ob : ∀ k, v.ownBlock = some k → w.heap.size + 3 ≤ k := fun k hk => (World.ownsRow.lt h.own k hk).1
  have h1 := h.bo2
  have h2 := h.bx2
  have h3 := h.br2
  refine ⟨h.bel.trans (hk.below h.bel.size (fun k hf => by have := ob k hf; omega)), ?_, ?_, ?_, h.lo, h.lx, h.n1, h.n2, by rw [rowC_append, List.length_append]; exact hown, h.bo2, h.bx2, h.br2, Nat.le_trans h.big hk.size⟩
  · rw [hk.block bo (Array.getElem?_eq_some_iff.1 h.o).1 (fun hf => by have := ob _ hf; omega)]; exact h.o
  · rw [hk.block bx (Array.getElem?_eq_some_iff.1 h.x).1 (fun hf => by have := ob _ hf; omega)]; exact h.x
  · rw [hk.block br (Array.getElem?_eq_some_iff.1 h.r).1 (fun hf => by have := ob _ hf; omega)]; exact h.r
theorem Sq.put {w W : World} {bo bx br : Nat} {o : Ts} {va vc v : Value} {L : List Ts} (h : Sq w bo bx br o va vc v L W) (u : Ts) : Sq w bo bx br u va vc v L ((W.setCell ⟨bo, 0, none⟩ (.int .u64 u.1)).setCell ⟨bo, 1, none⟩ (.int .u32 u.2)) := by
  have kk := (set_kept' W bo 0 (.int .u64 u.1)).trans (set_kept' (W.setCell ⟨bo, 0, none⟩ (.int .u64 u.1)) bo 1 (.int .u32 u.2)) (fun _ h => .inl h)
  have h1 := h.bo2
  refine ⟨h.bel.trans (kk.below h.bel.size (fun k hf => by subst hf; exact h.lo)), ?_, ?_, ?_, h.lo, h.lx, h.n1, h.n2, own_kept h.own kk (fun k hk hf => by have := (World.ownsRow.lt h.own k hk).1; omega), h.bo2, h.bx2, h.br2, Nat.le_trans h.big kk.size⟩
  · have := block_set (j := 1) (.int .u32 u.2) (block_set (j := 0) (.int .u64 u.1) h.o)
    simpa using this
  · rw [kk.block bx (Array.getElem?_eq_some_iff.1 h.x).1 (Ne.symm h.n1)]; exact h.x
  · rw [kk.block br (Array.getElem?_eq_some_iff.1 h.r).1 (Ne.symm h.n2)]; exact h.r
theorem sq_new (w : World) (o : Ts) (va vc : Value) : Sq w w.heap.size (w.heap.size + 1) (w.heap.size + 1 + 1) o va vc (.slice none 0 0) [] (((w.alloc (.cells #[.int .u64 o.1, .int .u32 o.2] 25)).alloc (.cells #[.int .u64 0, .int .u32 0] 25)).alloc (.cells #[va, vc] 26)) := by
  have k1 : (w.alloc (.cells #[.int .u64 o.1, .int .u32 o.2] 25)).heap[w.heap.size]? = some (.cells #[.int .u64 o.1, .int .u32 o.2] 25 (0, 0)) := heap_alloc_new w _
  have s1 : (w.alloc (.cells #[.int .u64 o.1, .int .u32 o.2] 25)).heap.size = w.heap.size + 1 := by simp
  have B1 : Below w.heap.size w (w.alloc (.cells #[.int .u64 o.1, .int .u32 o.2] 25)) := al _
  generalize w.alloc (.cells #[.int .u64 o.1, .int .u32 o.2] 25) = W1 at *
  have k2 := heap_alloc_new W1 (.cells #[.int .u64 0, .int .u32 0] 25)
  have k3 : (W1.alloc (.cells #[.int .u64 0, .int .u32 0] 25)).heap[w.heap.size]? = some (.cells #[.int .u64 o.1, .int .u32 o.2] 25 (0, 0)) := by rw [(al (W := W1) _).block _ (Array.getElem?_eq_some_iff.1 k1).1]; exact k1
  have s2 : (W1.alloc (.cells #[.int .u64 0, .int .u32 0] 25)).heap.size = w.heap.size + 1 + 1 := by simp [s1]
  have B2 : Below w.heap.size w (W1.alloc (.cells #[.int .u64 0, .int .u32 0] 25)) := B1.alloc B1.size _
  rw [s1] at k2
  generalize W1.alloc (.cells #[.int .u64 0, .int .u32 0] 25) = W2 at *
  have k4 := heap_alloc_new W2 (.cells #[va, vc] 26)
  rw [s2] at k4
  have s3 : (W2.alloc (.cells #[va, vc] 26)).heap.size = w.heap.size + 3 := by simp [s2]
  exact ⟨B2.alloc B2.size _, by rw [(al (W := W2) _).block _ (Array.getElem?_eq_some_iff.1 k3).1]; exact k3, by rw [(al (W := W2) _).block _ (Array.getElem?_eq_some_iff.1 k2).1]; exact k2, k4, Nat.le_refl _, by omega, by omega, by omega, own_nil _ _ _ _, by omega, by omega, by omega, by rw [s3]; exact Nat.le_refl _⟩
theorem two_cells {W : World} (o t : Ts) : ∀ i : Nat, i < 2 → (W.alloc (.cells #[.int .u64 o.1, .int .u32 o.2, .int .u64 t.1, .int .u32 t.2] 25)).cell? ⟨W.heap.size, i * 2, none⟩ = some (.int .u64 (([o, t] : List (Int × Int))[i]?.getD (0, 0)).1) ∧ (W.alloc (.cells #[.int .u64 o.1, .int .u32 o.2, .int .u64 t.1, .int .u32 t.2] 25)).cell? ⟨W.heap.size, i * 2 + 1, none⟩ = some (.int .u32 (([o, t] : List (Int × Int))[i]?.getD (0, 0)).2) := fun i hi => by
  have k := heap_alloc_new W (.cells #[.int .u64 o.1, .int .u32 o.2, .int .u64 t.1, .int .u32 t.2] 25)
  match i, hi with
  | 0, _ => exact ⟨block_cell k rfl, block_cell k rfl⟩
  | 1, _ => exact ⟨block_cell k rfl, block_cell k rfl⟩
set_option maxHeartbeats 3200000 in
set_option maxRecDepth 100000 in
theorem safe8 (o : Ts) (a c : List Ts) (aa ac : Option Addr) (ca cc : Nat) (w : World) (no : nn o) (ha : TsAt w.heap.size (.slice aa a.length ca) a w) (hc : TsAt w.heap.size (.slice ac c.length cc) c w) : Calls Try.prog 8 #[.agg #[.int .u64 o.1, .int .u32 o.2], .slice aa a.length ca, .slice ac c.length cc] w fun r w' => r = .returned (.agg #[.int .u64 (safeF o a c).1, .int .u32 (safeF o a c).2]) ∧ Below w.heap.size w w' := by
  obtain ⟨i0, hin, hi0, hi1, hi2⟩ := info_parts info25
  have HSM : Hid (maxL [oldF o, oT (leastF (toldF [a, c]))] = safeF o a c) := safe_max no a c
  have H0 : Hid _ := sq_new w o (.slice aa a.length ca) (.slice ac c.length cc)
  have HA : Hid (∀ (k : Nat) W, k < 2 → Below w.heap.size w W → ∃ l al' cl, toldF ([a, c].take (k + 1)) = toldF ([a, c].take k) ++ (leastF l).toList ∧ TsAt w.heap.size (.slice al' l.length cl) l W ∧ (#[Value.slice aa a.length ca, .slice ac c.length cc])[k]? = some (.slice al' l.length cl)) := fun k W hk h => by
    match k, hk with
    | 0, _ => exact ⟨a, aa, ca, by simp [toldF], ha.on h, rfl⟩
    | 1, _ => exact ⟨c, ac, cc, by simp [toldF], hc.on h, rfl⟩
  go_enter Try.func8, Try.ntmps8
  clear ha hc no
  go_upto_region 3 with fail
  obtain ⟨W0, hW0⟩ : ∃ W0, ((w.alloc (.cells #[.int .u64 o.1, .int .u32 o.2] 25)).alloc (.cells #[.int .u64 0, .int .u32 0] 25)).alloc (.cells #[.slice aa a.length ca, .slice ac c.length cc] 26) = W0 := ⟨_, rfl⟩
  obtain ⟨bo, hbo⟩ : ∃ b, w.heap.size = b := ⟨_, rfl⟩
  obtain ⟨bx, hbx⟩ : ∃ b, w.heap.size + 1 = b := ⟨_, rfl⟩
  obtain ⟨br, hbr⟩ : ∃ b, w.heap.size + 1 + 1 = b := ⟨_, rfl⟩
  rw [hW0, hbr, hbx] at H0
  rw [hW0, hbr, hbx, hbo]
  have HZ : Hid (Sq w bo bx br o (.slice aa a.length ca) (.slice ac c.length cc) (.slice none 0 0) [] W0) := by rw [← hbo]; exact H0.out
  clear H0 hW0 hbx hbo hbr
  obtain ⟨va, hva⟩ : ∃ v, v = Value.slice aa a.length ca := ⟨_, rfl⟩
  obtain ⟨vc, hvc⟩ : ∃ v, v = Value.slice ac c.length cc := ⟨_, rfl⟩
  rw [← hva, ← hvc] at HA HZ
  rw [← hva, ← hvc]
  clear hva hvc
  go_loopw [7, 18] (fun v i wr => ∃ k : Nat, k ≤ 2 ∧ i = .int .i64 k ∧ Hid (Sq w bo bx br o va vc v (toldF ([a, c].take k)) wr)) (fun _ i _ => 2 - (intOf i).toNat)
  case atStart => exact ⟨0, Nat.zero_le _, rfl, HZ.out⟩
  case round =>
    obtain ⟨k, hk, rfl, HE⟩ := hrel
    clear HZ
    by_cases hkl : k < 2
    · have hk1 : (k : Int) < 2 := by omega
      have HK : Hid (k + 1 ≤ 2) := hkl
      obtain ⟨l, ll, cl, hT, hts, hel⟩ := HA.out k wr hkl HE.out.bel
      have HT : Hid (toldF ([a, c].take (k + 1)) = toldF ([a, c].take k) ++ (leastF l).toList) := hT
      have d0 : wr.cell? ⟨br, k, none⟩ = some (.slice ll l.length cl) := block_cell HE.out.r hel
      have CL : Hid (1 = 1 → Calls Try.prog 6 #[.slice ll l.length cl] wr fun r w' => r = .returned (.tuple #[.agg #[.int .u64 (oT (leastF l)).1, .int .u32 (oT (leastF l)).2], .bool (leastF l).isSome]) ∧ Below wr.heap.size wr w') := fun _ => least6 l ll cl wr (RwAt.le hts HE.out.bel.size)
      clear hT hts hel
      have HLN : Hid ((toldF ([a, c].take k)).length ≤ 2) := by
        have h1 : ∀ (x : Option Ts), x.toList.length ≤ 1 := fun x => by cases x <;> simp
        have h2 := h1 (leastF a)
        have h3 := h1 (leastF c)
        have : k = 0 ∨ k = 1 := by omega
        show _ ≤ 2
        rcases this with rfl | rfl <;> simp [toldF] <;> omega
      generalize toldF ([a, c].take k) = R at *
      generalize leastF l = x at *
      go_wp2_with fail
      refine (CL.out (by trivial)).mono ?_
      rintro r w1 ⟨rfl, hb1⟩
      have H1 : Hid (Sq w bo bx br o va vc u7 R w1) := HE.out.on hb1
      clear hb1 CL d0 HE
      have HN : Hid (Sq w bo bx br o va vc u7 R (w1.alloc (.cells #[.int .u64 (oT x).1, .int .u32 (oT x).2] 25)) ∧ (w1.alloc (.cells #[.int .u64 (oT x).1, .int .u32 (oT x).2] 25)).heap[w1.heap.size]? = some (.cells #[.int .u64 (oT x).1, .int .u32 (oT x).2] 25 (0, 0))) := ⟨H1.out.on (al _), heap_alloc_new w1 _⟩
      go_upto_region 6 with fail
      obtain ⟨w2, hw2⟩ : ∃ w2, w1.alloc (.cells #[.int .u64 (oT x).1, .int .u32 (oT x).2] 25) = w2 := ⟨_, rfl⟩
      obtain ⟨bt, hbt⟩ : ∃ b, w1.heap.size = b := ⟨_, rfl⟩
      rw [hw2, hbt] at HN
      rw [hw2, hbt]
      clear hw2 hbt H1
      have H2 : Hid (Sq w bo bx br o va vc u7 R w2) := HN.out.1
      cases x with
      | none =>
        go_wp2_with fail
        go_roundw
        case rel => exact ⟨k + 1, HK.out, by go_num, by rw [HT.out, show R ++ (none : Option Ts).toList = R from by simp]; exact H2.out⟩
        case measure => simp [intOf]; omega
      | some t =>
        have b0 : w2.cell? ⟨bt, 0, none⟩ = some (.int .u64 t.1) := block_cell HN.out.2 rfl
        have b1 : w2.cell? ⟨bt, 1, none⟩ = some (.int .u32 t.2) := block_cell HN.out.2 rfl
        have kn := heap_alloc_new w2 (.cells #[.int .u64 t.1, .int .u32 t.2] 25)
        have H3 : Hid (Sq w bo bx br o va vc u7 R (w2.alloc (.cells #[.int .u64 t.1, .int .u32 t.2] 25))) := H2.out.on (al _)
        have HR : Hid (RwAt (w2.heap.size + 1) 2 (.slice (some ⟨w2.heap.size, 0, none⟩) 1 1) 1 (rowC tsc [t]) (w2.alloc (.cells #[.int .u64 t.1, .int .u32 t.2] 25))) := row_one tsc 2 tsc_len t 25 w2 (fun j u hj => block_cell kn (by rw [← hj]; simp [tsc]))
        clear kn
        have HOw : Hid (Ow (w.heap.size + 3) 25 2 u7 R.length (rowC tsc R) (w2.heap.size + 1) (.slice (some ⟨w2.heap.size, 0, none⟩) 1 1) 1 (rowC tsc [t]) (w2.alloc (.cells #[.int .u64 t.1, .int .u32 t.2] 25))) := ⟨H3.out.own, HR.out, rowC_cells tsc tsc_one _, H3.out.big, by have := HLN.out; omega⟩
        clear HN HR
        go_wp2_with (at_builtin; refine wpList_append_rw HOw.out Try.underlying26 hin hi0 hi1 hi2 rfl (by decide) (by decide) (.tmp 28) (.tmp 30) rfl rfl rfl rfl ?_)
        intro v1 w3 hown hg hat
        have H4 : Hid (Sq w bo bx br o va vc v1 (R ++ [t]) w3) := H3.out.grow hown hg
        clear hown hg hat HOw H3 b0 b1
        go_wp2_with fail
        go_roundw
        case rel => exact ⟨k + 1, HK.out, by go_num, by rw [HT.out]; exact H4.out⟩
        case measure => simp [intOf]; omega
    · have hk1 : ¬ (k : Int) < 2 := by omega
      obtain rfl : k = 2 := by omega
      rw [show ([a, c].take 2) = [a, c] from rfl] at HE
      clear HA hk hkl
      generalize toldF [a, c] = R at *
      have p0 : wr.cell? ⟨bo, 0, none⟩ = some (.int .u64 o.1) := block_cell HE.out.o rfl
      have p1 : wr.cell? ⟨bo, 1, none⟩ = some (.int .u32 o.2) := block_cell HE.out.o rfl
      have CR : Hid (1 = 1 → Calls Try.prog 10 #[.agg #[.int .u64 o.1, .int .u32 o.2]] wr fun e w' => e = .returned (.bool (rt o)) ∧ Below wr.heap.size wr w') := fun _ => right18 o.1 o.2 wr
      go_wp2_with fail
      refine (CR.out (by trivial)).mono ?_
      rintro r w3 ⟨rfl, hb3⟩
      have H3 : Hid (Sq w bo bx br o va vc u7 R w3) := HE.out.on hb3
      clear hb3 CR p0 p1 HE
      obtain ⟨q, hq⟩ : ∃ q, rt o = q := ⟨_, rfl⟩
      have HQ : Hid (rt o = q) := hq
      rw [hq]
      clear hq
      obtain ⟨sa, sc, hv, -⟩ := (show TsAt _ _ R w3 from rw_own H3.out.own).shape
      subst hv
      obtain ⟨o2, ho2⟩ : ∃ o2, oldF o = o2 := ⟨_, rfl⟩
      rw [ho2] at HSM
      have HOL : Hid (oldF o = o2) := ho2
      clear ho2
      cases q
      · obtain rfl : o2 = (0, 0) := by rw [← HOL.out]; unfold oldF; rw [HQ.out]; rfl
        have p0 : w3.cell? ⟨bo, 0, none⟩ = some (.int .u64 o.1) := block_cell H3.out.o rfl
        have p1 : w3.cell? ⟨bo, 1, none⟩ = some (.int .u32 o.2) := block_cell H3.out.o rfl
        have f0 : w3.frozen? ⟨bo, 0, none⟩ = false := block_frozen H3.out.o 0
        have f1 : w3.frozen? ⟨bo, 1, none⟩ = false := block_frozen H3.out.o 1
        have HP : Hid (Sq w bo bx br (0, 0) va vc (.slice sa R.length sc) R ((w3.setCell ⟨bo, 0, none⟩ (.int .u64 0)).setCell ⟨bo, 1, none⟩ (.int .u32 0))) := H3.out.put (0, 0)
        go_upto_region 11 with fail
        obtain ⟨W4, hw4⟩ : ∃ W4, ((w3.setCell ⟨bo, 0, none⟩ (.int .u64 0)).setCell ⟨bo, 1, none⟩ (.int .u32 0)) = W4 := ⟨_, rfl⟩
        rw [hw4] at HP
        rw [hw4]
        have H4 : Hid (Sq w bo bx br ((0 : Int), (0 : Int)) va vc (.slice sa R.length sc) R W4) := HP.out
        clear hw4 HP H3 p0 p1 f0 f1
        generalize ((0 : Int), (0 : Int)) = o2 at *
        have CL : Hid (1 = 1 → Calls Try.prog 6 #[.slice sa R.length sc] W4 fun r w' => r = .returned (.tuple #[.agg #[.int .u64 (oT (leastF R)).1, .int .u32 (oT (leastF R)).2], .bool (leastF R).isSome]) ∧ Below W4.heap.size W4 w') := fun _ => least6 R sa sc W4 (rw_own H4.out.own)
        generalize (leastF R).isSome = fs at *
        generalize oT (leastF R) = t at *
        go_wp2_with fail
        refine (CL.out (by trivial)).mono ?_
        rintro r w5 ⟨rfl, hb5⟩
        have H5 : Hid (Sq w bo bx br o2 va vc (.slice sa R.length sc) R w5) := H4.out.on hb5
        clear hb5 CL H4
        have HN : Hid (Sq w bo bx br o2 va vc (.slice sa R.length sc) R (w5.alloc (.cells #[.int .u64 t.1, .int .u32 t.2] 25)) ∧ (w5.alloc (.cells #[.int .u64 t.1, .int .u32 t.2] 25)).heap[w5.heap.size]? = some (.cells #[.int .u64 t.1, .int .u32 t.2] 25 (0, 0))) := ⟨H5.out.on (al _), heap_alloc_new w5 _⟩
        go_upto_region 12 with fail
        obtain ⟨w6, hw6⟩ : ∃ w6, w5.alloc (.cells #[.int .u64 t.1, .int .u32 t.2] 25) = w6 := ⟨_, rfl⟩
        obtain ⟨bt, hbt⟩ : ∃ b, w5.heap.size = b := ⟨_, rfl⟩
        rw [hw6, hbt] at HN
        rw [hw6, hbt]
        clear hw6 hbt H5
        have H6 : Hid (Sq w bo bx br o2 va vc (.slice sa R.length sc) R w6) := HN.out.1
        have k0 : w6.cell? ⟨bo, 0, none⟩ = some (.int .u64 o2.1) := block_cell H6.out.o rfl
        have k1 : w6.cell? ⟨bo, 1, none⟩ = some (.int .u32 o2.2) := block_cell H6.out.o rfl
        have b0 : w6.cell? ⟨bt, 0, none⟩ = some (.int .u64 t.1) := block_cell HN.out.2 rfl
        have b1 : w6.cell? ⟨bt, 1, none⟩ = some (.int .u32 t.2) := block_cell HN.out.2 rfl
        have CM : Hid (1 = 1 → Calls Try.prog 14 #[.slice (some ⟨w6.heap.size, 0, none⟩) 2 2] (w6.alloc (.cells #[.int .u64 o2.1, .int .u32 o2.2, .int .u64 t.1, .int .u32 t.2] 25)) fun e w' => e = .returned (.agg #[.int .u64 (maxL [o2, t]).1, .int .u32 (maxL [o2, t]).2]) ∧ Below (w6.alloc (.cells #[.int .u64 o2.1, .int .u32 o2.2, .int .u64 t.1, .int .u32 t.2] 25)).heap.size (w6.alloc (.cells #[.int .u64 o2.1, .int .u32 o2.2, .int .u64 t.1, .int .u32 t.2] 25)) w') := fun _ => max14_row w6.heap.size _ (by simp) 2 [o2, t] rfl (by omega) (two_cells o2 t)
        have H7 : Hid (Sq w bo bx br o2 va vc (.slice sa R.length sc) R (w6.alloc (.cells #[.int .u64 o2.1, .int .u32 o2.2, .int .u64 t.1, .int .u32 t.2] 25))) := H6.out.on (al _)
        generalize maxL [o2, t] = z at *
        go_wp2_with fail
        refine (CM.out (by trivial)).mono ?_
        rintro r w8 ⟨rfl, hb8⟩
        have H8 : Hid (Sq w bo bx br o2 va vc (.slice sa R.length sc) R w8) := H7.out.on hb8
        clear hb8 CM k0 k1 b0 b1 H7 H6 HN
        have y0 : w8.cell? ⟨bx, 0, none⟩ = some (.int .u64 0) := block_cell H8.out.x rfl
        have y1 : w8.cell? ⟨bx, 1, none⟩ = some (.int .u32 0) := block_cell H8.out.x rfl
        have z0 : w8.frozen? ⟨bx, 0, none⟩ = false := block_frozen H8.out.x 0
        have z1 : w8.frozen? ⟨bx, 1, none⟩ = false := block_frozen H8.out.x 1
        have HI : Hid ((((w8.setCell ⟨bx, 0, none⟩ (.int .u64 z.1)).setCell ⟨bx, 1, none⟩ (.int .u32 z.2)).heap[bx]? = some (.cells #[.int .u64 z.1, .int .u32 z.2] 25 (0, 0)))) := by
          have := block_set (j := 1) (.int .u32 z.2) (block_set (j := 0) (.int .u64 z.1) H8.out.x)
          show _ = _
          simpa using this
        have HB : Hid (Below w.heap.size w ((w8.setCell ⟨bx, 0, none⟩ (.int .u64 z.1)).setCell ⟨bx, 1, none⟩ (.int .u32 z.2))) := (H8.out.bel.setCell (p := ⟨bx, 0, none⟩) H8.out.lx _).setCell (p := ⟨bx, 1, none⟩) H8.out.lx _
        go_wp2_with fail
        have r0 : ((w8.setCell ⟨bx, 0, none⟩ (.int .u64 z.1)).setCell ⟨bx, 1, none⟩ (.int .u32 z.2)).cell? ⟨bx, 0, none⟩ = some (.int .u64 z.1) := block_cell HI.out rfl
        have r1 : ((w8.setCell ⟨bx, 0, none⟩ (.int .u64 z.1)).setCell ⟨bx, 1, none⟩ (.int .u32 z.2)).cell? ⟨bx, 1, none⟩ = some (.int .u32 z.2) := block_cell HI.out rfl
        refine bodyPost_ret (v := .agg #[.int .u64 z.1, .int .u32 z.2]) (by simp [results, Try.results8, go_sem, r0, r1]) rfl ?_
        exact ⟨by rw [HSM.out], HB.out⟩
      · obtain rfl : o2 = o := by rw [← HOL.out]; unfold oldF; rw [HQ.out]; rfl
        have H4 := H3
        clear H3
        have CL : Hid (1 = 1 → Calls Try.prog 6 #[.slice sa R.length sc] w3 fun r w' => r = .returned (.tuple #[.agg #[.int .u64 (oT (leastF R)).1, .int .u32 (oT (leastF R)).2], .bool (leastF R).isSome]) ∧ Below w3.heap.size w3 w') := fun _ => least6 R sa sc w3 (rw_own H4.out.own)
        generalize (leastF R).isSome = fs at *
        generalize oT (leastF R) = t at *
        go_wp2_with fail
        refine (CL.out (by trivial)).mono ?_
        rintro r w5 ⟨rfl, hb5⟩
        have H5 : Hid (Sq w bo bx br o2 va vc (.slice sa R.length sc) R w5) := H4.out.on hb5
        clear hb5 CL H4
        have HN : Hid (Sq w bo bx br o2 va vc (.slice sa R.length sc) R (w5.alloc (.cells #[.int .u64 t.1, .int .u32 t.2] 25)) ∧ (w5.alloc (.cells #[.int .u64 t.1, .int .u32 t.2] 25)).heap[w5.heap.size]? = some (.cells #[.int .u64 t.1, .int .u32 t.2] 25 (0, 0))) := ⟨H5.out.on (al _), heap_alloc_new w5 _⟩
        go_upto_region 12 with fail
        obtain ⟨w6, hw6⟩ : ∃ w6, w5.alloc (.cells #[.int .u64 t.1, .int .u32 t.2] 25) = w6 := ⟨_, rfl⟩
        obtain ⟨bt, hbt⟩ : ∃ b, w5.heap.size = b := ⟨_, rfl⟩
        rw [hw6, hbt] at HN
        rw [hw6, hbt]
        clear hw6 hbt H5
        have H6 : Hid (Sq w bo bx br o2 va vc (.slice sa R.length sc) R w6) := HN.out.1
        have k0 : w6.cell? ⟨bo, 0, none⟩ = some (.int .u64 o2.1) := block_cell H6.out.o rfl
        have k1 : w6.cell? ⟨bo, 1, none⟩ = some (.int .u32 o2.2) := block_cell H6.out.o rfl
        have b0 : w6.cell? ⟨bt, 0, none⟩ = some (.int .u64 t.1) := block_cell HN.out.2 rfl
        have b1 : w6.cell? ⟨bt, 1, none⟩ = some (.int .u32 t.2) := block_cell HN.out.2 rfl
        have CM : Hid (1 = 1 → Calls Try.prog 14 #[.slice (some ⟨w6.heap.size, 0, none⟩) 2 2] (w6.alloc (.cells #[.int .u64 o2.1, .int .u32 o2.2, .int .u64 t.1, .int .u32 t.2] 25)) fun e w' => e = .returned (.agg #[.int .u64 (maxL [o2, t]).1, .int .u32 (maxL [o2, t]).2]) ∧ Below (w6.alloc (.cells #[.int .u64 o2.1, .int .u32 o2.2, .int .u64 t.1, .int .u32 t.2] 25)).heap.size (w6.alloc (.cells #[.int .u64 o2.1, .int .u32 o2.2, .int .u64 t.1, .int .u32 t.2] 25)) w') := fun _ => max14_row w6.heap.size _ (by simp) 2 [o2, t] rfl (by omega) (two_cells o2 t)
        have H7 : Hid (Sq w bo bx br o2 va vc (.slice sa R.length sc) R (w6.alloc (.cells #[.int .u64 o2.1, .int .u32 o2.2, .int .u64 t.1, .int .u32 t.2] 25))) := H6.out.on (al _)
        generalize maxL [o2, t] = z at *
        go_wp2_with fail
        refine (CM.out (by trivial)).mono ?_
        rintro r w8 ⟨rfl, hb8⟩
        have H8 : Hid (Sq w bo bx br o2 va vc (.slice sa R.length sc) R w8) := H7.out.on hb8
        clear hb8 CM k0 k1 b0 b1 H7 H6 HN
        have y0 : w8.cell? ⟨bx, 0, none⟩ = some (.int .u64 0) := block_cell H8.out.x rfl
        have y1 : w8.cell? ⟨bx, 1, none⟩ = some (.int .u32 0) := block_cell H8.out.x rfl
        have z0 : w8.frozen? ⟨bx, 0, none⟩ = false := block_frozen H8.out.x 0
        have z1 : w8.frozen? ⟨bx, 1, none⟩ = false := block_frozen H8.out.x 1
        have HI : Hid ((((w8.setCell ⟨bx, 0, none⟩ (.int .u64 z.1)).setCell ⟨bx, 1, none⟩ (.int .u32 z.2)).heap[bx]? = some (.cells #[.int .u64 z.1, .int .u32 z.2] 25 (0, 0)))) := by
          have := block_set (j := 1) (.int .u32 z.2) (block_set (j := 0) (.int .u64 z.1) H8.out.x)
          show _ = _
          simpa using this
        have HB : Hid (Below w.heap.size w ((w8.setCell ⟨bx, 0, none⟩ (.int .u64 z.1)).setCell ⟨bx, 1, none⟩ (.int .u32 z.2))) := (H8.out.bel.setCell (p := ⟨bx, 0, none⟩) H8.out.lx _).setCell (p := ⟨bx, 1, none⟩) H8.out.lx _
        go_wp2_with fail
        have r0 : ((w8.setCell ⟨bx, 0, none⟩ (.int .u64 z.1)).setCell ⟨bx, 1, none⟩ (.int .u32 z.2)).cell? ⟨bx, 0, none⟩ = some (.int .u64 z.1) := block_cell HI.out rfl
        have r1 : ((w8.setCell ⟨bx, 0, none⟩ (.int .u64 z.1)).setCell ⟨bx, 1, none⟩ (.int .u32 z.2)).cell? ⟨bx, 1, none⟩ = some (.int .u32 z.2) := block_cell HI.out rfl
        refine bodyPost_ret (v := .agg #[.int .u64 z.1, .int .u32 z.2]) (by simp [results, Try.results8, go_sem, r0, r1]) rfl ?_
        exact ⟨by rw [HSM.out], HB.out⟩
/-- What the laws ask of the landed mark. -/
theorem markIfm (N : Nat) (h : 1048576 ≤ N) : Ifm N :=
  ⟨h, fun l ao cp w _ _ hl => least6 l ao cp w hl, fun o a c aa ac ca cc w _ no _ _ ha hc => safe8 o a c aa ac ca cc w no ha hc⟩
end Go.Proofs.Ytgmgceacdmcmlaa
