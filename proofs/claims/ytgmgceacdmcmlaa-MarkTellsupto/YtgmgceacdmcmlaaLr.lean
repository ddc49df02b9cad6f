/-
  Stamps in rows; the document's Least.
-/
import Derived.Test.YtgmgceacdmcmlaaBs
namespace Go.Proofs.Ytgmgceacdmcmlaa
open Go.RowKit Go.Sort

structure Veil (p : Prop) : Prop where
  out : p
theorem vq_step {P : Program} {ops : Array Oper} {C : World → Prop} {Q : Act → Prop} {a : Act} {o : Oper} {rest : List Oper}
    (h : ∀ K : Act → Prop, (∀ a, Veil (wpQuiet P ops C Q rest a) → K a) → if Region.wanted o (yielded ops a.tmps) then o.quiet P a C K else K (a.put o.dst undef)) : Veil (wpQuiet P ops C Q (o :: rest) a) :=
  ⟨wpQuiet_step fun K hK => h K fun a ha => hK a ha.out⟩
theorem vq_nil {P : Program} {ops : Array Oper} {C : World → Prop} {Q : Act → Prop} {a : Act} (h : Q a) : Veil (wpQuiet P ops C Q [] a) := ⟨wpQuiet_nil h⟩
theorem block_set {w : World} {b j : Nat} {cs : Array Value} {ty : TypeId} (u : Value) (h : w.heap[b]? = some (.cells cs ty (0, 0))) : (w.setCell ⟨b, j, none⟩ u).heap[b]? = some (.cells (cs.setIfInBounds j u) ty (0, 0)) := by
  show (w.heap.modify b _)[b]? = _
  rw [Array.getElem?_modify, if_pos rfl, h]
  rfl
theorem block_cell {w : World} {b j : Nat} {cs : Array Value} {ty : TypeId} {u : Value} (h : w.heap[b]? = some (.cells cs ty (0, 0))) (hj : cs[j]? = some u) : w.cell? ⟨b, j, none⟩ = some u := by
  unfold World.cell?
  rw [h]
  exact hj
theorem block_frozen {w : World} {b : Nat} {cs : Array Value} {ty : TypeId} (h : w.heap[b]? = some (.cells cs ty (0, 0))) (j : Nat) : w.frozen? ⟨b, j, none⟩ = false := by
  unfold World.frozen?
  rw [h]
  simp
theorem set_kept' (w : World) (b j : Nat) (u : Value) : Kept (fun c => c = b) w (w.setCell ⟨b, j, none⟩ u) := by
  have hb : Below b w (w.setCell ⟨b, j, none⟩ u) := (Below.refl b w).setCell (p := ⟨b, j, none⟩) (Nat.le_refl b) u
  exact ⟨hb.os, hb.tape, hb.output, hb.size, fun k _ hF => Below.heap_setCell w ⟨b, j, none⟩ u k hF⟩
def tsc (t : Ts) : List Value := [.int .u64 t.1, .int .u32 t.2]
theorem tsc_len (t : Ts) : (tsc t).length = 2 := rfl
theorem tsc_one : ∀ t, ∀ u ∈ tsc t, u.oneCell' = true := fun t u hu => by
  simp only [tsc, List.mem_cons, List.not_mem_nil, or_false] at hu
  rcases hu with rfl | rfl <;> rfl
/-- Stamps at a slice. -/
def TsAt (B : Nat) (v : Value) (L : List Ts) (w : World) : Prop := RwAt B 2 v L.length (rowC tsc L) w
theorem TsAt.el {B : Nat} {ao : Option Addr} {cap : Nat} {L : List Ts} {w : World} (h : TsAt B (.slice ao L.length cap) L w) {i : Nat} (hi : i < L.length) : ∃ b off, ao = some ⟨b, off, none⟩ ∧ w.cell? ⟨b, off + i * 2, none⟩ = some (.int .u64 (L.getD i (0, 0)).1) ∧ w.cell? ⟨b, off + i * 2 + 1, none⟩ = some (.int .u32 (L.getD i (0, 0)).2) := by
  obtain ⟨b, off, e, hc⟩ := rowC_el tsc_len (0, 0) (by omega) rfl h hi
  exact ⟨b, off, e, hc 0 _ (by omega) rfl, hc 1 _ (by omega) rfl⟩
theorem TsAt.shape {B : Nat} {v : Value} {L : List Ts} {w : World} (h : TsAt B v L w) : ∃ ao cap, v = .slice ao L.length cap ∧ L.length ≤ cap ∧ cap ≤ 9223372036854775807 := by
  obtain ⟨ao, cap, e, _, h1, h2, _⟩ := h
  exact ⟨ao, cap, e, h1, h2⟩
theorem TsAt.on {B : Nat} {v : Value} {L : List Ts} {w w' : World} (h : TsAt B v L w) (hb : Below B w w') : TsAt B v L w' := RwAt.on h hb
def oT (o : Option Ts) : Ts := o.getD (0, 0)
/-- The answer's box, the least so far in its, the stamps. -/
structure Lz (w : World) (bx bt : Nat) (t : Ts) (v : Value) (l : List Ts) (W : World) : Prop where
  bel : Below w.heap.size w W
  x : W.heap[bx]? = some (.cells #[.int .u64 0, .int .u32 0] 25 (0, 0))
  y : W.heap[bt]? = some (.cells #[.int .u64 t.1, .int .u32 t.2] 25 (0, 0))
  lx : w.heap.size ≤ bx
  ly : w.heap.size ≤ bt
  ne : bx ≠ bt
  ws : TsAt w.heap.size v l W
theorem Lz.on {w W W' : World} {bx bt : Nat} {t : Ts} {v : Value} {l : List Ts} (h : Lz w bx bt t v l W) (hb : Below W.heap.size W W') : Lz w bx bt t v l W' :=
  ⟨h.bel.trans (hb.mono h.bel.size), by rw [hb.block _ (Array.getElem?_eq_some_iff.1 h.x).1]; exact h.x, by rw [hb.block _ (Array.getElem?_eq_some_iff.1 h.y).1]; exact h.y, h.lx, h.ly, h.ne, h.ws.on (hb.mono h.bel.size)⟩
theorem Lz.put {w W : World} {bx bt : Nat} {t : Ts} {v : Value} {l : List Ts} (h : Lz w bx bt t v l W) (u : Ts) : Lz w bx bt u v l ((W.setCell ⟨bt, 0, none⟩ (.int .u64 u.1)).setCell ⟨bt, 1, none⟩ (.int .u32 u.2)) := by
  have k1 := set_kept' W bt 0 (.int .u64 u.1)
  have k2 := set_kept' (W.setCell ⟨bt, 0, none⟩ (.int .u64 u.1)) bt 1 (.int .u32 u.2)
  have kk := k1.trans k2 (fun _ h => .inl h)
  have hb : Below w.heap.size W ((W.setCell ⟨bt, 0, none⟩ (.int .u64 u.1)).setCell ⟨bt, 1, none⟩ (.int .u32 u.2)) := kk.below h.bel.size (fun k hf => by subst hf; exact h.ly)
  refine ⟨h.bel.trans hb, ?_, ?_, h.lx, h.ly, h.ne, h.ws.on hb⟩
  · rw [kk.block bx (Array.getElem?_eq_some_iff.1 h.x).1 h.ne]; exact h.x
  · have := block_set (j := 1) (.int .u32 u.2) (block_set (j := 0) (.int .u64 u.1) h.y)
    simpa using this
theorem lz_new {w : World} {v : Value} {l : List Ts} (h : TsAt w.heap.size v l w) : Lz w w.heap.size (w.heap.size + 1) (0, 0) v l ((w.alloc (.cells #[.int .u64 0, .int .u32 0] 25)).alloc (.cells #[.int .u64 0, .int .u32 0] 25)) := by
  have k1 : (w.alloc (.cells #[.int .u64 0, .int .u32 0] 25)).heap[w.heap.size]? = some (.cells #[.int .u64 0, .int .u32 0] 25 (0, 0)) := heap_alloc_new w _
  have k2 := heap_alloc_new (w.alloc (.cells #[.int .u64 0, .int .u32 0] 25)) (.cells #[.int .u64 0, .int .u32 0] 25)
  have hs : (w.alloc (.cells #[.int .u64 0, .int .u32 0] 25)).heap.size = w.heap.size + 1 := by simp
  rw [hs] at k2
  have hb : Below w.heap.size w ((w.alloc (.cells #[.int .u64 0, .int .u32 0] 25)).alloc (.cells #[.int .u64 0, .int .u32 0] 25)) := (al _).alloc (by simp) _
  exact ⟨hb, by rw [(al (W := w.alloc (.cells #[.int .u64 0, .int .u32 0] 25)) _).block _ (Array.getElem?_eq_some_iff.1 k1).1]; exact k1, k2, Nat.le_refl _, by omega, by omega, h.on hb⟩
set_option maxHeartbeats 3200000 in
set_option maxRecDepth 100000 in
theorem least7 (l : List Ts) (ao : Option Addr) (cp : Nat) (w : World) (hws : TsAt w.heap.size (.slice ao l.length cp) l w) : Calls Try.prog 7 #[.slice ao l.length cp] w fun r w' => r = .returned (.tuple #[.agg #[.int .u64 (oT (leastF l)).1, .int .u32 (oT (leastF l)).2], .bool (leastF l).isSome]) ∧ Below w.heap.size w w' := by
  obtain ⟨ao', cap, he, hla, hma⟩ := hws.shape
  simp only [Value.slice.injEq, true_and] at he
  obtain ⟨rfl, rfl⟩ := he
  have H0 : Hid _ := lz_new hws
  go_enter Try.func7, Try.ntmps7
  go_upto_region 2 with fail
  obtain ⟨W0, hW0⟩ : ∃ W0, (w.alloc (.cells #[.int .u64 0, .int .u32 0] 25)).alloc (.cells #[.int .u64 0, .int .u32 0] 25) = W0 := ⟨_, rfl⟩
  obtain ⟨bx, hbx⟩ : ∃ b, w.heap.size = b := ⟨_, rfl⟩
  obtain ⟨bt, hbt⟩ : ∃ b, w.heap.size + 1 = b := ⟨_, rfl⟩
  rw [hW0, hbt] at H0
  rw [hW0, hbt, hbx]
  have HZ : Hid (Lz w bx bt (0, 0) (.slice ao l.length cp) l W0) := by rw [← hbx]; exact H0.out
  clear H0 hW0 hbx hbt hws
  go_wp2_with fail
  go_loopw [5, 6] (fun f i wr => ∃ m : Nat, m ≤ l.length ∧ i = .int .i64 m ∧ f = .bool (leastF (l.take m)).isSome ∧ Hid (Lz w bx bt (oT (leastF (l.take m))) (.slice ao l.length cp) l wr)) (fun _ i _ => l.length - (intOf i).toNat)
  case atStart => exact ⟨0, Nat.zero_le _, rfl, rfl, HZ.out⟩
  case round =>
    obtain ⟨m, hm, rfl, rfl, HE⟩ := hrel
    clear HZ
    by_cases hml : m < l.length
    · have hml1 : (m : Int) < l.length := by omega
      have HM : Hid (m + 1 ≤ l.length) := hml
      have HST : Hid _ := least_take hml
      obtain ⟨b1, o1, rfl, d0, d1⟩ := HE.out.ws.el hml
      obtain ⟨x, hxx⟩ : ∃ x, l.getD m (0, 0) = x := ⟨_, rfl⟩
      rw [hxx] at d0 d1 HST
      have HGX : Hid (l.getD m (0, 0) = x) := hxx
      clear hxx
      generalize leastF (l.take m) = o at *
      obtain ⟨xp, xl⟩ := x
      dsimp only at d0 d1
      obtain ⟨r, hr⟩ : ∃ r, rightB xp xl = r := ⟨_, rfl⟩
      have HRT : Hid (rt (xp, xl) = r) := hr
      have cR : Hid (∀ d os, Calls Try.prog 12 #[.agg #[.int .u64 xp, .int .u32 xl]] (grow (redrawn wr d) os) fun q w'' => q = .returned (.bool r) ∧ ∃ p : Regrown, w'' = grow (redrawn wr p.d) p.os) := fun d os => Calls.regrown_of (by rw [← hr]; exact right20 xp xl _)
      have g0 := cell_regrown d0
      have g1 := cell_regrown d1
      clear hr
      cases r
      · have HL : Hid (leastS o (xp, xl) = o) := by show _ = _; unfold leastS; rw [HRT.out]; rfl
        obtain ⟨fo, hfo⟩ : ∃ fo, o.isSome = fo := ⟨_, rfl⟩
        have HFO : Hid (o.isSome = fo) := hfo
        rw [hfo]
        clear hfo
        go_wp2_with fail
        refine wp_region_quiet_below (by kernel_rfl) (by kernel_rfl) (Veil.out ?_)
        repeat (refine vq_step (fun K hK => ?_); go_simp; refine hK _ ?_; clear hK K)
        (refine vq_step (fun K hK => ?_); go_simp; apply Exists.intro; refine ⟨fun _ => ?_, hK _ ?_⟩; exact cR.out _ _; clear hK K)
        repeat (refine vq_step (fun K hK => ?_); go_simp; refine hK _ ?_; clear hK K)
        refine vq_nil ?_
        intro _ hw'
        obtain ⟨⟨dq, osq⟩, hw''⟩ := hw'
        subst hw''
        have H2 : Hid (Lz w bx bt (oT o) (.slice (some ⟨b1, o1, none⟩) l.length cp) l (Sort.grow (redrawn wr dq) osq)) := HE.out.on (below_regrown wr dq osq)
        generalize Sort.grow (redrawn wr dq) osq = w2 at *
        rw [← HFO.out]
        clear cR g0 g1 HE d0 d1
        go_wp2_with fail
        go_roundw
        case rel => exact ⟨m + 1, HM.out, by go_num, (by rw [HST.out, HL.out]; try rfl), by rw [HST.out, HL.out]; exact H2.out⟩
        case measure => simp [intOf]; omega
      · cases o with
        | none =>
          have HL : Hid (leastS none (xp, xl) = some (xp, xl)) := by show _ = _; unfold leastS; rw [HRT.out]; rfl
          go_wp2_with fail
          refine wp_region_quiet_below (by kernel_rfl) (by kernel_rfl) (Veil.out ?_)
          repeat (refine vq_step (fun K hK => ?_); go_simp; refine hK _ ?_; clear hK K)
          (refine vq_step (fun K hK => ?_); go_simp; apply Exists.intro; refine ⟨fun _ => ?_, hK _ ?_⟩; exact cR.out _ _; clear hK K)
          repeat (refine vq_step (fun K hK => ?_); go_simp; refine hK _ ?_; clear hK K)
          refine vq_nil ?_
          intro _ hw'
          obtain ⟨⟨dq, osq⟩, hw''⟩ := hw'
          subst hw''
          have H2 : Hid (Lz w bx bt (oT none) (.slice (some ⟨b1, o1, none⟩) l.length cp) l (Sort.grow (redrawn wr dq) osq)) := HE.out.on (below_regrown wr dq osq)
          generalize Sort.grow (redrawn wr dq) osq = w2 at *
          obtain ⟨b2, o2, e2, k0, k1⟩ := H2.out.ws.el hml
          cases e2
          rw [HGX.out] at k0 k1
          have q0 : w2.cell? ⟨bt, 0, none⟩ = some (.int .u64 (oT none).1) := block_cell H2.out.y rfl
          have q1 : w2.cell? ⟨bt, 1, none⟩ = some (.int .u32 (oT none).2) := block_cell H2.out.y rfl
          have f0 : w2.frozen? ⟨bt, 0, none⟩ = false := block_frozen H2.out.y 0
          have f1 : w2.frozen? ⟨bt, 1, none⟩ = false := block_frozen H2.out.y 1
          have H3 : Hid _ := H2.out.put (xp, xl)
          clear cR g0 g1 HE d0 d1 
          go_wp2_with fail
          go_roundw
          case rel => exact ⟨m + 1, HM.out, by go_num, (by rw [HST.out, HL.out]; try rfl), by rw [HST.out, HL.out]; exact H3.out⟩
          case measure => simp [intOf]; omega
        | some s =>
          obtain ⟨sp, sl⟩ := s
          obtain ⟨q, hq⟩ : ∃ q, lessB xp xl sp sl = q := ⟨_, rfl⟩
          have HLT : Hid (lt (xp, xl) (sp, sl) = q) := hq
          have cL : Hid (∀ d os, Calls Try.prog 13 #[.agg #[.int .u64 xp, .int .u32 xl], .agg #[.int .u64 sp, .int .u32 sl]] (grow (redrawn wr d) os) fun e w'' => e = .returned (.bool q) ∧ ∃ p : Regrown, w'' = grow (redrawn wr p.d) p.os) := fun d os => Calls.regrown_of (by rw [← hq]; exact less25 xp xl sp sl _)
          have t0 := cell_regrown (show wr.cell? ⟨bt, 0, none⟩ = some (.int .u64 sp) from block_cell HE.out.y rfl)
          have t1 := cell_regrown (show wr.cell? ⟨bt, 1, none⟩ = some (.int .u32 sl) from block_cell HE.out.y rfl)
          clear hq
          cases q
          · have HL : Hid (leastS (some (sp, sl)) (xp, xl) = some (sp, sl)) := by show _ = _; unfold leastS; rw [HRT.out]; simp only [if_true]; rw [HLT.out]; rfl
            go_wp2_with fail
            refine wp_region_quiet_below (by kernel_rfl) (by kernel_rfl) (Veil.out ?_)
            repeat (refine vq_step (fun K hK => ?_); go_simp; refine hK _ ?_; clear hK K)
            (refine vq_step (fun K hK => ?_); go_simp; apply Exists.intro; refine ⟨fun _ => ?_, hK _ ?_⟩; exact cR.out _ _; clear hK K)
            repeat (refine vq_step (fun K hK => ?_); go_simp; refine hK _ ?_; clear hK K)
            (refine vq_step (fun K hK => ?_); go_simp; apply Exists.intro; refine ⟨fun _ => ?_, hK _ ?_⟩; exact cL.out _ _; clear hK K)
            repeat (refine vq_step (fun K hK => ?_); go_simp; refine hK _ ?_; clear hK K)
            refine vq_nil ?_
            intro _ hw'
            obtain ⟨⟨dq, osq⟩, hw''⟩ := hw'
            subst hw''
            have H2 : Hid (Lz w bx bt (oT (some (sp, sl))) (.slice (some ⟨b1, o1, none⟩) l.length cp) l (Sort.grow (redrawn wr dq) osq)) := HE.out.on (below_regrown wr dq osq)
            generalize Sort.grow (redrawn wr dq) osq = w2 at *
            clear cL t0 t1
            clear cR g0 g1 HE d0 d1
            go_wp2_with fail
            go_roundw
            case rel => exact ⟨m + 1, HM.out, by go_num, (by rw [HST.out, HL.out]; try rfl), by rw [HST.out, HL.out]; exact H2.out⟩
            case measure => simp [intOf]; omega
          · have HL : Hid (leastS (some (sp, sl)) (xp, xl) = some (xp, xl)) := by show _ = _; unfold leastS; rw [HRT.out]; simp only [if_true]; rw [HLT.out]; rfl
            go_wp2_with fail
            refine wp_region_quiet_below (by kernel_rfl) (by kernel_rfl) (Veil.out ?_)
            repeat (refine vq_step (fun K hK => ?_); go_simp; refine hK _ ?_; clear hK K)
            (refine vq_step (fun K hK => ?_); go_simp; apply Exists.intro; refine ⟨fun _ => ?_, hK _ ?_⟩; exact cR.out _ _; clear hK K)
            repeat (refine vq_step (fun K hK => ?_); go_simp; refine hK _ ?_; clear hK K)
            (refine vq_step (fun K hK => ?_); go_simp; apply Exists.intro; refine ⟨fun _ => ?_, hK _ ?_⟩; exact cL.out _ _; clear hK K)
            repeat (refine vq_step (fun K hK => ?_); go_simp; refine hK _ ?_; clear hK K)
            refine vq_nil ?_
            intro _ hw'
            obtain ⟨⟨dq, osq⟩, hw''⟩ := hw'
            subst hw''
            have H2 : Hid (Lz w bx bt (oT (some (sp, sl))) (.slice (some ⟨b1, o1, none⟩) l.length cp) l (Sort.grow (redrawn wr dq) osq)) := HE.out.on (below_regrown wr dq osq)
            generalize Sort.grow (redrawn wr dq) osq = w2 at *
            obtain ⟨b2, o2, e2, k0, k1⟩ := H2.out.ws.el hml
            cases e2
            rw [HGX.out] at k0 k1
            have q0 : w2.cell? ⟨bt, 0, none⟩ = some (.int .u64 (oT (some (sp, sl))).1) := block_cell H2.out.y rfl
            have q1 : w2.cell? ⟨bt, 1, none⟩ = some (.int .u32 (oT (some (sp, sl))).2) := block_cell H2.out.y rfl
            have f0 : w2.frozen? ⟨bt, 0, none⟩ = false := block_frozen H2.out.y 0
            have f1 : w2.frozen? ⟨bt, 1, none⟩ = false := block_frozen H2.out.y 1
            have H3 : Hid _ := H2.out.put (xp, xl)
            clear cR g0 g1 HE d0 d1 cL t0 t1
            go_wp2_with fail
            go_roundw
            case rel => exact ⟨m + 1, HM.out, by go_num, (by rw [HST.out, HL.out]; try rfl), by rw [HST.out, HL.out]; exact H3.out⟩
            case measure => simp [intOf]; omega
    · have hml1 : ¬ (m : Int) < l.length := by omega
      have HTL : Hid (leastF (l.take m) = leastF l) := by show _ = _; rw [List.take_of_length_le (by omega)]
      rw [HTL.out] at HE
      rw [HTL.out]
      obtain ⟨fo, hfo⟩ : ∃ fo, (leastF l).isSome = fo := ⟨_, rfl⟩
      obtain ⟨t, ht⟩ : ∃ t, oT (leastF l) = t := ⟨_, rfl⟩
      have HFO : Hid ((leastF l).isSome = fo) := hfo
      have HT : Hid (oT (leastF l) = t) := ht
      rw [hfo]
      rw [ht] at HE
      clear hfo ht
      have p0 : wr.cell? ⟨bt, 0, none⟩ = some (.int .u64 t.1) := block_cell HE.out.y rfl
      have p1 : wr.cell? ⟨bt, 1, none⟩ = some (.int .u32 t.2) := block_cell HE.out.y rfl
      have y0 : wr.cell? ⟨bx, 0, none⟩ = some (.int .u64 0) := block_cell HE.out.x rfl
      have y1 : wr.cell? ⟨bx, 1, none⟩ = some (.int .u32 0) := block_cell HE.out.x rfl
      have z0 : wr.frozen? ⟨bx, 0, none⟩ = false := block_frozen HE.out.x 0
      have z1 : wr.frozen? ⟨bx, 1, none⟩ = false := block_frozen HE.out.x 1
      have hI : ((wr.setCell ⟨bx, 0, none⟩ (.int .u64 t.1)).setCell ⟨bx, 1, none⟩ (.int .u32 t.2)).heap[bx]? = some (.cells #[.int .u64 t.1, .int .u32 t.2] 25 (0, 0)) := by
        have := block_set (j := 1) (.int .u32 t.2) (block_set (j := 0) (.int .u64 t.1) HE.out.x)
        simpa using this
      have HI : Hid _ := hI
      have HB : Hid (Below w.heap.size w ((wr.setCell ⟨bx, 0, none⟩ (.int .u64 t.1)).setCell ⟨bx, 1, none⟩ (.int .u32 t.2))) := (HE.out.bel.setCell (p := ⟨bx, 0, none⟩) HE.out.lx _).setCell (p := ⟨bx, 1, none⟩) HE.out.lx _
      clear hI
      go_wp2_with fail
      have r0 : ((wr.setCell ⟨bx, 0, none⟩ (.int .u64 t.1)).setCell ⟨bx, 1, none⟩ (.int .u32 t.2)).cell? ⟨bx, 0, none⟩ = some (.int .u64 t.1) := block_cell HI.out rfl
      have r1 : ((wr.setCell ⟨bx, 0, none⟩ (.int .u64 t.1)).setCell ⟨bx, 1, none⟩ (.int .u32 t.2)).cell? ⟨bx, 1, none⟩ = some (.int .u32 t.2) := block_cell HI.out rfl
      refine bodyPost_ret (v := .tuple #[.agg #[.int .u64 t.1, .int .u32 t.2], .bool fo]) (by simp [results, Try.results7, go_sem, r0, r1]) rfl ?_
      exact ⟨by rw [HFO.out, HT.out], HB.out⟩
end Go.Proofs.Ytgmgceacdmcmlaa
