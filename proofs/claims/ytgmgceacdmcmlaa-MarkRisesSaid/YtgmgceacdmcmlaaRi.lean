/-
  MarkRises, walked.
-/
import Derived.Test.YtgmgceacdmcmlaaIf
import Derived.Test.YtgmgceacdmcmlaaOb
namespace Go.Proofs.Ytgmgceacdmcmlaa
open Go.RowKit Go.Sort

theorem nn_safe {o : Ts} {a c : List Ts} (no : nn o) (na : ∀ t ∈ a, nn t) (nc : ∀ t ∈ c, nn t) : nn (safeF o a c) := by
  have h0 : nn (oldF o) := by unfold oldF; split; exact no; exact ⟨Int.le_refl _, Int.le_refl _⟩
  have hl := isL_least (a ++ c)
  unfold safeF
  cases hq : leastF (a ++ c) with
  | none => exact h0
  | some t =>
    dsimp only
    have ht : nn t := by
      rcases List.mem_append.1 (hl.some t hq).1 with h1 | h1
      · exact na t h1
      · exact nc t h1
    rcases max_cases (oldF o) t with ⟨e, _⟩ | ⟨e, _⟩
    · rw [e]; exact h0
    · rw [e]; exact ht
/-- With the safe time in its box, and the row turned so far. -/
structure Rz (w : World) (B0 bo bt : Nat) (o t : Ts) (va vc : Value) (a c : List Ts) (v : Value) (L : List Ts) (W : World) : Prop where
  z : Tz w bo o va vc a c W
  t : W.heap[bt]? = some (.cells #[.int .u64 t.1, .int .u32 t.2] 25 (0, 0))
  own : W.ownsRow B0 25 2 v L.length (rowC tsc L)
  b0 : w.heap.size ≤ B0
  b1 : bo < B0
  b2 : bt < B0
  big : B0 ≤ W.heap.size
theorem Rz.on {w W W' : World} {B0 bo bt : Nat} {o t : Ts} {va vc v : Value} {a c L : List Ts} (h : Rz w B0 bo bt o t va vc a c v L W) (hb : Below W.heap.size W W') : Rz w B0 bo bt o t va vc a c v L W' :=
  ⟨h.z.on hb, by rw [hb.block _ (Array.getElem?_eq_some_iff.1 h.t).1]; exact h.t, own_on h.own hb, h.b0, h.b1, h.b2, Nat.le_trans h.big hb.size⟩
theorem Rz.grow {w W W' : World} {B0 bo bt : Nat} {o t : Ts} {va vc v v' : Value} {a c L R : List Ts} (h : Rz w B0 bo bt o t va vc a c v L W) (hown : W'.ownsRow B0 25 2 v' (L.length + R.length) (rowC tsc L ++ rowC tsc R)) (hg : W.grownBy W' v.ownBlock) : Rz w B0 bo bt o t va vc a c v' (L ++ R) W' := by
  have hk := grown_kept hg
  have ob : ∀ k, v.ownBlock = some k → B0 ≤ k := fun k hk => (World.ownsRow.lt h.own k hk).1
  have h0 := h.b0
  have h1 := h.b1
  have h2 := h.b2
  have hb : Below w.heap.size W W' := hk.below h.z.bel.size (fun k hf => by have := ob k hf; omega)
  refine ⟨⟨h.z.bel.trans hb, ?_, h.z.a.on hb, h.z.c.on hb⟩, ?_, by rw [rowC_append, List.length_append]; exact hown, h.b0, h.b1, h.b2, Nat.le_trans h.big hk.size⟩
  · rw [hk.block bo (Array.getElem?_eq_some_iff.1 h.z.o).1 (fun hf => by have := ob _ hf; omega)]; exact h.z.o
  · rw [hk.block bt (Array.getElem?_eq_some_iff.1 h.t).1 (fun hf => by have := ob _ hf; omega)]; exact h.t
theorem ts_ow {base n : Nat} {sa : Option Addr} {sc : Nat} {l : List Ts} {w : World} (x : Ts) (ho : w.ownsRow base 25 2 (.slice sa n sc) n (rowC tsc l)) (hb : base ≤ w.heap.size) (hl : (n + 1) * 16 ≤ 140737488355328) :
    Owb base 25 2 16 (.slice sa n sc) n (rowC tsc l) (w.heap.size + 1) (.slice (some ⟨w.heap.size, 0, none⟩) 1 1) 1 (rowC tsc [x]) (w.alloc (.cells (tsc x).toArray 25)) :=
  ⟨World.ownsRow.alloc ho _, row_one tsc 2 tsc_len x 25 w (fun j u hj => block_cell (heap_alloc_new w _) (by simpa using hj)), rowC_cells tsc tsc_one _, Nat.le_trans hb (by simp), hl, by decide⟩
theorem turn_step {a : List Ts} {m : Nat} (h : m < a.length) : (a.drop (m + 1)).reverse ++ [a.getD m (0, 0)] = (a.drop m).reverse := by
  rw [show a.getD m (0, 0) = a[m] from by simp [List.getD, h], List.drop_eq_getElem_cons h, List.reverse_cons]
set_option maxHeartbeats 3200000 in
set_option maxRecDepth 100000 in
theorem rises4 {N : Nat} (I : Ifm N) (o : Ts) (a c : List Ts) (aa ac : Option Addr) (ca cc : Nat) (w : World) (hl : a.length + c.length ≤ N) (hz : a.length * 16 ≤ 140737488355328) (no : nn o) (na : ∀ t ∈ a, nn t) (nc : ∀ t ∈ c, nn t) (ha : TsAt w.heap.size (.slice aa a.length ca) a w) (hc : TsAt w.heap.size (.slice ac c.length cc) c w) : Calls Try.prog 4 #[.agg #[.int .u64 o.1, .int .u32 o.2], .slice aa a.length ca, .slice ac c.length cc] w fun r w' => r = .returned (.bool true) ∧ Below w.heap.size w w' := by
  obtain ⟨i0, hin, hi0, hi1, hi2⟩ := info_parts info25
  have H0 : Hid (Tz w w.heap.size o (.slice aa a.length ca) (.slice ac c.length cc) a c (w.alloc (.cells #[.int .u64 o.1, .int .u32 o.2] 25))) := ⟨al _, heap_alloc_new w _, ha.on (al _), hc.on (al _)⟩
  obtain ⟨W1, hW1⟩ : ∃ W1, w.alloc (.cells #[.int .u64 o.1, .int .u32 o.2] 25) = W1 := ⟨_, rfl⟩
  obtain ⟨bo, hbo⟩ : ∃ b, w.heap.size = b := ⟨_, rfl⟩
  have H1 : Hid (Tz w bo o (.slice aa a.length ca) (.slice ac c.length cc) a c W1) := by rw [← hbo, ← hW1]; exact H0.out
  have CA : Hid (1 = 1 → Calls Try.prog 5 #[] W1 fun e w' => e = .returned (.bool true) ∧ Below W1.heap.size W1 w') := fun _ => awake5 I W1
  have CS : Hid (∀ (u : Ts) W, nn u → Tz w bo o (.slice aa a.length ca) (.slice ac c.length cc) a c W → Calls Try.prog 8 #[.agg #[.int .u64 u.1, .int .u32 u.2], .slice aa a.length ca, .slice ac c.length cc] W fun r w' => r = .returned (.agg #[.int .u64 (safeF u a c).1, .int .u32 (safeF u a c).2]) ∧ Below W.heap.size W w') := fun u W nu h => I.sa u a c aa ac ca cc W hl nu na nc (RwAt.le h.a h.bel.size) (RwAt.le h.c h.bel.size)
  have CT : Hid (∀ W, Tz w bo o (.slice aa a.length ca) (.slice ac c.length cc) a c W → Calls Try.prog 8 #[.agg #[.int .u64 o.1, .int .u32 o.2], .slice ac c.length cc, .slice aa a.length ca] W fun r w' => r = .returned (.agg #[.int .u64 (safeF o a c).1, .int .u32 (safeF o a c).2]) ∧ Below W.heap.size W w') := fun W h => by
    rw [safe_ext (o := o) (a := a) (c := c) (a' := c) (c' := a) (fun x => by simp [or_comm])]
    exact I.sa o c a ac aa cc ca W (by omega) no nc na (RwAt.le h.c h.bel.size) (RwAt.le h.a h.bel.size)
  have CU : Hid (∀ (L : List Ts) av cv W, (∀ x, x ∈ L ↔ x ∈ a) → L.length = a.length → TsAt W.heap.size (.slice av L.length cv) L W → Tz w bo o (.slice aa a.length ca) (.slice ac c.length cc) a c W → Calls Try.prog 8 #[.agg #[.int .u64 o.1, .int .u32 o.2], .slice av L.length cv, .slice ac c.length cc] W fun r w' => r = .returned (.agg #[.int .u64 (safeF o a c).1, .int .u32 (safeF o a c).2]) ∧ Below W.heap.size W w') := fun L av cv W hm hn hL h => by
    rw [safe_ext (o := o) (a := a) (c := c) (a' := L) (c' := c) (fun x => by simp [hm])]
    exact I.sa o L c av ac cv cc W (by omega) no (fun t ht => na t ((hm t).1 ht)) nc hL (RwAt.le h.c h.bel.size)
  have HN : Hid (nn o ∧ nn (safeF o a c)) := ⟨no, nn_safe no na nc⟩
  obtain ⟨op, ol⟩ := o
  dsimp only at *
  clear H0 ha hc no
  go_enter Try.func4, Try.ntmps4
  go_wp2_with fail
  refine (CA.out (by trivial)).mono ?_
  rintro r w1 ⟨rfl, hb1⟩
  have H2 : Hid (Tz w bo (op, ol) (.slice aa a.length ca) (.slice ac c.length cc) a c w1) := H1.out.on hb1
  clear hb1 CA H1 hW1 hbo
  have g0 : w1.cell? ⟨bo, 0, none⟩ = some (.int .u64 op) := block_cell H2.out.o rfl
  have g1 : w1.cell? ⟨bo, 1, none⟩ = some (.int .u32 ol) := block_cell H2.out.o rfl
  have CR : Hid (1 = 1 → Calls Try.prog 10 #[.agg #[.int .u64 op, .int .u32 ol]] w1 fun e w' => e = .returned (.bool (rt (op, ol))) ∧ Below w1.heap.size w1 w') := fun _ => right18 op ol w1
  obtain ⟨q, hq⟩ : ∃ q, rt (op, ol) = q := ⟨_, rfl⟩
  have HQ : Hid (rt (op, ol) = q) := hq
  rw [hq] at CR
  clear hq
  go_wp2_with fail
  refine (CR.out (by trivial)).mono ?_
  rintro r w2 ⟨rfl, hb2⟩
  have H3 : Hid (Tz w bo (op, ol) (.slice aa a.length ca) (.slice ac c.length cc) a c w2) := H2.out.on hb2
  clear hb2 CR H2 g0 g1
  cases q
  · go_wp2_with fail
    go_ret
    exact ⟨rfl, H3.out.bel⟩
  have HD : Hid (safeF (safeF (op, ol) a c) a c = safeF (op, ol) a c ∧ lt (safeF (op, ol) a c) (op, ol) = false ∧ ∀ x, x ∈ a ++ c → rt x = true → safeF (op, ol) a c ≠ (op, ol) → lt x (safeF (op, ol) a c) = false) := ⟨safe_again HQ.out a c, safe_up HQ.out a c, fun x hx hr hne => safe_none HQ.out hne hx hr⟩
  have g0 : w2.cell? ⟨bo, 0, none⟩ = some (.int .u64 op) := block_cell H3.out.o rfl
  have g1 : w2.cell? ⟨bo, 1, none⟩ = some (.int .u32 ol) := block_cell H3.out.o rfl
  have CS0 : Hid (1 = 1 → _) := fun _ => CS.out (op, ol) w2 HN.out.1 H3.out
  have CS1 : Hid (∀ W, Tz w bo (op, ol) (.slice aa a.length ca) (.slice ac c.length cc) a c W → Calls Try.prog 8 #[.agg #[.int .u64 (safeF (op, ol) a c).1, .int .u32 (safeF (op, ol) a c).2], .slice aa a.length ca, .slice ac c.length cc] W fun r w' => r = .returned (.agg #[.int .u64 (safeF (op, ol) a c).1, .int .u32 (safeF (op, ol) a c).2]) ∧ Below W.heap.size W w') := fun W h => by
    have := CS.out (safeF (op, ol) a c) W HN.out.2 h
    rw [HD.out.1] at this
    exact this
  have HD2 : Hid (lt (safeF (op, ol) a c) (op, ol) = false ∧ ∀ x, x ∈ a ++ c → rt x = true → safeF (op, ol) a c ≠ (op, ol) → lt x (safeF (op, ol) a c) = false) := HD.out.2
  clear HD HN CS HQ
  generalize safeF (op, ol) a c = z at *
  obtain ⟨zp, zl⟩ := z
  dsimp only at *
  go_wp2_with fail
  refine (CS0.out (by trivial)).mono ?_
  rintro r w3 ⟨rfl, hb3⟩
  have H5 : Hid (Rz w (w3.heap.size + 1) bo w3.heap.size (op, ol) (zp, zl) (.slice aa a.length ca) (.slice ac c.length cc) a c (.slice none 0 0) [] (w3.alloc (.cells #[.int .u64 zp, .int .u32 zl] 25))) := ⟨(H3.out.on hb3).on (al _), heap_alloc_new w3 _, own_nil _ _ _ _, by have := H3.out.bel.size; have := hb3.size; omega, by have := (Array.getElem?_eq_some_iff.1 (H3.out.on hb3).o).1; omega, by omega, by simp⟩
  clear hb3 CS0 H3 g0 g1
  go_upto_region 6 with fail
  obtain ⟨w5, hw5⟩ : ∃ w5, w3.alloc (.cells #[.int .u64 zp, .int .u32 zl] 25) = w5 := ⟨_, rfl⟩
  obtain ⟨bt, hbt⟩ : ∃ b, w3.heap.size = b := ⟨_, rfl⟩
  rw [hw5, hbt] at H5
  rw [hw5, hbt]
  clear hw5 hbt
  have cL : Hid (∀ d os, Calls Try.prog 11 #[.agg #[.int .u64 zp, .int .u32 zl], .agg #[.int .u64 op, .int .u32 ol]] (grow (redrawn w5 d) os) fun q w'' => q = .returned (.bool false) ∧ ∃ p : Regrown, w'' = grow (redrawn w5 p.d) p.os) := fun d os => Calls.regrown_of (by rw [← HD2.out.1]; exact less17 zp zl op ol _)
  have cS : Hid (∀ d os, Calls Try.prog 8 #[.agg #[.int .u64 zp, .int .u32 zl], .slice aa a.length ca, .slice ac c.length cc] (grow (redrawn w5 d) os) fun q w'' => q = .returned (.agg #[.int .u64 zp, .int .u32 zl]) ∧ ∃ p : Regrown, w'' = grow (redrawn w5 p.d) p.os) := fun d os => Calls.regrown_of (CS1.out _ (H5.out.z.on (below_regrown w5 d os)))
  have cT : Hid (∀ d os, Calls Try.prog 8 #[.agg #[.int .u64 op, .int .u32 ol], .slice ac c.length cc, .slice aa a.length ca] (grow (redrawn w5 d) os) fun q w'' => q = .returned (.agg #[.int .u64 zp, .int .u32 zl]) ∧ ∃ p : Regrown, w'' = grow (redrawn w5 p.d) p.os) := fun d os => Calls.regrown_of (CT.out _ (H5.out.z.on (below_regrown w5 d os)))
  have g0 := cell_regrown (show w5.cell? ⟨bo, 0, none⟩ = some (.int .u64 op) from block_cell H5.out.z.o rfl)
  have g1 := cell_regrown (show w5.cell? ⟨bo, 1, none⟩ = some (.int .u32 ol) from block_cell H5.out.z.o rfl)
  have g2 := cell_regrown (show w5.cell? ⟨bt, 0, none⟩ = some (.int .u64 zp) from block_cell H5.out.t rfl)
  have g3 := cell_regrown (show w5.cell? ⟨bt, 1, none⟩ = some (.int .u32 zl) from block_cell H5.out.t rfl)
  have e1 := run_neq25 zp zl zp zl
  simp only [beq_self_eq_true, Bool.and_self, Bool.not_true] at e1
  clear CT CS1
  refine wp_region_quiet_below (by kernel_rfl) (by kernel_rfl) (Veil.out ?_)
  repeat (refine vq_step (fun K hK => ?_); go_simp; refine hK _ ?_; clear hK K)
  (refine vq_step (fun K hK => ?_); go_simp; apply Exists.intro; refine ⟨fun _ => ?_, hK _ ?_⟩; exact cL.out _ _; clear hK K)
  repeat (refine vq_step (fun K hK => ?_); go_simp; refine hK _ ?_; clear hK K)
  (refine vq_step (fun K hK => ?_); go_simp; apply Exists.intro; refine ⟨fun _ => ?_, hK _ ?_⟩; exact cT.out _ _; clear hK K)
  repeat (refine vq_step (fun K hK => ?_); go_simp; refine hK _ ?_; clear hK K)
  (refine vq_step (fun K hK => ?_); go_simp; apply Exists.intro; refine ⟨fun _ => ?_, hK _ ?_⟩; exact cS.out _ _; clear hK K)
  repeat (refine vq_step (fun K hK => ?_); go_simp; refine hK _ ?_; clear hK K)
  refine vq_nil ?_
  intro _ hw'
  obtain ⟨⟨dq, osq⟩, hw''⟩ := hw'
  subst hw''
  have H6 : Hid (Rz w (bt + 1) bo bt (op, ol) (zp, zl) (.slice aa a.length ca) (.slice ac c.length cc) a c (.slice none 0 0) [] (Sort.grow (redrawn w5 dq) osq)) := H5.out.on (below_regrown w5 dq osq)
  generalize Sort.grow (redrawn w5 dq) osq = w6 at *
  clear cL cS cT g0 g1 g2 g3 e1 H5
  go_wp2_with fail
  go_loopw [8, 9] (fun v i wr => ∃ m : Nat, m ≤ a.length ∧ i = .int .i64 ((m : Int) - 1) ∧ Hid (Rz w (bt + 1) bo bt (op, ol) (zp, zl) (.slice aa a.length ca) (.slice ac c.length cc) a c v (a.drop m).reverse wr)) (fun _ i _ => (intOf i + 1).toNat)
  case atStart => exact ⟨a.length, Nat.le_refl _, by go_num, by rw [List.drop_length]; exact H6.out⟩
  case round =>
    obtain ⟨m, hm, rfl, HE⟩ := hrel
    clear H6
    cases m with
    | zero =>
      rw [show ((0 : Nat) : Int) - 1 = -1 from rfl]
      have HR : Hid (Rz w (bt + 1) bo bt (op, ol) (zp, zl) (.slice aa a.length ca) (.slice ac c.length cc) a c u8 a.reverse wr) := HE.out
      clear HE
      obtain ⟨ac', cap', he', hla, hma⟩ := HR.out.z.c.shape
      simp only [Value.slice.injEq, true_and] at he'
      obtain ⟨rfl, rfl⟩ := he'
      go_wp2_with fail
      go_loopw [74] (fun i wq => ∃ k : Nat, k ≤ c.length ∧ i = .int .i64 k ∧ Hid (Rz w (bt + 1) bo bt (op, ol) (zp, zl) (.slice aa a.length ca) (.slice ac c.length cc) a c u8 a.reverse wq)) (fun i _ => c.length - (intOf i).toNat)
      case atStart => exact ⟨0, Nat.zero_le _, rfl, HR.out⟩
      case round =>
        obtain ⟨k, hk, rfl, HE⟩ := hrel
        clear HR
        by_cases hkl : k < c.length
        · have hkl1 : (k : Int) < c.length := by omega
          obtain ⟨b1, o1, rfl, d0, d1⟩ := HE.out.z.c.el hkl
          obtain ⟨x, hx⟩ : ∃ x, c.getD k (0, 0) = x := ⟨_, rfl⟩
          have HMX : Hid (x ∈ a ++ c) := by
            show _ ∈ _
            rw [← hx, show c.getD k (0, 0) = c[k] from by simp [List.getD, hkl]]
            exact List.mem_append_right _ (List.getElem_mem hkl)
          rw [hx] at d0 d1
          clear hx
          obtain ⟨xp, xl⟩ := x
          dsimp only at d0 d1
          have H7 : Hid (Rz w (bt + 1) bo bt (op, ol) (zp, zl) (.slice aa a.length ca) (.slice (some ⟨b1, o1, none⟩) c.length cc) a c u8 a.reverse (wr.alloc (.cells #[.int .u64 xp, .int .u32 xl] 25))) := HE.out.on (al _)
          have HB7 : Hid ((wr.alloc (.cells #[.int .u64 xp, .int .u32 xl] 25)).heap[wr.heap.size]? = some (.cells #[.int .u64 xp, .int .u32 xl] 25 (0, 0))) := heap_alloc_new wr _
          go_upto_region 18 with fail
          obtain ⟨w4, hw4⟩ : ∃ w4, wr.alloc (.cells #[.int .u64 xp, .int .u32 xl] 25) = w4 := ⟨_, rfl⟩
          obtain ⟨bx, hbx⟩ : ∃ b, wr.heap.size = b := ⟨_, rfl⟩
          rw [hw4] at H7
          rw [hw4, hbx] at HB7
          rw [hw4, hbx]
          clear hw4 hbx HE d0 d1
          obtain ⟨r, hr⟩ : ∃ r, rightB xp xl = r := ⟨_, rfl⟩
          have HRT : Hid (rt (xp, xl) = r) := hr
          clear hr
          have CR : Hid (1 = 1 → Calls Try.prog 10 #[.agg #[.int .u64 xp, .int .u32 xl]] w4 fun e w' => e = .returned (.bool r) ∧ Below w4.heap.size w4 w') := fun _ => by rw [← HRT.out]; exact right18 xp xl w4
          have x0 : w4.cell? ⟨bx, 0, none⟩ = some (.int .u64 xp) := block_cell HB7.out rfl
          have x1 : w4.cell? ⟨bx, 1, none⟩ = some (.int .u32 xl) := block_cell HB7.out rfl
          go_wp2_with fail
          refine (CR.out (by trivial)).mono ?_
          rintro q w5 ⟨rfl, hb5⟩
          have H8 : Hid (Rz w (bt + 1) bo bt (op, ol) (zp, zl) (.slice aa a.length ca) (.slice (some ⟨b1, o1, none⟩) c.length cc) a c u8 a.reverse w5) := H7.out.on hb5
          have HB8 : Hid (w5.heap[bx]? = some (.cells #[.int .u64 xp, .int .u32 xl] 25 (0, 0))) := by
            show _ = _
            rw [hb5.block _ (Array.getElem?_eq_some_iff.1 HB7.out).1]
            exact HB7.out
          clear hb5 CR H7 HB7 x0 x1
          cases r
          · go_wp2_with fail
            go_roundw
            case rel => exact ⟨k + 1, by omega, by go_num, H8.out⟩
            case measure => simp [intOf]; omega
          · have g0 : w5.cell? ⟨bo, 0, none⟩ = some (.int .u64 op) := block_cell H8.out.z.o rfl
            have g1 : w5.cell? ⟨bo, 1, none⟩ = some (.int .u32 ol) := block_cell H8.out.z.o rfl
            have g2 : w5.cell? ⟨bt, 0, none⟩ = some (.int .u64 zp) := block_cell H8.out.t rfl
            have g3 : w5.cell? ⟨bt, 1, none⟩ = some (.int .u32 zl) := block_cell H8.out.t rfl
            have x0 : w5.cell? ⟨bx, 0, none⟩ = some (.int .u64 xp) := block_cell HB8.out rfl
            have x1 : w5.cell? ⟨bx, 1, none⟩ = some (.int .u32 xl) := block_cell HB8.out rfl
            have en := run_neq25 zp zl op ol
            obtain ⟨e, he⟩ : ∃ e, (zp == op && zl == ol) = e := ⟨_, rfl⟩
            have HEQ : Hid ((zp == op && zl == ol) = e) := he
            rw [he] at en
            clear he
            cases e
            · simp only [Bool.not_false] at en
              have hne : ((zp, zl) : Ts) ≠ (op, ol) := fun hh => by have h9 := HEQ.out; injection hh with h1 h2; subst h1; subst h2; simp at h9
              have CL : Hid (1 = 1 → Calls Try.prog 11 #[.agg #[.int .u64 xp, .int .u32 xl], .agg #[.int .u64 zp, .int .u32 zl]] w5 fun e w' => e = .returned (.bool false) ∧ Below w5.heap.size w5 w') := fun _ => by rw [← HD2.out.2 (xp, xl) HMX.out HRT.out hne]; exact less17 xp xl zp zl w5
              clear hne
              go_wp2_with fail
              refine (CL.out (by trivial)).mono ?_
              rintro q w6 ⟨rfl, hb6⟩
              have H9 : Hid (Rz w (bt + 1) bo bt (op, ol) (zp, zl) (.slice aa a.length ca) (.slice (some ⟨b1, o1, none⟩) c.length cc) a c u8 a.reverse w6) := H8.out.on hb6
              clear hb6 CL H8 HB8 x0 x1 g0 g1 g2 g3
              go_wp2_with fail
              go_roundw
              case rel => exact ⟨k + 1, by omega, by go_num, H9.out⟩
              case measure => simp [intOf]; omega
            · simp only [Bool.not_true] at en
              go_wp2_with fail
              go_roundw
              case rel => exact ⟨k + 1, by omega, by go_num, H8.out⟩
              case measure => simp [intOf]; omega
        · have hkl1 : ¬ (k : Int) < c.length := by omega
          obtain ⟨sv, scv, hv, -⟩ := (show TsAt _ _ a.reverse wr from rw_own HE.out.own).shape
          subst hv
          have HL : Hid (a.reverse.length = a.length) := List.length_reverse
          go_upto_region 21 with fail
          have cU : Hid (∀ d os, Calls Try.prog 8 #[.agg #[.int .u64 op, .int .u32 ol], .slice sv a.length scv, .slice ac c.length cc] (grow (redrawn wr d) os) fun q w'' => q = .returned (.agg #[.int .u64 zp, .int .u32 zl]) ∧ ∃ p : Regrown, w'' = grow (redrawn wr p.d) p.os) := fun d os => by
            have h9 := HE.out.on (below_regrown wr d os)
            have := CU.out a.reverse sv scv _ (fun x => List.mem_reverse) HL.out (rw_own h9.own) h9.z
            rw [HL.out] at this
            exact Calls.regrown_of this
          have g0 := cell_regrown (show wr.cell? ⟨bo, 0, none⟩ = some (.int .u64 op) from block_cell HE.out.z.o rfl)
          have g1 := cell_regrown (show wr.cell? ⟨bo, 1, none⟩ = some (.int .u32 ol) from block_cell HE.out.z.o rfl)
          have g2 := cell_regrown (show wr.cell? ⟨bt, 0, none⟩ = some (.int .u64 zp) from block_cell HE.out.t rfl)
          have g3 := cell_regrown (show wr.cell? ⟨bt, 1, none⟩ = some (.int .u32 zl) from block_cell HE.out.t rfl)
          have e1 := run_eql25 zp zl zp zl
          simp only [beq_self_eq_true, Bool.and_self] at e1
          refine wp_region_quiet_below (by kernel_rfl) (by kernel_rfl) (Veil.out ?_)
          repeat (refine vq_step (fun K hK => ?_); go_simp; refine hK _ ?_; clear hK K)
          (refine vq_step (fun K hK => ?_); go_simp; apply Exists.intro; refine ⟨fun _ => ?_, hK _ ?_⟩; exact cU.out _ _; clear hK K)
          repeat (refine vq_step (fun K hK => ?_); go_simp; refine hK _ ?_; clear hK K)
          refine vq_nil ?_
          intro _ hw'
          obtain ⟨⟨dq, osq⟩, hw''⟩ := hw'
          subst hw''
          have H9 : Hid (Below w.heap.size w (Sort.grow (redrawn wr dq) osq)) := HE.out.z.bel.trans ((below_regrown wr dq osq).mono HE.out.z.bel.size)
          generalize Sort.grow (redrawn wr dq) osq = w9 at *
          clear cU g0 g1 g2 g3 HE
          go_wp2_with fail
          go_ret
          exact ⟨rfl, H9.out⟩
    | succ m =>
      have hml : m < a.length := hm
      have hml1 : (m : Int) < a.length := by omega
      rw [show ((m + 1 : Nat) : Int) - 1 = m from by omega]
      obtain ⟨b1, o1, rfl, d0, d1⟩ := HE.out.z.a.el hml
      obtain ⟨x, hx⟩ : ∃ x, a.getD m (0, 0) = x := ⟨_, rfl⟩
      have HX : Hid (a.getD m (0, 0) = x) := hx
      have HTS : Hid _ := turn_step hml
      have HMX : Hid (x ∈ a ++ c) := by
        show _ ∈ _
        rw [← hx, show a.getD m (0, 0) = a[m] from by simp [List.getD, hml]]
        exact List.mem_append_left _ (List.getElem_mem hml)
      rw [hx] at d0 d1 HTS
      clear hx
      have hLn : ((a.drop (m + 1)).reverse.length + 1) * 16 ≤ 140737488355328 := by simp; omega
      generalize (a.drop (m + 1)).reverse = L at *
      obtain ⟨xp, xl⟩ := x
      dsimp only at d0 d1
      obtain ⟨sv, scv, hv, -⟩ := (show TsAt _ _ L wr from rw_own HE.out.own).shape
      subst hv
      have HOw : Hid (Owb (bt + 1) 25 2 16 (.slice sv L.length scv) L.length (rowC tsc L) (wr.heap.size + 1) (.slice (some ⟨wr.heap.size, 0, none⟩) 1 1) 1 (rowC tsc [(xp, xl)]) (wr.alloc (.cells #[.int .u64 xp, .int .u32 xl] 25))) := ts_ow (xp, xl) HE.out.own HE.out.big hLn
      go_wp2_with (at_builtin; refine wpList_append_rwb HOw.out Try.underlying26 hin hi0 hi1 hi2 rfl (by decide) (.tmp 47) (.tmp 52) rfl rfl rfl rfl ?_)
      intro v4 w4 hown hg hat
      have H7 : Hid (Rz w (bt + 1) bo bt (op, ol) (zp, zl) (.slice (some ⟨b1, o1, none⟩) a.length ca) (.slice ac c.length cc) a c v4 (a.drop m).reverse w4) := by
        have := (HE.out.on (al _)).grow (R := [(xp, xl)]) hown hg
        rw [HTS.out] at this
        exact this
      clear hown hg hat HOw HE d0 d1 hLn HTS
      go_upto_region 13 with fail
      obtain ⟨b2, o2, e2, d0, d1⟩ := H7.out.z.a.el hml
      cases e2
      rw [HX.out] at d0 d1
      dsimp only at d0 d1
      obtain ⟨r, hr⟩ : ∃ r, rightB xp xl = r := ⟨_, rfl⟩
      have HRT : Hid (rt (xp, xl) = r) := hr
      clear hr
      have cR : Hid (∀ d os, Calls Try.prog 10 #[.agg #[.int .u64 xp, .int .u32 xl]] (grow (redrawn w4 d) os) fun q w'' => q = .returned (.bool r) ∧ ∃ p : Regrown, w'' = grow (redrawn w4 p.d) p.os) := fun d os => Calls.regrown_of (by rw [← HRT.out]; exact right18 xp xl _)
      have g0 := cell_regrown (show w4.cell? ⟨bo, 0, none⟩ = some (.int .u64 op) from block_cell H7.out.z.o rfl)
      have g1 := cell_regrown (show w4.cell? ⟨bo, 1, none⟩ = some (.int .u32 ol) from block_cell H7.out.z.o rfl)
      have g2 := cell_regrown (show w4.cell? ⟨bt, 0, none⟩ = some (.int .u64 zp) from block_cell H7.out.t rfl)
      have g3 := cell_regrown (show w4.cell? ⟨bt, 1, none⟩ = some (.int .u32 zl) from block_cell H7.out.t rfl)
      have g4 := cell_regrown d0
      have g5 := cell_regrown d1
      cases r
      · refine wp_region_quiet_below (by kernel_rfl) (by kernel_rfl) (Veil.out ?_)
        repeat (refine vq_step (fun K hK => ?_); go_simp; refine hK _ ?_; clear hK K)
        (refine vq_step (fun K hK => ?_); go_simp; apply Exists.intro; refine ⟨fun _ => ?_, hK _ ?_⟩; exact cR.out _ _; clear hK K)
        repeat (refine vq_step (fun K hK => ?_); go_simp; refine hK _ ?_; clear hK K)
        refine vq_nil ?_
        intro _ hw'
        obtain ⟨⟨dq, osq⟩, hw''⟩ := hw'
        subst hw''
        have H8 : Hid (Rz w (bt + 1) bo bt (op, ol) (zp, zl) (.slice (some ⟨b1, o1, none⟩) a.length ca) (.slice ac c.length cc) a c v4 (a.drop m).reverse (Sort.grow (redrawn w4 dq) osq)) := H7.out.on (below_regrown w4 dq osq)
        generalize Sort.grow (redrawn w4 dq) osq = w8 at *
        clear cR g0 g1 g2 g3 g4 g5 H7
        go_wp2_with fail
        go_roundw
        case rel => exact ⟨m, by omega, by go_num, H8.out⟩
        case measure => simp [intOf]
      · have en := run_neq25 zp zl op ol
        obtain ⟨e, he⟩ : ∃ e, (zp == op && zl == ol) = e := ⟨_, rfl⟩
        have HEQ : Hid ((zp == op && zl == ol) = e) := he
        rw [he] at en
        clear he
        cases e
        · simp only [Bool.not_false] at en
          have hne : ((zp, zl) : Ts) ≠ (op, ol) := fun hh => by have h9 := HEQ.out; injection hh with h1 h2; subst h1; subst h2; simp at h9
          have cL : Hid (∀ d os, Calls Try.prog 11 #[.agg #[.int .u64 xp, .int .u32 xl], .agg #[.int .u64 zp, .int .u32 zl]] (grow (redrawn w4 d) os) fun q w'' => q = .returned (.bool false) ∧ ∃ p : Regrown, w'' = grow (redrawn w4 p.d) p.os) := fun d os => Calls.regrown_of (by rw [← HD2.out.2 (xp, xl) HMX.out HRT.out hne]; exact less17 xp xl zp zl _)
          clear hne
          refine wp_region_quiet_below (by kernel_rfl) (by kernel_rfl) (Veil.out ?_)
          repeat (refine vq_step (fun K hK => ?_); go_simp; refine hK _ ?_; clear hK K)
          (refine vq_step (fun K hK => ?_); go_simp; apply Exists.intro; refine ⟨fun _ => ?_, hK _ ?_⟩; exact cR.out _ _; clear hK K)
          repeat (refine vq_step (fun K hK => ?_); go_simp; refine hK _ ?_; clear hK K)
          (refine vq_step (fun K hK => ?_); go_simp; apply Exists.intro; refine ⟨fun _ => ?_, hK _ ?_⟩; exact cL.out _ _; clear hK K)
          repeat (refine vq_step (fun K hK => ?_); go_simp; refine hK _ ?_; clear hK K)
          refine vq_nil ?_
          intro _ hw'
          obtain ⟨⟨dq, osq⟩, hw''⟩ := hw'
          subst hw''
          have H8 : Hid (Rz w (bt + 1) bo bt (op, ol) (zp, zl) (.slice (some ⟨b1, o1, none⟩) a.length ca) (.slice ac c.length cc) a c v4 (a.drop m).reverse (Sort.grow (redrawn w4 dq) osq)) := H7.out.on (below_regrown w4 dq osq)
          generalize Sort.grow (redrawn w4 dq) osq = w8 at *
          clear cR g0 g1 g2 g3 g4 g5 H7
          go_wp2_with fail
          go_roundw
          case rel => exact ⟨m, by omega, by go_num, H8.out⟩
          case measure => simp [intOf]
        · simp only [Bool.not_true] at en
          refine wp_region_quiet_below (by kernel_rfl) (by kernel_rfl) (Veil.out ?_)
          repeat (refine vq_step (fun K hK => ?_); go_simp; refine hK _ ?_; clear hK K)
          (refine vq_step (fun K hK => ?_); go_simp; apply Exists.intro; refine ⟨fun _ => ?_, hK _ ?_⟩; exact cR.out _ _; clear hK K)
          repeat (refine vq_step (fun K hK => ?_); go_simp; refine hK _ ?_; clear hK K)
          refine vq_nil ?_
          intro _ hw'
          obtain ⟨⟨dq, osq⟩, hw''⟩ := hw'
          subst hw''
          have H8 : Hid (Rz w (bt + 1) bo bt (op, ol) (zp, zl) (.slice (some ⟨b1, o1, none⟩) a.length ca) (.slice ac c.length cc) a c v4 (a.drop m).reverse (Sort.grow (redrawn w4 dq) osq)) := H7.out.on (below_regrown w4 dq osq)
          generalize Sort.grow (redrawn w4 dq) osq = w8 at *
          clear cR g0 g1 g2 g3 g4 g5 H7
          go_wp2_with fail
          go_roundw
          case rel => exact ⟨m, by omega, by go_num, H8.out⟩
          case measure => simp [intOf]
end Go.Proofs.Ytgmgceacdmcmlaa
