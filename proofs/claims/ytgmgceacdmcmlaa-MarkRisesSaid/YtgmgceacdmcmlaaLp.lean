/-
  The landed mark's Least.
-/
import Derived.Test.YtgmgceacdmcmlaaLr
namespace Go.Proofs.Ytgmgceacdmcmlaa
open Go.RowKit Go.Sort

set_option maxHeartbeats 3200000 in
set_option maxRecDepth 100000 in
theorem least6 (l : List Ts) (ao : Option Addr) (cp : Nat) (w : World) (hws : TsAt w.heap.size (.slice ao l.length cp) l w) : Calls Try.prog 6 #[.slice ao l.length cp] w fun r w' => r = .returned (.tuple #[.agg #[.int .u64 (oT (leastF l)).1, .int .u32 (oT (leastF l)).2], .bool (leastF l).isSome]) ∧ Below w.heap.size w w' := by
  obtain ⟨ao', cap, he, hla, hma⟩ := hws.shape
  simp only [Value.slice.injEq, true_and] at he
  obtain ⟨rfl, rfl⟩ := he
  have H0 : Hid _ := lz_new hws
  go_enter Try.func6, Try.ntmps6
  go_upto_region 2 with fail
  obtain ⟨W0, hW0⟩ : ∃ W0, (w.alloc (.cells #[.int .u64 0, .int .u32 0] 25)).alloc (.cells #[.int .u64 0, .int .u32 0] 25) = W0 := ⟨_, rfl⟩
  obtain ⟨bx, hbx⟩ : ∃ b, w.heap.size = b := ⟨_, rfl⟩
  obtain ⟨bt, hbt⟩ : ∃ b, w.heap.size + 1 = b := ⟨_, rfl⟩
  rw [hW0, hbt] at H0
  rw [hW0, hbt, hbx]
  have HZ : Hid (Lz w bx bt (0, 0) (.slice ao l.length cp) l W0) := by rw [← hbx]; exact H0.out
  clear H0 hW0 hbx hbt hws
  go_wp2_with fail
  go_loopw [5, 10] (fun f i wr => ∃ m : Nat, m ≤ l.length ∧ i = .int .i64 m ∧ f = .bool (leastF (l.take m)).isSome ∧ Hid (Lz w bx bt (oT (leastF (l.take m))) (.slice ao l.length cp) l wr)) (fun _ i _ => l.length - (intOf i).toNat)
  case atStart => exact ⟨0, Nat.zero_le _, rfl, rfl, HZ.out⟩
  case round =>
    obtain ⟨m, hm, rfl, rfl, HE⟩ := hrel
    clear HZ
    by_cases hml : m < l.length
    · have hml1 : (m : Int) < l.length := by omega
      have HM : Hid (m + 1 ≤ l.length) := hml
      have HST : Hid _ := least_take hml
      obtain ⟨b1, o1, rfl, d0, d1⟩ := HE.out.ws.el hml
      obtain ⟨x, hxx⟩ : ∃ x, l.getD m (0, 0) = x := ⟨_, rfl⟩
      rw [hxx] at d0 d1 HST
      clear hxx
      generalize leastF (l.take m) = o at *
      obtain ⟨xp, xl⟩ := x
      dsimp only at d0 d1
      obtain ⟨r, hr⟩ : ∃ r, rightB xp xl = r := ⟨_, rfl⟩
      have HRT : Hid (rt (xp, xl) = r) := hr
      have HN : Hid (Lz w bx bt (oT o) (.slice (some ⟨b1, o1, none⟩) l.length cp) l (wr.alloc (.cells #[.int .u64 xp, .int .u32 xl] 25)) ∧ (wr.alloc (.cells #[.int .u64 xp, .int .u32 xl] 25)).heap[wr.heap.size]? = some (.cells #[.int .u64 xp, .int .u32 xl] 25 (0, 0)) ∧ wr.heap.size ≠ bt) := ⟨HE.out.on (al _), heap_alloc_new wr _, fun h => by have := (Array.getElem?_eq_some_iff.1 HE.out.y).1; omega⟩
      obtain ⟨fo, hfo⟩ : ∃ fo, o.isSome = fo := ⟨_, rfl⟩
      have HFO : Hid (o.isSome = fo) := hfo
      rw [hfo]
      clear hfo
      go_upto_region 6 with fail
      obtain ⟨w1, hw1⟩ : ∃ w1, wr.alloc (.cells #[.int .u64 xp, .int .u32 xl] 25) = w1 := ⟨_, rfl⟩
      obtain ⟨bb, hbb⟩ : ∃ b, wr.heap.size = b := ⟨_, rfl⟩
      rw [hw1, hbb] at HN
      rw [hw1, hbb]
      have H1 : Hid (Lz w bx bt (oT o) (.slice (some ⟨b1, o1, none⟩) l.length cp) l w1) := HN.out.1
      have HB1 : Hid (w1.heap[bb]? = some (.cells #[.int .u64 xp, .int .u32 xl] 25 (0, 0))) := HN.out.2.1
      have HNE : Hid (bb ≠ bt) := HN.out.2.2
      have CR : Hid (1 = 1 → Calls Try.prog 10 #[.agg #[.int .u64 xp, .int .u32 xl]] w1 fun q w'' => q = .returned (.bool r) ∧ Below w1.heap.size w1 w'') := fun _ => by rw [← hr]; exact right18 xp xl _
      clear hr d0 d1 HE HN hw1 hbb
      have c0 : w1.cell? ⟨bb, 0, none⟩ = some (.int .u64 xp) := block_cell HB1.out rfl
      have c1 : w1.cell? ⟨bb, 1, none⟩ = some (.int .u32 xl) := block_cell HB1.out rfl
      go_wp2_with fail
      refine (CR.out (by trivial)).mono ?_
      rintro e w2 ⟨rfl, hb2⟩
      have H2 : Hid (Lz w bx bt (oT o) (.slice (some ⟨b1, o1, none⟩) l.length cp) l w2) := H1.out.on hb2
      have HB2 : Hid (w2.heap[bb]? = some (.cells #[.int .u64 xp, .int .u32 xl] 25 (0, 0))) := by show _ = _; rw [hb2.block _ (Array.getElem?_eq_some_iff.1 HB1.out).1]; exact HB1.out
      clear hb2 CR c0 c1 H1 HB1
      cases r
      · have HL : Hid (leastS o (xp, xl) = o) := by show _ = _; unfold leastS; rw [HRT.out]; rfl
        rw [← HFO.out]
        go_wp2_with fail
        go_roundw
        case rel => exact ⟨m + 1, HM.out, by go_num, (by rw [HST.out, HL.out]; try rfl), by rw [HST.out, HL.out]; exact H2.out⟩
        case measure => simp [intOf]; omega
      · have k0 : w2.cell? ⟨bb, 0, none⟩ = some (.int .u64 xp) := block_cell HB2.out rfl
        have k1 : w2.cell? ⟨bb, 1, none⟩ = some (.int .u32 xl) := block_cell HB2.out rfl
        cases o with
        | none =>
          have HL : Hid (leastS none (xp, xl) = some (xp, xl)) := by show _ = _; unfold leastS; rw [HRT.out]; rfl
          cases HFO.out
          have q0 : w2.cell? ⟨bt, 0, none⟩ = some (.int .u64 (oT none).1) := block_cell H2.out.y rfl
          have q1 : w2.cell? ⟨bt, 1, none⟩ = some (.int .u32 (oT none).2) := block_cell H2.out.y rfl
          have f0 : w2.frozen? ⟨bt, 0, none⟩ = false := block_frozen H2.out.y 0
          have f1 : w2.frozen? ⟨bt, 1, none⟩ = false := block_frozen H2.out.y 1
          have H3 : Hid _ := H2.out.put (xp, xl)
          go_wp2_with fail
          go_roundw
          case rel => exact ⟨m + 1, HM.out, by go_num, (by rw [HST.out, HL.out]; try rfl), by rw [HST.out, HL.out]; exact H3.out⟩
          case measure => simp [intOf]; omega
        | some s =>
          obtain ⟨sp, sl⟩ := s
          cases HFO.out
          obtain ⟨q, hq⟩ : ∃ q, lessB xp xl sp sl = q := ⟨_, rfl⟩
          have HLT : Hid (lt (xp, xl) (sp, sl) = q) := hq
          have CL : Hid (1 = 1 → Calls Try.prog 11 #[.agg #[.int .u64 xp, .int .u32 xl], .agg #[.int .u64 sp, .int .u32 sl]] w2 fun e w'' => e = .returned (.bool q) ∧ Below w2.heap.size w2 w'') := fun _ => by rw [← hq]; exact less17 xp xl sp sl _
          clear hq
          have t0 : w2.cell? ⟨bt, 0, none⟩ = some (.int .u64 sp) := block_cell H2.out.y rfl
          have t1 : w2.cell? ⟨bt, 1, none⟩ = some (.int .u32 sl) := block_cell H2.out.y rfl
          go_wp2_with fail
          refine (CL.out (by trivial)).mono ?_
          rintro e w3 ⟨rfl, hb3⟩
          have H3 : Hid (Lz w bx bt (oT (some (sp, sl))) (.slice (some ⟨b1, o1, none⟩) l.length cp) l w3) := H2.out.on hb3
          have HB3 : Hid (w3.heap[bb]? = some (.cells #[.int .u64 xp, .int .u32 xl] 25 (0, 0))) := by show _ = _; rw [hb3.block _ (Array.getElem?_eq_some_iff.1 HB2.out).1]; exact HB2.out
          clear hb3 CL k0 k1 t0 t1 H2 HB2
          cases q
          · have HL : Hid (leastS (some (sp, sl)) (xp, xl) = some (sp, sl)) := by show _ = _; unfold leastS; rw [HRT.out]; simp only [if_true]; rw [HLT.out]; rfl
            go_wp2_with fail
            go_roundw
            case rel => exact ⟨m + 1, HM.out, by go_num, (by rw [HST.out, HL.out]; try rfl), by rw [HST.out, HL.out]; exact H3.out⟩
            case measure => simp [intOf]; omega
          · have HL : Hid (leastS (some (sp, sl)) (xp, xl) = some (xp, xl)) := by show _ = _; unfold leastS; rw [HRT.out]; simp only [if_true]; rw [HLT.out]; rfl
            have k0 : w3.cell? ⟨bb, 0, none⟩ = some (.int .u64 xp) := block_cell HB3.out rfl
            have k1 : w3.cell? ⟨bb, 1, none⟩ = some (.int .u32 xl) := block_cell HB3.out rfl
            have q0 : w3.cell? ⟨bt, 0, none⟩ = some (.int .u64 (oT (some (sp, sl))).1) := block_cell H3.out.y rfl
            have q1 : w3.cell? ⟨bt, 1, none⟩ = some (.int .u32 (oT (some (sp, sl))).2) := block_cell H3.out.y rfl
            have f0 : w3.frozen? ⟨bt, 0, none⟩ = false := block_frozen H3.out.y 0
            have f1 : w3.frozen? ⟨bt, 1, none⟩ = false := block_frozen H3.out.y 1
            have H4 : Hid _ := H3.out.put (xp, xl)
            go_wp2_with fail
            go_roundw
            case rel => exact ⟨m + 1, HM.out, by go_num, (by rw [HST.out, HL.out]; try rfl), by rw [HST.out, HL.out]; exact H4.out⟩
            case measure => simp [intOf]; omega
    · have hml1 : ¬ (m : Int) < l.length := by omega
      have HTL : Hid (leastF (l.take m) = leastF l) := by show _ = _; rw [List.take_of_length_le (by omega)]
      rw [HTL.out] at HE
      rw [HTL.out]
      obtain ⟨fo, hfo⟩ : ∃ fo, (leastF l).isSome = fo := ⟨_, rfl⟩
      obtain ⟨t, ht⟩ : ∃ t, oT (leastF l) = t := ⟨_, rfl⟩
      have HFO : Hid ((leastF l).isSome = fo) := hfo
      have HT : Hid (oT (leastF l) = t) := ht
      rw [hfo]
      rw [ht] at HE
      clear hfo ht
      have p0 : wr.cell? ⟨bt, 0, none⟩ = some (.int .u64 t.1) := block_cell HE.out.y rfl
      have p1 : wr.cell? ⟨bt, 1, none⟩ = some (.int .u32 t.2) := block_cell HE.out.y rfl
      have y0 : wr.cell? ⟨bx, 0, none⟩ = some (.int .u64 0) := block_cell HE.out.x rfl
      have y1 : wr.cell? ⟨bx, 1, none⟩ = some (.int .u32 0) := block_cell HE.out.x rfl
      have z0 : wr.frozen? ⟨bx, 0, none⟩ = false := block_frozen HE.out.x 0
      have z1 : wr.frozen? ⟨bx, 1, none⟩ = false := block_frozen HE.out.x 1
      have hI : ((wr.setCell ⟨bx, 0, none⟩ (.int .u64 t.1)).setCell ⟨bx, 1, none⟩ (.int .u32 t.2)).heap[bx]? = some (.cells #[.int .u64 t.1, .int .u32 t.2] 25 (0, 0)) := by
        have := block_set (j := 1) (.int .u32 t.2) (block_set (j := 0) (.int .u64 t.1) HE.out.x)
        simpa using this
      have HI : Hid _ := hI
      have HB : Hid (Below w.heap.size w ((wr.setCell ⟨bx, 0, none⟩ (.int .u64 t.1)).setCell ⟨bx, 1, none⟩ (.int .u32 t.2))) := (HE.out.bel.setCell (p := ⟨bx, 0, none⟩) HE.out.lx _).setCell (p := ⟨bx, 1, none⟩) HE.out.lx _
      clear hI
      go_wp2_with fail
      have r0 : ((wr.setCell ⟨bx, 0, none⟩ (.int .u64 t.1)).setCell ⟨bx, 1, none⟩ (.int .u32 t.2)).cell? ⟨bx, 0, none⟩ = some (.int .u64 t.1) := block_cell HI.out rfl
      have r1 : ((wr.setCell ⟨bx, 0, none⟩ (.int .u64 t.1)).setCell ⟨bx, 1, none⟩ (.int .u32 t.2)).cell? ⟨bx, 1, none⟩ = some (.int .u32 t.2) := block_cell HI.out rfl
      refine bodyPost_ret (v := .tuple #[.agg #[.int .u64 t.1, .int .u32 t.2], .bool fo]) (by simp [results, Try.results6, go_sem, r0, r1]) rfl ?_
      exact ⟨by rw [HFO.out, HT.out], HB.out⟩
end Go.Proofs.Ytgmgceacdmcmlaa
