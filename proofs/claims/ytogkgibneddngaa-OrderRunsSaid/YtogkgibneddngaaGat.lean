/-
  Contract of gather: the tree's keys of a range, behind those that are there.
-/
import Derived.Test.YtogkgibneddngaaGatp
import Derived.Test.YtogkgibneddngaaKs
import Derived.Test.YtogkgibneddngaaNode
namespace Go.Proofs.Ytogkgibneddngaa
open Go.RowKit

theorem Kept.of_below' {B : Nat} {w w' : World} (h : Below B w w') : Kept (fun i => B ≤ i) w w' := ⟨h.os, h.tape, h.output, h.size, fun k _ hn => h.block k (by omega)⟩
theorem TrAt.below {Y : Lay} {t : Tr} {B : Nat} {w w' : World} (h : TrAt Y t w) (hb : Below B w w') (hB : ∀ b ∈ t.blocks, b < B) : TrAt Y t w' := TrAt.kept (Kept.of_below' hb) h (fun b hb' e => by have := hB b hb'; omega)

set_option maxHeartbeats 3200000 in
set_option maxRecDepth 100000 in
theorem gather24 (B : Nat) (lo hi : List UInt8) (limit : Int) (t : Tr) : ∀ (K : List (List UInt8)) (vs : Value) (w : World), TrAt nl t w → (∀ b ∈ t.blocks, b < B) → Srt t.toL → B ≤ w.heap.size → w.ownsRow B 9 1 vs K.length (kc K) → K.length + t.toL.length < 1000000 →
    Calls Try.prog 24 #[t.ptr, vs, .string (bs lo), .string (bs hi), .int .i64 limit] w fun e w' => ∃ v', e = .returned v' ∧ w'.ownsRow B 9 1 v' (gatF limit.toNat K (rangeF lo hi t.toL)).length (kc (gatF limit.toNat K (rangeF lo hi t.toL))) ∧ Below B w w' := by
  obtain ⟨i0, hin, hi0, hi1, hi2⟩ := info_parts info9
  induction t using Tr.ind with
  | nil =>
    intro K vs w _ _ _ _ ho _
    obtain ⟨sa, sc, rfl, -, -, -, -⟩ := rw_own ho
    have HO : Hid _ := ho
    clear ho hin hi0 hi1 hi2
    simp only [Tr.toL, rangeF, List.map_nil, List.filter_nil, gat_nil, Tr.ptr]
    go_enter Try.func24, Try.ntmps24
    go_wp2_with fail
    go_ret
    exact ⟨_, rfl, HO.out, Below.refl _ _⟩
  | node b l k u x r ihl ihr =>
    intro K vs w ha hB hs hBw ho hf
    obtain ⟨sa, sc, rfl, -, -, -, -⟩ := rw_own ho
    by_cases hroom : limit ≤ K.length
    · have HX : Hid (gatF limit.toNat K (rangeF lo hi (Tr.node b l k u x r).toL) = K) := gat_full (by omega) _
      rw [HX.out]
      have HO : Hid _ := ho
      clear ho HX ha hB hs hBw hf ihl ihr hin hi0 hi1 hi2
      simp only [Tr.ptr]
      go_enter Try.func24, Try.ntmps24
      go_wp2_with fail
      go_ret
      exact ⟨_, rfl, HO.out, Below.refl _ _⟩
    · obtain ⟨hs1, hs2, _, _⟩ := srt_parts hs
      have hf' := hf
      simp only [Tr.toL, List.length_append, List.length_cons] at hf'
      have hr' : ¬ limit ≤ (K.length : Int) := by omega
      obtain ⟨c0, -, c2, -, -⟩ := nd_cells ha.1
      have q1 := bl lo k
      have q2 := bl k lo
      have q3 := bl k hi
      have q4 : (bs hi).toList.isEmpty = hi.isEmpty := by rw [bs_list]
      have HA : Hid (∀ w', Below B w w' → TrAt nl (.node b l k u x r) w') := fun w' hb => ha.below hb hB
      have CL : Hid (1 = 1 → Calls Try.prog 24 #[l.ptr, .slice sa K.length sc, .string (bs lo), .string (bs hi), .int .i64 limit] w fun e w' => ∃ v', e = .returned v' ∧ w'.ownsRow B 9 1 v' (gatF limit.toNat K (rangeF lo hi l.toL)).length (kc (gatF limit.toNat K (rangeF lo hi l.toL))) ∧ Below B w w') :=
        fun _ => ihl K _ w ha.2.1 (fun i hi => hB i (by simp [Tr.blocks, hi])) hs1 hBw ho (by omega)
      have CR : Hid (∀ (K2 : List (List UInt8)) (v2 : Value) (w2 : World), Below B w w2 → w2.ownsRow B 9 1 v2 K2.length (kc K2) → K2.length + r.toL.length < 1000000 → Calls Try.prog 24 #[r.ptr, v2, .string (bs lo), .string (bs hi), .int .i64 limit] w2 fun e w' => ∃ v', e = .returned v' ∧ w'.ownsRow B 9 1 v' (gatF limit.toNat K2 (rangeF lo hi r.toL)).length (kc (gatF limit.toNat K2 (rangeF lo hi r.toL))) ∧ Below B w2 w') :=
        fun K2 v2 w2 hb ho2 hf2 => ihr K2 v2 w2 (HA.out w2 hb).2.2 (fun i hi => hB i (by simp [Tr.blocks, hi])) hs2 (Nat.le_trans hBw hb.size) ho2 hf2
      have HZ1 : Hid (ltK lo k = false → gatF limit.toNat K (rangeF lo hi l.toL) = K) := fun h => by rw [below_lo hs h, gat_nil]
      have HZ2 : Hid (hi.isEmpty = false → ltK k hi = false → gatF limit.toNat K (rangeF lo hi (Tr.node b l k u x r).toL) = gatF limit.toNat K (rangeF lo hi l.toL)) := fun h0 h => gat_stop hs h0 h
      have HZ3 : Hid ((hi.isEmpty || ltK k hi) = true → gatF limit.toNat K (rangeF lo hi (Tr.node b l k u x r).toL) = gatF limit.toNat (if ltK k lo = false ∧ (gatF limit.toNat K (rangeF lo hi l.toL)).length < limit.toNat then gatF limit.toNat K (rangeF lo hi l.toL) ++ [k] else gatF limit.toNat K (rangeF lo hi l.toL)) (rangeF lo hi r.toL)) := fun h => gat_on h
      have HO : Hid (w.ownsRow B 9 1 (.slice sa K.length sc) K.length (kc K)) := ho
      have HF : Hid ((gatF limit.toNat K (rangeF lo hi l.toL)).length + 1 + r.toL.length < 1000000) := by
        have := gat_len limit.toNat K (rangeF lo hi l.toL)
        have := range_len lo hi l.toL
        show _ < _
        omega
      clear ihl ihr ha hB hs hf hs1 hs2 hf' ho hroom
      generalize gatF limit.toNat K (rangeF lo hi (Tr.node b l k u x r).toL) = Y at *
      generalize gatF limit.toNat K (rangeF lo hi l.toL) = K1 at *
      obtain ⟨lp, hlp⟩ : ∃ lp, l.ptr = lp := ⟨_, rfl⟩
      rw [hlp] at c2 CL
      clear hlp
      simp only [Tr.ptr]
      generalize ltK lo k = z1 at *
      generalize ltK k lo = z2 at *
      generalize ltK k hi = z3 at *
      generalize hi.isEmpty = z4 at *
      go_enter Try.func24, Try.ntmps24
      go_upto_if 25 with fail
      go_cut [1] (fun v wc => ∃ sa sc, v = .slice sa K1.length sc ∧ Hid (wc.ownsRow B 9 1 v K1.length (kc K1) ∧ Below B w wc))
      case first =>
        cases z1
        · have h1 := HZ1.out rfl
          subst h1
          go_wp2_with fail
          go_meet
          exact ⟨sa, sc, rfl, HO.out, Below.refl _ _⟩
        · go_wp2_with fail
          refine (CL.out (by trivial)).mono ?_
          rintro e w1 ⟨v1, rfl, ho1, hb1⟩
          obtain ⟨sa1, sc1, rfl, -, -, -, -⟩ := rw_own ho1
          have H1 : Hid _ := And.intro ho1 hb1
          clear ho1 hb1
          go_wp2_with fail
          go_meet
          exact ⟨sa1, sc1, rfl, H1.out⟩
      case rest =>
        obtain ⟨sa1, sc1, rfl, H1⟩ := hcut
        obtain ⟨d0, -, -, -, -⟩ := nd_cells (HA.out wc H1.out.2).1
        obtain ⟨rp, hrp⟩ : ∃ rp, r.ptr = rp := ⟨_, rfl⟩
        have HR : Hid (∀ w', Below B w w' → w'.cell? ⟨b, 3, none⟩ = some rp) := fun w' hb => by rw [← hrp]; exact (nd_cells (HA.out w' hb).1).2.2.2.1
        rw [hrp] at CR
        clear hrp c0 c2 CL HO HZ1 HA
        by_cases hstop : z4 = false ∧ z3 = false
        · obtain ⟨rfl, rfl⟩ := hstop
          have h := HZ2.out rfl rfl
          subst h
          go_wp2_with fail
          go_ret
          exact ⟨_, rfl, H1.out⟩
        · have HY : Hid _ := HZ3.out (by cases z4 <;> cases z3 <;> simp at hstop ⊢)
          have harms : z4 = true ∨ z4 = false ∧ z3 = true := by cases z4 <;> cases z3 <;> simp at hstop ⊢
          clear hstop HZ2 HZ3
          have CC : Hid (∀ (K2 : List (List UInt8)) (v2 : Value) (w2 : World), K2 = (if z2 = false ∧ K1.length < limit.toNat then K1 ++ [k] else K1) → w2.ownsRow B 9 1 v2 K2.length (kc K2) → Below B w w2 → Calls Try.prog 24 #[rp, v2, .string (bs lo), .string (bs hi), .int .i64 limit] w2 fun e w' => ∃ v', e = .returned v' ∧ w'.ownsRow B 9 1 v' Y.length (kc Y) ∧ Below B w w') := fun K2 v2 w2 hK2 ho hb => by
            have hl2 : K2.length + r.toL.length < 1000000 := by
              have := HF.out
              rw [hK2]
              split <;> simp <;> omega
            refine (CR.out K2 _ _ hb ho hl2).mono ?_
            rintro e w' ⟨v', rfl, ho', hb'⟩
            rw [HY.out, ← hK2]
            exact ⟨v', rfl, ho', hb.trans hb'⟩
          clear CR HY
          rcases harms with rfl | ⟨rfl, rfl⟩
          all_goals
            cases z2
            · by_cases hlt : (K1.length : Int) < limit
              · have HOw : Hid (Ow B 9 1 (.slice sa1 K1.length sc1) K1.length (kc K1) (wc.heap.size + 1) (.slice (some ⟨wc.heap.size, 0, none⟩) 1 1) 1 (kc [k]) (wc.alloc (.cells #[.string (bs k)] 9))) := ⟨World.ownsRow.alloc H1.out.1 _, ks_one wc k, kc_one _, Nat.le_trans hBw (Nat.le_trans H1.out.2.size (by simp)), by have := HF.out; omega⟩
                have HK : Hid (K1 ++ [k] = (if false = false ∧ K1.length < limit.toNat then K1 ++ [k] else K1)) := (if_pos ⟨rfl, by omega⟩).symm
                go_wp2_with (at_builtin; refine wpList_append_rw HOw.out Try.underlying38 hin hi0 hi1 hi2 rfl (by decide) (by decide) (.tmp 58) (.tmp 63) rfl rfl rfl rfl ?_)
                intro v' w2 hown hg hat
                have HB2 : Hid (Below B w w2) := below_own (H1.out.2.alloc (Nat.le_trans hBw H1.out.2.size) _) HOw.out.size HOw.out.own hg
                obtain ⟨sa2, sc2, rfl, -, -, -, -⟩ := rw_own hown
                have CR2 : Hid (1 = 1 → _) := fun _ => CC.out (K1 ++ [k]) (.slice sa2 (K1.length + 1) sc2) w2 HK.out (by rw [kc_append, List.length_append]; exact hown) HB2.out
                have d3 := HR.out _ HB2.out
                clear hown hg hat HOw HK HB2 CC
                go_wp2_with fail
                refine (CR2.out (by trivial)).mono ?_
                rintro e w3 ⟨v3, rfl, ho3, hb3⟩
                obtain ⟨sa3, sc3, rfl, -, -, -, -⟩ := rw_own ho3
                have H3 : Hid _ := And.intro ho3 hb3
                clear ho3 hb3 CR2
                go_wp2_with fail
                go_ret
                exact ⟨_, rfl, H3.out⟩
              · have hge : ¬ (K1.length : Int) < limit := hlt
                have HK : Hid (K1 = (if false = false ∧ K1.length < limit.toNat then K1 ++ [k] else K1)) := (if_neg (by omega)).symm
                have CR2 : Hid (1 = 1 → _) := fun _ => CC.out K1 (.slice sa1 K1.length sc1) wc HK.out H1.out.1 H1.out.2
                have d3 := HR.out _ H1.out.2
                clear hlt HK CC
                go_wp2_with fail
                refine (CR2.out (by trivial)).mono ?_
                rintro e w3 ⟨v3, rfl, ho3, hb3⟩
                obtain ⟨sa3, sc3, rfl, -, -, -, -⟩ := rw_own ho3
                have H3 : Hid _ := And.intro ho3 hb3
                clear ho3 hb3 CR2
                go_wp2_with fail
                go_ret
                exact ⟨_, rfl, H3.out⟩
            · have CR2 : Hid (1 = 1 → _) := fun _ => CC.out K1 (.slice sa1 K1.length sc1) wc (by simp) H1.out.1 H1.out.2
              have d3 := HR.out _ H1.out.2
              clear CC
              go_wp2_with fail
              refine (CR2.out (by trivial)).mono ?_
              rintro e w3 ⟨v3, rfl, ho3, hb3⟩
              obtain ⟨sa3, sc3, rfl, -, -, -, -⟩ := rw_own ho3
              have H3 : Hid _ := And.intro ho3 hb3
              clear ho3 hb3 CR2
              go_wp2_with fail
              go_ret
              exact ⟨_, rfl, H3.out⟩
end Go.Proofs.Ytogkgibneddngaa
