/-
  The document's Set.
-/
import Derived.Test.YtkadaoebehgkbaaRt
namespace Go.Proofs.Ytkadaoebehgkbaa
open Go.RowKit

theorem vd_ow' {base n : Nat} {va : Value} {l : Bk} {w : World} (x : Vd) (ho : w.ownsRow base 37 8 va n (rowC vdc l)) (hb : base ≤ w.heap.size) (hl : n < 1000000) :
    Ow base 37 8 va n (rowC vdc l) (w.heap.size + 1) (.slice (some ⟨w.heap.size, 0, none⟩) 1 1) 1 (rowC vdc [x]) (w.alloc (.cells (vdc x).toArray 37)) :=
  ⟨World.ownsRow.alloc ho _, row_one vdc 8 vdc_len x 37 w (fun j u hj => block_cell (heap_alloc_new w _) (by simpa using hj)), rowC_cells vdc vdc_one _, Nat.le_trans hb (by simp), by omega⟩
theorem set_bad {v : Vd} {K : Bk} (h : okV v = false) : setB v K = (K, 1) := by
  unfold setB
  rw [if_neg (by simp [h])]
theorem set_th {v : Vd} {K : Bk} (hs : SrtV K) (h : okV v = true) (ht : thB v.c v.n K = true) : setB v K = (K, if eqV { K.getD (plN v.c v.n K) dv with dn := v.dn } v then 0 else 40) := by
  unfold setB
  rw [if_pos h, get_th hs, if_pos ht]
theorem set_no {v : Vd} {K : Bk} (hs : SrtV K) (h : okV v = true) (ht : thB v.c v.n K = false) : setB v K = (K.take (plN v.c v.n K) ++ v :: K.drop (plN v.c v.n K), 0) := by
  unfold setB
  rw [if_pos h, get_th hs, if_neg (by simp [ht]), ins_pl]

set_option maxHeartbeats 3200000 in
set_option maxRecDepth 100000 in
theorem set10 (B rb : Nat) (sl : Value) (K : Bk) (v : Vd) (w : World) (h : RbAt B rb sl K w) (hl : K.length < 100000) :
    Calls Try.prog 10 #[.pointer (some ⟨rb, 0, none⟩), .agg #[.int .u32 v.c, .int .u32 v.n, .int .u64 v.sp, .int .u32 v.sl, .int .u64 v.ap, .int .u32 v.al, .int .u8 v.pt, .bool v.dn]] w fun e w' => e = .returned (.int .i64 (setB v K).2) ∧ RbTo B rb sl (setB v K).1 w w' := by
  obtain ⟨i0, hin, hi0, hi1, hi2⟩ := info_parts info37
  obtain ⟨vc, vn, sp, sq, ap, aq, pt, dn⟩ := v
  have H : Hid (RbAt B rb sl K w) := h
  have CP : Hid (∀ W, Below w.heap.size w W → _) := fun W hb => place23 B rb _ K vc vn W (h.on hb) hl
  have CC : Hid (∀ W : World, Calls Try.prog 21 #[.agg #[.int .u32 vc, .int .u32 vn, .int .u64 sp, .int .u32 sq, .int .u64 ap, .int .u32 aq, .int .u8 pt, .bool dn]] W fun e w' => e = .returned (.bool (cmB (Vd.mk vc vn sp sq ap aq pt dn))) ∧ Below W.heap.size W w') := fun W => com22 (Vd.mk vc vn sp sq ap aq pt dn) W
  have CR1 : Hid (∀ (W : World), _) := fun W => rightR sp sq W
  have CR : Hid (∀ (W : World), _) := fun W => rightR ap aq W
  have HY1 : Hid (okV (Vd.mk vc vn sp sq ap aq pt dn) = false → _) := fun h => set_bad (K := K) h
  have HY2 : Hid (okV (Vd.mk vc vn sp sq ap aq pt dn) = true → thB vc vn K = true → setB (Vd.mk vc vn sp sq ap aq pt dn) K = (K, if eqV { K.getD (plN vc vn K) dv with dn := dn } (Vd.mk vc vn sp sq ap aq pt dn) then 0 else 40)) := fun ha hb => set_th h.ok ha hb
  have HY3 : Hid (okV (Vd.mk vc vn sp sq ap aq pt dn) = true → thB vc vn K = false → setB (Vd.mk vc vn sp sq ap aq pt dn) K = (K.take (plN vc vn K) ++ (Vd.mk vc vn sp sq ap aq pt dn) :: K.drop (plN vc vn K), 0)) := fun ha hb => set_no h.ok ha hb
  have HK : Hid (okV (Vd.mk vc vn sp sq ap aq pt dn) = (rightB sp sq && rightB ap aq && (cmB (Vd.mk vc vn sp sq ap aq pt dn) || (pt == 0 && !dn)))) := rfl
  have HP : Hid (plN vc vn K ≤ K.length) := plN_le vc vn K
  have HLt : Hid (thB vc vn K = true → plN vc vn K < K.length) := fun h => (thB_lt h).1
  have HSr : Hid (SrtV (setB (Vd.mk vc vn sp sq ap aq pt dn) K).1) := set_srt h.ok _
  have HL : Hid _ := hl
  have h2 := h.two
  clear h hl
  generalize setB (Vd.mk vc vn sp sq ap aq pt dn) K = y at *
  generalize okV (Vd.mk vc vn sp sq ap aq pt dn) = ok at *
  generalize cmB (Vd.mk vc vn sp sq ap aq pt dn) = zm at *
  generalize plN vc vn K = m at *
  generalize thB vc vn K = z at *
  dsimp only
  go_enter Try.func10, Try.ntmps10
  go_wp2_with fail
  obtain ⟨W0, hW0⟩ : ∃ W0, w.alloc (.cells #[.int .u32 vc, .int .u32 vn, .int .u64 sp, .int .u32 sq, .int .u64 ap, .int .u32 aq, .int .u8 pt, .bool dn] 37) = W0 := ⟨_, rfl⟩
  have HB0 : Hid (Below w.heap.size w W0 ∧ W0.heap[w.heap.size]? = some (.cells #[.int .u32 vc, .int .u32 vn, .int .u64 sp, .int .u32 sq, .int .u64 ap, .int .u32 aq, .int .u8 pt, .bool dn] 37 (0, 0))) := by
    rw [← hW0]
    exact ⟨al _, heap_alloc_new w _⟩
  rw [hW0]
  have HW : Hid (∀ W, Below W0.heap.size W0 W → Below w.heap.size w W) := fun W hb => HB0.out.1.trans (hb.mono HB0.out.1.size)
  obtain ⟨bx, hbx⟩ : ∃ bx, w.heap.size = bx := ⟨_, rfl⟩
  have HV : Hid (∀ W, Below W0.heap.size W0 W → W.cell? ⟨w.heap.size, 0, none⟩ = some (.int .u32 vc) ∧ W.cell? ⟨w.heap.size, 1, none⟩ = some (.int .u32 vn) ∧ W.cell? ⟨w.heap.size, 2, none⟩ = some (.int .u64 sp) ∧ W.cell? ⟨w.heap.size, 3, none⟩ = some (.int .u32 sq) ∧ W.cell? ⟨w.heap.size, 4, none⟩ = some (.int .u64 ap) ∧ W.cell? ⟨w.heap.size, 5, none⟩ = some (.int .u32 aq) ∧ W.cell? ⟨w.heap.size, 6, none⟩ = some (.int .u8 pt) ∧ W.cell? ⟨w.heap.size, 7, none⟩ = some (.bool dn)) := fun W hb => by
    have hx : W.heap[w.heap.size]? = some (.cells #[.int .u32 vc, .int .u32 vn, .int .u64 sp, .int .u32 sq, .int .u64 ap, .int .u32 aq, .int .u8 pt, .bool dn] 37 (0, 0)) := by rw [hb.block _ (Array.getElem?_eq_some_iff.1 HB0.out.2).1]; exact HB0.out.2
    exact ⟨block_cell hx rfl, block_cell hx rfl, block_cell hx rfl, block_cell hx rfl, block_cell hx rfl, block_cell hx rfl, block_cell hx rfl, block_cell hx rfl⟩
  rw [hbx] at HV ⊢
  clear hW0 hbx HB0
  generalize rightB sp sq = z1 at *
  generalize rightB ap aq = z2 at *
  refine (CR1.out W0).mono ?_
  rintro e w1 ⟨rfl, hb1⟩
  have HBw1 : Hid (Below W0.heap.size W0 w1) := hb1
  clear hb1 CR1
  cases z1
  · skip
    have HY : Hid (y = (K, 1)) := HY1.out (by rw [HK.out]; simp)
    clear HY1 HY2 HY3 CP CC CR
    go_wp2_with fail
    go_ret
    exact ⟨by rw [HY.out]; rfl, by rw [HY.out]; exact H.out.to (HW.out _ HBw1.out)⟩
  · obtain ⟨j0, j1, j2, j3, j4, j5, j6, j7⟩ := HV.out w1 HBw1.out
    go_wp2_with fail
    refine (CR.out w1).mono ?_
    rintro e w2 ⟨rfl, hb2⟩
    have HBw2 : Hid (Below W0.heap.size W0 w2) := HBw1.out.trans (hb2.mono HBw1.out.size)
    clear hb2 j0 j1 j2 j3 j4 j5 j6 j7 HBw1
    cases z2
    · skip
      have HY : Hid (y = (K, 1)) := HY1.out (by rw [HK.out]; simp)
      clear HY1 HY2 HY3 CP CC CR
      go_wp2_with fail
      go_ret
      exact ⟨by rw [HY.out]; rfl, by rw [HY.out]; exact H.out.to (HW.out _ HBw2.out)⟩
    · obtain ⟨j0, j1, j2, j3, j4, j5, j6, j7⟩ := HV.out w2 HBw2.out
      go_wp2_with fail
      refine (CC.out w2).mono ?_
      rintro e w3 ⟨rfl, hb3⟩
      have HBw3 : Hid (Below W0.heap.size W0 w3) := HBw2.out.trans (hb3.mono HBw2.out.size)
      clear hb3 j0 j1 j2 j3 j4 j5 j6 j7 HBw2
      cases zm
      · obtain ⟨-, -, -, -, -, -, j6, j7⟩ := HV.out w3 HBw3.out
        by_cases hp : pt = 0
        · subst hp
          cases dn
          · skip
            have HOk : Hid (ok = true) := by show _ = _; rw [HK.out]; rfl
            obtain ⟨j0, j1, -⟩ := HV.out w3 HBw3.out
            clear CC CR
            go_wp2_with fail
            refine (CP.out w3 (HW.out _ HBw3.out)).mono ?_
            rintro e w4 ⟨rfl, hb4⟩
            have HB40 : Hid (Below W0.heap.size W0 w4) := HBw3.out.trans (hb4.mono HBw3.out.size)
            have HB4 : Hid (Below w.heap.size w w4) := HW.out _ HB40.out
            clear hb4 CP j0 j1
            cases z
            · have HY : Hid (y = (K.take m ++ (Vd.mk vc vn sp sq ap aq 0 false) :: K.drop m, 0)) := HY3.out HOk.out rfl
              clear HY1 HY2 HY3
              have hm := HP.out
              rcases h2 with ⟨rfl, rfl⟩ | ⟨g, cap, rfl, hlc, hcm⟩
              · skip
                have hm0 : m = 0 := by simpa using hm
                subst hm0
                clear hm
                have HD : Hid (∀ W, RbAt B rb (.slice none 0 0) [] W → RwAt W.heap.size 8 (.slice none 0 0) 0 (rowC vdc (([] : Bk).drop 0)) W ∧ (([] : Bk).drop 0).length = 0) := fun W _ => ⟨RwAt.nil _ _ _, rfl⟩
                have HTk : Hid (∀ W, RbAt B rb (.slice none 0 0) ([] : Bk) W → RwAt W.heap.size 8 (.slice none 0 0) 0 (rowC vdc (([] : Bk).take 0)) W) := fun W _ => RwAt.nil _ _ _
                have H4 : Hid (RbAt B rb (.slice none 0 0) ([] : Bk) w4) := H.out.on HB4.out
                have c0 := H4.out.cell
                have HO1 : Hid (Ow w4.heap.size 37 8 (.slice none 0 0) 0 [] w4.heap.size (.slice none 0 0) 0 (rowC vdc (([] : Bk).take 0)) w4) := ⟨own_nil _ _ _ _, HTk.out _ H4.out, rowC_cells vdc vdc_one _, Nat.le_refl _, by have := HL.out; omega⟩
                go_wp2_with (at_builtin; refine wpList_append_rw HO1.out Try.underlying27 hin hi0 hi1 hi2 rfl (by decide) (by decide) (.tmp 54) (.tmp 60) rfl rfl rfl rfl ?_)
                intro va w5 hown hg hat
                have HB5 : Hid (Below w4.heap.size w4 w5) := below_own (Below.refl _ _) (Nat.le_refl _) HO1.out.own hg
                obtain ⟨j0, j1, j2, j3, j4, j5, j6, j7⟩ := HV.out w5 (HB40.out.trans (HB5.out.mono HB40.out.size))
                have HO2 : Hid (Ow w4.heap.size 37 8 va 0 (rowC vdc (([] : Bk).take 0)) (w5.heap.size + 1) (.slice (some ⟨w5.heap.size, 0, none⟩) 1 1) 1 (rowC vdc [(Vd.mk vc vn sp sq ap aq 0 false)]) (w5.alloc (.cells #[.int .u32 vc, .int .u32 vn, .int .u64 sp, .int .u32 sq, .int .u64 ap, .int .u32 aq, .int .u8 0, .bool false] 37))) := vd_ow' (Vd.mk vc vn sp sq ap aq 0 false) (by simpa using hown) HB5.out.size (by have := HL.out; omega)
                clear hown hg hat c0
                go_wp2_with (at_builtin; refine wpList_append_rw HO2.out Try.underlying27 hin hi0 hi1 hi2 rfl (by decide) (by decide) (.tmp 62) (.tmp 64) rfl rfl rfl rfl ?_)
                intro vb w6 hown hg hat
                have HB6 : Hid (Below w4.heap.size w4 w6) := below_own (HB5.out.alloc HB5.out.size _) HO2.out.size HO2.out.own hg
                have H6 : Hid (RbAt B rb (.slice none 0 0) ([] : Bk) w6) := H4.out.on HB6.out
                have HO3 : Hid (Ow w4.heap.size 37 8 vb (0 + 1) (rowC vdc (([] : Bk).take 0) ++ rowC vdc [(Vd.mk vc vn sp sq ap aq 0 false)]) w6.heap.size (.slice none 0 0) 0 (rowC vdc (([] : Bk).drop 0)) w6) := ⟨by simpa using hown, (HD.out _ H6.out).1, rowC_cells vdc vdc_one _, HB6.out.size, by have := HL.out; omega⟩
                clear hown hg hat j0 j1 j2 j3 j4 j5 j6 j7
                have c0 := H6.out.cell
                go_wp2_with (at_builtin; refine wpList_append_rw HO3.out Try.underlying27 hin hi0 hi1 hi2 rfl (by decide) (by decide) (.tmp 67) (.tmp 73) rfl rfl rfl rfl ?_)
                intro vd w7 hown hg hat
                have HB7 : Hid (Below w4.heap.size w4 w7) := below_own HB6.out HO3.out.size HO3.out.own hg
                have H7 : Hid (RbAt B rb (.slice none 0 0) ([] : Bk) w7) := H4.out.on HB7.out
                have HF : Hid (w7.ownsRow w4.heap.size 37 8 vd y.1.length (rowC vdc y.1)) := by
                  have e1 : rowC vdc y.1 = rowC vdc (([] : Bk).take 0) ++ rowC vdc [(Vd.mk vc vn sp sq ap aq 0 false)] ++ rowC vdc (([] : Bk).drop 0) := by rw [HY.out, rowC_append, rowC_cons, List.append_assoc, rowC_one]
                  have e2 : y.1.length = 0 + 1 + 0 := by
                    have := (HD.out _ H6.out).2
                    have hmm := HP.out
                    rw [HY.out]
                    simp only [List.length_append, List.length_cons, List.length_take]
                    omega
                  have hf : w7.ownsRow w4.heap.size 37 8 vd (0 + 1 + 0) (rowC vdc (([] : Bk).take 0) ++ rowC vdc [(Vd.mk vc vn sp sq ap aq 0 false)] ++ rowC vdc (([] : Bk).drop 0)) := by simpa using hown
                  rw [← e1, ← e2] at hf
                  exact hf
                clear hown hg hat c0
                obtain ⟨da, dc, rfl, -, -, -, -⟩ := rw_own HF.out
                have c0 := H7.out.cell
                have f0 : w7.frozen? ⟨rb, 0, none⟩ = false := block_frozen H7.out.box 0
                go_wp2_with fail
                go_ret
                exact ⟨by rw [HY.out]; rfl, H.out.put HB4.out HB7.out HF.out HSr.out⟩
              · by_cases hne : cap = m
                · skip
                  subst hne
                  have hlm : K.length = cap := by omega
                  have HD : Hid (∀ W, RbAt B rb (.slice (some ⟨g, 0, none⟩) K.length cap) K W → RwAt W.heap.size 8 (.slice (some ⟨g, 0, none⟩) 0 0) 0 (rowC vdc (K.drop cap)) W ∧ (K.drop cap).length = 0) := fun W h => by
                    have := RwAt.drop h.is hm
                    rw [if_pos rfl, Nat.sub_self, rowC_drop vdc_len, show K.length - cap = 0 from by omega] at this
                    exact ⟨this, by simp; omega⟩
                  have HLm : Hid _ := hlm
                  clear hlm
                  have HTk : Hid (∀ W, RbAt B rb (.slice (some ⟨g, 0, none⟩) K.length cap) K W → RwAt W.heap.size 8 (.slice (some ⟨g, 0, none⟩) cap cap) cap (rowC vdc (K.take cap)) W) := fun W h => by
                    have := RwAt.take (ao := (some ⟨g, 0, none⟩)) (cap := cap) (n := K.length) h.is (show cap ≤ K.length by omega)
                    rw [rowC_take vdc_len] at this
                    exact this
                  have H4 : Hid (RbAt B rb (.slice (some ⟨g, 0, none⟩) K.length cap) K w4) := H.out.on HB4.out
                  have c0 := H4.out.cell
                  have HO1 : Hid (Ow w4.heap.size 37 8 (.slice none 0 0) 0 [] w4.heap.size (.slice (some ⟨g, 0, none⟩) cap cap) cap (rowC vdc (K.take cap)) w4) := ⟨own_nil _ _ _ _, HTk.out _ H4.out, rowC_cells vdc vdc_one _, Nat.le_refl _, by have := HL.out; omega⟩
                  go_wp2_with (at_builtin; refine wpList_append_rw HO1.out Try.underlying27 hin hi0 hi1 hi2 rfl (by decide) (by decide) (.tmp 54) (.tmp 60) rfl rfl rfl rfl ?_)
                  intro va w5 hown hg hat
                  have HB5 : Hid (Below w4.heap.size w4 w5) := below_own (Below.refl _ _) (Nat.le_refl _) HO1.out.own hg
                  obtain ⟨j0, j1, j2, j3, j4, j5, j6, j7⟩ := HV.out w5 (HB40.out.trans (HB5.out.mono HB40.out.size))
                  have HO2 : Hid (Ow w4.heap.size 37 8 va cap (rowC vdc (K.take cap)) (w5.heap.size + 1) (.slice (some ⟨w5.heap.size, 0, none⟩) 1 1) 1 (rowC vdc [(Vd.mk vc vn sp sq ap aq 0 false)]) (w5.alloc (.cells #[.int .u32 vc, .int .u32 vn, .int .u64 sp, .int .u32 sq, .int .u64 ap, .int .u32 aq, .int .u8 0, .bool false] 37))) := vd_ow' (Vd.mk vc vn sp sq ap aq 0 false) (by simpa using hown) HB5.out.size (by have := HL.out; omega)
                  clear hown hg hat c0
                  go_wp2_with (at_builtin; refine wpList_append_rw HO2.out Try.underlying27 hin hi0 hi1 hi2 rfl (by decide) (by decide) (.tmp 62) (.tmp 64) rfl rfl rfl rfl ?_)
                  intro vb w6 hown hg hat
                  have HB6 : Hid (Below w4.heap.size w4 w6) := below_own (HB5.out.alloc HB5.out.size _) HO2.out.size HO2.out.own hg
                  have H6 : Hid (RbAt B rb (.slice (some ⟨g, 0, none⟩) K.length cap) K w6) := H4.out.on HB6.out
                  have HO3 : Hid (Ow w4.heap.size 37 8 vb (cap + 1) (rowC vdc (K.take cap) ++ rowC vdc [(Vd.mk vc vn sp sq ap aq 0 false)]) w6.heap.size (.slice (some ⟨g, 0, none⟩) 0 0) 0 (rowC vdc (K.drop cap)) w6) := ⟨by simpa using hown, (HD.out _ H6.out).1, rowC_cells vdc vdc_one _, HB6.out.size, by have := HL.out; omega⟩
                  clear hown hg hat j0 j1 j2 j3 j4 j5 j6 j7
                  have c0 := H6.out.cell
                  go_wp2_with (at_builtin; refine wpList_append_rw HO3.out Try.underlying27 hin hi0 hi1 hi2 rfl (by decide) (by decide) (.tmp 67) (.tmp 73) rfl rfl rfl rfl ?_)
                  intro vd w7 hown hg hat
                  have HB7 : Hid (Below w4.heap.size w4 w7) := below_own HB6.out HO3.out.size HO3.out.own hg
                  have H7 : Hid (RbAt B rb (.slice (some ⟨g, 0, none⟩) K.length cap) K w7) := H4.out.on HB7.out
                  have HF : Hid (w7.ownsRow w4.heap.size 37 8 vd y.1.length (rowC vdc y.1)) := by
                    have e1 : rowC vdc y.1 = rowC vdc (K.take cap) ++ rowC vdc [(Vd.mk vc vn sp sq ap aq 0 false)] ++ rowC vdc (K.drop cap) := by rw [HY.out, rowC_append, rowC_cons, List.append_assoc, rowC_one]
                    have e2 : y.1.length = cap + 1 + 0 := by
                      have := (HD.out _ H6.out).2
                      have hmm := HP.out
                      rw [HY.out]
                      simp only [List.length_append, List.length_cons, List.length_take]
                      omega
                    have hf : w7.ownsRow w4.heap.size 37 8 vd (cap + 1 + 0) (rowC vdc (K.take cap) ++ rowC vdc [(Vd.mk vc vn sp sq ap aq 0 false)] ++ rowC vdc (K.drop cap)) := by simpa using hown
                    rw [← e1, ← e2] at hf
                    exact hf
                  clear hown hg hat c0
                  obtain ⟨da, dc, rfl, -, -, -, -⟩ := rw_own HF.out
                  have c0 := H7.out.cell
                  have f0 : w7.frozen? ⟨rb, 0, none⟩ = false := block_frozen H7.out.box 0
                  go_wp2_with fail
                  go_ret
                  exact ⟨by rw [HY.out]; rfl, H.out.put HB4.out HB7.out HF.out HSr.out⟩
                · skip
                  have HD : Hid (∀ W, RbAt B rb (.slice (some ⟨g, 0, none⟩) K.length cap) K W → RwAt W.heap.size 8 (.slice (some ⟨g, m * 8, none⟩) (K.length - m) (cap - m)) (K.length - m) (rowC vdc (K.drop m)) W ∧ (K.drop m).length = K.length - m) := fun W h => by
                    have := RwAt.drop h.is hm
                    rw [if_neg hne, rowC_drop vdc_len] at this
                    simp only [Option.map_some, Addr.add_lit, Nat.zero_add] at this
                    exact ⟨this, by simp⟩
                  have hmc : m ≤ cap := by omega
                  have HTk : Hid (∀ W, RbAt B rb (.slice (some ⟨g, 0, none⟩) K.length cap) K W → RwAt W.heap.size 8 (.slice (some ⟨g, 0, none⟩) m cap) m (rowC vdc (K.take m)) W) := fun W h => by
                    have := RwAt.take (ao := (some ⟨g, 0, none⟩)) (cap := cap) (n := K.length) h.is (show m ≤ K.length by omega)
                    rw [rowC_take vdc_len] at this
                    exact this
                  have H4 : Hid (RbAt B rb (.slice (some ⟨g, 0, none⟩) K.length cap) K w4) := H.out.on HB4.out
                  have c0 := H4.out.cell
                  have HO1 : Hid (Ow w4.heap.size 37 8 (.slice none 0 0) 0 [] w4.heap.size (.slice (some ⟨g, 0, none⟩) m cap) m (rowC vdc (K.take m)) w4) := ⟨own_nil _ _ _ _, HTk.out _ H4.out, rowC_cells vdc vdc_one _, Nat.le_refl _, by have := HL.out; omega⟩
                  go_wp2_with (at_builtin; refine wpList_append_rw HO1.out Try.underlying27 hin hi0 hi1 hi2 rfl (by decide) (by decide) (.tmp 54) (.tmp 60) rfl rfl rfl rfl ?_)
                  intro va w5 hown hg hat
                  have HB5 : Hid (Below w4.heap.size w4 w5) := below_own (Below.refl _ _) (Nat.le_refl _) HO1.out.own hg
                  obtain ⟨j0, j1, j2, j3, j4, j5, j6, j7⟩ := HV.out w5 (HB40.out.trans (HB5.out.mono HB40.out.size))
                  have HO2 : Hid (Ow w4.heap.size 37 8 va m (rowC vdc (K.take m)) (w5.heap.size + 1) (.slice (some ⟨w5.heap.size, 0, none⟩) 1 1) 1 (rowC vdc [(Vd.mk vc vn sp sq ap aq 0 false)]) (w5.alloc (.cells #[.int .u32 vc, .int .u32 vn, .int .u64 sp, .int .u32 sq, .int .u64 ap, .int .u32 aq, .int .u8 0, .bool false] 37))) := vd_ow' (Vd.mk vc vn sp sq ap aq 0 false) (by simpa using hown) HB5.out.size (by have := HL.out; omega)
                  clear hown hg hat c0
                  go_wp2_with (at_builtin; refine wpList_append_rw HO2.out Try.underlying27 hin hi0 hi1 hi2 rfl (by decide) (by decide) (.tmp 62) (.tmp 64) rfl rfl rfl rfl ?_)
                  intro vb w6 hown hg hat
                  have HB6 : Hid (Below w4.heap.size w4 w6) := below_own (HB5.out.alloc HB5.out.size _) HO2.out.size HO2.out.own hg
                  have H6 : Hid (RbAt B rb (.slice (some ⟨g, 0, none⟩) K.length cap) K w6) := H4.out.on HB6.out
                  have HO3 : Hid (Ow w4.heap.size 37 8 vb (m + 1) (rowC vdc (K.take m) ++ rowC vdc [(Vd.mk vc vn sp sq ap aq 0 false)]) w6.heap.size (.slice (some ⟨g, m * 8, none⟩) (K.length - m) (cap - m)) (K.length - m) (rowC vdc (K.drop m)) w6) := ⟨by simpa using hown, (HD.out _ H6.out).1, rowC_cells vdc vdc_one _, HB6.out.size, by have := HL.out; omega⟩
                  clear hown hg hat j0 j1 j2 j3 j4 j5 j6 j7
                  have c0 := H6.out.cell
                  go_wp2_with (at_builtin; refine wpList_append_rw HO3.out Try.underlying27 hin hi0 hi1 hi2 rfl (by decide) (by decide) (.tmp 67) (.tmp 73) rfl rfl rfl rfl ?_)
                  intro vd w7 hown hg hat
                  have HB7 : Hid (Below w4.heap.size w4 w7) := below_own HB6.out HO3.out.size HO3.out.own hg
                  have H7 : Hid (RbAt B rb (.slice (some ⟨g, 0, none⟩) K.length cap) K w7) := H4.out.on HB7.out
                  have HF : Hid (w7.ownsRow w4.heap.size 37 8 vd y.1.length (rowC vdc y.1)) := by
                    have e1 : rowC vdc y.1 = rowC vdc (K.take m) ++ rowC vdc [(Vd.mk vc vn sp sq ap aq 0 false)] ++ rowC vdc (K.drop m) := by rw [HY.out, rowC_append, rowC_cons, List.append_assoc, rowC_one]
                    have e2 : y.1.length = m + 1 + (K.length - m) := by
                      have := (HD.out _ H6.out).2
                      have hmm := HP.out
                      rw [HY.out]
                      simp only [List.length_append, List.length_cons, List.length_take]
                      omega
                    have hf : w7.ownsRow w4.heap.size 37 8 vd (m + 1 + (K.length - m)) (rowC vdc (K.take m) ++ rowC vdc [(Vd.mk vc vn sp sq ap aq 0 false)] ++ rowC vdc (K.drop m)) := by simpa using hown
                    rw [← e1, ← e2] at hf
                    exact hf
                  clear hown hg hat c0
                  obtain ⟨da, dc, rfl, -, -, -, -⟩ := rw_own HF.out
                  have c0 := H7.out.cell
                  have f0 : w7.frozen? ⟨rb, 0, none⟩ = false := block_frozen H7.out.box 0
                  go_wp2_with fail
                  go_ret
                  exact ⟨by rw [HY.out]; rfl, H.out.put HB4.out HB7.out HF.out HSr.out⟩
            · have HY : Hid (y = (K, if eqV { K.getD m dv with dn := false } (Vd.mk vc vn sp sq ap aq 0 false) then 0 else 40)) := HY2.out HOk.out rfl
              clear HY1 HY2 HY3
              obtain ⟨ao, cap, rfl, hlc, hcm⟩ := H.out.is.shape
              have hml : m < K.length := HLt.out rfl
              have H4 : Hid (RbAt B rb (.slice ao K.length cap) K w4) := H.out.on HB4.out
              have c0 := H4.out.cell
              obtain ⟨b, off, rfl, e0, e1, e2, e3, e4, e5, e6, e7⟩ := H4.out.is.el hml
              obtain ⟨j0, j1, j2, j3, j4, j5, j6, j7⟩ := HV.out w4 HB40.out
              have hml' : (m : Int) < K.length := by omega
              generalize K.getD m dv = x at *
              have hq := run_eql37 { x with dn := false } (Vd.mk vc vn sp sq ap aq 0 false)
              dsimp only at hq
              generalize eqV { x with dn := false } (Vd.mk vc vn sp sq ap aq 0 false) = q at *
              obtain ⟨WA, hWA⟩ : ∃ WA, w4.alloc (.cells #[.int .u32 x.c, .int .u32 x.n, .int .u64 x.sp, .int .u32 x.sl, .int .u64 x.ap, .int .u32 x.al, .int .u8 x.pt, .bool x.dn] 37) = WA := ⟨_, rfl⟩
              have HBA : Hid (Below W0.heap.size W0 WA ∧ WA.heap[w4.heap.size]? = some (.cells #[.int .u32 x.c, .int .u32 x.n, .int .u64 x.sp, .int .u32 x.sl, .int .u64 x.ap, .int .u32 x.al, .int .u8 x.pt, .bool x.dn] 37 (0, 0))) := by
                rw [← hWA]
                exact ⟨HB40.out.alloc HB40.out.size _, heap_alloc_new w4 _⟩
              have HSz : Hid (W0.heap.size ≤ w4.heap.size) := HB40.out.size
              have HWA : Hid _ := hWA
              clear hlc hcm h2 hWA
              go_upto_region 6 with fail
              rw [HWA.out]
              generalize w4.heap.size = ba at *
              clear e0 e1 e2 e3 e4 e5 e6 e7 j0 j1 j2 j3 j4 j5 j6 j7 c0 hml'
              have g7 : WA.cell? ⟨ba, 7, none⟩ = some (.bool x.dn) := block_cell HBA.out.2 rfl
              have f7 : WA.frozen? ⟨ba, 7, none⟩ = false := block_frozen HBA.out.2 7
              obtain ⟨-, -, -, -, -, -, -, j7⟩ := HV.out WA HBA.out.1
              have HBS : Hid (Below W0.heap.size W0 (WA.setCell ⟨ba, 7, none⟩ (.bool false)) ∧ (WA.setCell ⟨ba, 7, none⟩ (.bool false)).heap[ba]? = some (.cells #[.int .u32 x.c, .int .u32 x.n, .int .u64 x.sp, .int .u32 x.sl, .int .u64 x.ap, .int .u32 x.al, .int .u8 x.pt, .bool false] 37 (0, 0))) := ⟨HBA.out.1.setCell (p := ⟨ba, 7, none⟩) HSz.out _, block_set _ HBA.out.2⟩
              go_upto_region 7 with fail
              generalize WA.setCell ⟨ba, 7, none⟩ (.bool false) = WS at *
              clear g7 f7 j7
              have o0 : WS.cell? ⟨ba, 0, none⟩ = some (.int .u32 x.c) := block_cell HBS.out.2 rfl
              have o1 : WS.cell? ⟨ba, 1, none⟩ = some (.int .u32 x.n) := block_cell HBS.out.2 rfl
              have o2 : WS.cell? ⟨ba, 2, none⟩ = some (.int .u64 x.sp) := block_cell HBS.out.2 rfl
              have o3 : WS.cell? ⟨ba, 3, none⟩ = some (.int .u32 x.sl) := block_cell HBS.out.2 rfl
              have o4 : WS.cell? ⟨ba, 4, none⟩ = some (.int .u64 x.ap) := block_cell HBS.out.2 rfl
              have o5 : WS.cell? ⟨ba, 5, none⟩ = some (.int .u32 x.al) := block_cell HBS.out.2 rfl
              have o6 : WS.cell? ⟨ba, 6, none⟩ = some (.int .u8 x.pt) := block_cell HBS.out.2 rfl
              have o7 : WS.cell? ⟨ba, 7, none⟩ = some (.bool false) := block_cell HBS.out.2 rfl
              obtain ⟨j0, j1, j2, j3, j4, j5, j6, j7⟩ := HV.out WS HBS.out.1
              cases q
              · go_wp2_with fail
                go_ret
                exact ⟨by rw [HY.out]; rfl, by rw [HY.out]; exact H.out.to (HW.out _ HBS.out.1)⟩
              · go_wp2_with fail
                go_ret
                exact ⟨by rw [HY.out]; rfl, by rw [HY.out]; exact H.out.to (HW.out _ HBS.out.1)⟩
          · skip
            have HY : Hid (y = (K, 1)) := HY1.out (by rw [HK.out]; simp)
            clear HY1 HY2 HY3 CP CC CR
            go_wp2_with fail
            go_ret
            exact ⟨by rw [HY.out]; rfl, by rw [HY.out]; exact H.out.to (HW.out _ HBw3.out)⟩
        · have hpd : (pt == 0) = false := by simpa using hp
          have HP2 : Hid _ := hpd
          have HY : Hid (y = (K, 1)) := HY1.out (by rw [HK.out, HP2.out]; simp)
          clear HY1 HY2 HY3 CP CC CR
          go_wp2_with fail
          go_ret
          exact ⟨by rw [HY.out]; rfl, by rw [HY.out]; exact H.out.to (HW.out _ HBw3.out)⟩
      · skip
        have HOk : Hid (ok = true) := by show _ = _; rw [HK.out]; rfl
        obtain ⟨j0, j1, -⟩ := HV.out w3 HBw3.out
        clear CC CR
        go_wp2_with fail
        refine (CP.out w3 (HW.out _ HBw3.out)).mono ?_
        rintro e w4 ⟨rfl, hb4⟩
        have HB40 : Hid (Below W0.heap.size W0 w4) := HBw3.out.trans (hb4.mono HBw3.out.size)
        have HB4 : Hid (Below w.heap.size w w4) := HW.out _ HB40.out
        clear hb4 CP j0 j1
        cases z
        · have HY : Hid (y = (K.take m ++ (Vd.mk vc vn sp sq ap aq pt dn) :: K.drop m, 0)) := HY3.out HOk.out rfl
          clear HY1 HY2 HY3
          have hm := HP.out
          rcases h2 with ⟨rfl, rfl⟩ | ⟨g, cap, rfl, hlc, hcm⟩
          · skip
            have hm0 : m = 0 := by simpa using hm
            subst hm0
            clear hm
            have HD : Hid (∀ W, RbAt B rb (.slice none 0 0) [] W → RwAt W.heap.size 8 (.slice none 0 0) 0 (rowC vdc (([] : Bk).drop 0)) W ∧ (([] : Bk).drop 0).length = 0) := fun W _ => ⟨RwAt.nil _ _ _, rfl⟩
            have HTk : Hid (∀ W, RbAt B rb (.slice none 0 0) ([] : Bk) W → RwAt W.heap.size 8 (.slice none 0 0) 0 (rowC vdc (([] : Bk).take 0)) W) := fun W _ => RwAt.nil _ _ _
            have H4 : Hid (RbAt B rb (.slice none 0 0) ([] : Bk) w4) := H.out.on HB4.out
            have c0 := H4.out.cell
            have HO1 : Hid (Ow w4.heap.size 37 8 (.slice none 0 0) 0 [] w4.heap.size (.slice none 0 0) 0 (rowC vdc (([] : Bk).take 0)) w4) := ⟨own_nil _ _ _ _, HTk.out _ H4.out, rowC_cells vdc vdc_one _, Nat.le_refl _, by have := HL.out; omega⟩
            go_wp2_with (at_builtin; refine wpList_append_rw HO1.out Try.underlying27 hin hi0 hi1 hi2 rfl (by decide) (by decide) (.tmp 54) (.tmp 60) rfl rfl rfl rfl ?_)
            intro va w5 hown hg hat
            have HB5 : Hid (Below w4.heap.size w4 w5) := below_own (Below.refl _ _) (Nat.le_refl _) HO1.out.own hg
            obtain ⟨j0, j1, j2, j3, j4, j5, j6, j7⟩ := HV.out w5 (HB40.out.trans (HB5.out.mono HB40.out.size))
            have HO2 : Hid (Ow w4.heap.size 37 8 va 0 (rowC vdc (([] : Bk).take 0)) (w5.heap.size + 1) (.slice (some ⟨w5.heap.size, 0, none⟩) 1 1) 1 (rowC vdc [(Vd.mk vc vn sp sq ap aq pt dn)]) (w5.alloc (.cells #[.int .u32 vc, .int .u32 vn, .int .u64 sp, .int .u32 sq, .int .u64 ap, .int .u32 aq, .int .u8 pt, .bool dn] 37))) := vd_ow' (Vd.mk vc vn sp sq ap aq pt dn) (by simpa using hown) HB5.out.size (by have := HL.out; omega)
            clear hown hg hat c0
            go_wp2_with (at_builtin; refine wpList_append_rw HO2.out Try.underlying27 hin hi0 hi1 hi2 rfl (by decide) (by decide) (.tmp 62) (.tmp 64) rfl rfl rfl rfl ?_)
            intro vb w6 hown hg hat
            have HB6 : Hid (Below w4.heap.size w4 w6) := below_own (HB5.out.alloc HB5.out.size _) HO2.out.size HO2.out.own hg
            have H6 : Hid (RbAt B rb (.slice none 0 0) ([] : Bk) w6) := H4.out.on HB6.out
            have HO3 : Hid (Ow w4.heap.size 37 8 vb (0 + 1) (rowC vdc (([] : Bk).take 0) ++ rowC vdc [(Vd.mk vc vn sp sq ap aq pt dn)]) w6.heap.size (.slice none 0 0) 0 (rowC vdc (([] : Bk).drop 0)) w6) := ⟨by simpa using hown, (HD.out _ H6.out).1, rowC_cells vdc vdc_one _, HB6.out.size, by have := HL.out; omega⟩
            clear hown hg hat j0 j1 j2 j3 j4 j5 j6 j7
            have c0 := H6.out.cell
            go_wp2_with (at_builtin; refine wpList_append_rw HO3.out Try.underlying27 hin hi0 hi1 hi2 rfl (by decide) (by decide) (.tmp 67) (.tmp 73) rfl rfl rfl rfl ?_)
            intro vd w7 hown hg hat
            have HB7 : Hid (Below w4.heap.size w4 w7) := below_own HB6.out HO3.out.size HO3.out.own hg
            have H7 : Hid (RbAt B rb (.slice none 0 0) ([] : Bk) w7) := H4.out.on HB7.out
            have HF : Hid (w7.ownsRow w4.heap.size 37 8 vd y.1.length (rowC vdc y.1)) := by
              have e1 : rowC vdc y.1 = rowC vdc (([] : Bk).take 0) ++ rowC vdc [(Vd.mk vc vn sp sq ap aq pt dn)] ++ rowC vdc (([] : Bk).drop 0) := by rw [HY.out, rowC_append, rowC_cons, List.append_assoc, rowC_one]
              have e2 : y.1.length = 0 + 1 + 0 := by
                have := (HD.out _ H6.out).2
                have hmm := HP.out
                rw [HY.out]
                simp only [List.length_append, List.length_cons, List.length_take]
                omega
              have hf : w7.ownsRow w4.heap.size 37 8 vd (0 + 1 + 0) (rowC vdc (([] : Bk).take 0) ++ rowC vdc [(Vd.mk vc vn sp sq ap aq pt dn)] ++ rowC vdc (([] : Bk).drop 0)) := by simpa using hown
              rw [← e1, ← e2] at hf
              exact hf
            clear hown hg hat c0
            obtain ⟨da, dc, rfl, -, -, -, -⟩ := rw_own HF.out
            have c0 := H7.out.cell
            have f0 : w7.frozen? ⟨rb, 0, none⟩ = false := block_frozen H7.out.box 0
            go_wp2_with fail
            go_ret
            exact ⟨by rw [HY.out]; rfl, H.out.put HB4.out HB7.out HF.out HSr.out⟩
          · by_cases hne : cap = m
            · skip
              subst hne
              have hlm : K.length = cap := by omega
              have HD : Hid (∀ W, RbAt B rb (.slice (some ⟨g, 0, none⟩) K.length cap) K W → RwAt W.heap.size 8 (.slice (some ⟨g, 0, none⟩) 0 0) 0 (rowC vdc (K.drop cap)) W ∧ (K.drop cap).length = 0) := fun W h => by
                have := RwAt.drop h.is hm
                rw [if_pos rfl, Nat.sub_self, rowC_drop vdc_len, show K.length - cap = 0 from by omega] at this
                exact ⟨this, by simp; omega⟩
              have HLm : Hid _ := hlm
              clear hlm
              have HTk : Hid (∀ W, RbAt B rb (.slice (some ⟨g, 0, none⟩) K.length cap) K W → RwAt W.heap.size 8 (.slice (some ⟨g, 0, none⟩) cap cap) cap (rowC vdc (K.take cap)) W) := fun W h => by
                have := RwAt.take (ao := (some ⟨g, 0, none⟩)) (cap := cap) (n := K.length) h.is (show cap ≤ K.length by omega)
                rw [rowC_take vdc_len] at this
                exact this
              have H4 : Hid (RbAt B rb (.slice (some ⟨g, 0, none⟩) K.length cap) K w4) := H.out.on HB4.out
              have c0 := H4.out.cell
              have HO1 : Hid (Ow w4.heap.size 37 8 (.slice none 0 0) 0 [] w4.heap.size (.slice (some ⟨g, 0, none⟩) cap cap) cap (rowC vdc (K.take cap)) w4) := ⟨own_nil _ _ _ _, HTk.out _ H4.out, rowC_cells vdc vdc_one _, Nat.le_refl _, by have := HL.out; omega⟩
              go_wp2_with (at_builtin; refine wpList_append_rw HO1.out Try.underlying27 hin hi0 hi1 hi2 rfl (by decide) (by decide) (.tmp 54) (.tmp 60) rfl rfl rfl rfl ?_)
              intro va w5 hown hg hat
              have HB5 : Hid (Below w4.heap.size w4 w5) := below_own (Below.refl _ _) (Nat.le_refl _) HO1.out.own hg
              obtain ⟨j0, j1, j2, j3, j4, j5, j6, j7⟩ := HV.out w5 (HB40.out.trans (HB5.out.mono HB40.out.size))
              have HO2 : Hid (Ow w4.heap.size 37 8 va cap (rowC vdc (K.take cap)) (w5.heap.size + 1) (.slice (some ⟨w5.heap.size, 0, none⟩) 1 1) 1 (rowC vdc [(Vd.mk vc vn sp sq ap aq pt dn)]) (w5.alloc (.cells #[.int .u32 vc, .int .u32 vn, .int .u64 sp, .int .u32 sq, .int .u64 ap, .int .u32 aq, .int .u8 pt, .bool dn] 37))) := vd_ow' (Vd.mk vc vn sp sq ap aq pt dn) (by simpa using hown) HB5.out.size (by have := HL.out; omega)
              clear hown hg hat c0
              go_wp2_with (at_builtin; refine wpList_append_rw HO2.out Try.underlying27 hin hi0 hi1 hi2 rfl (by decide) (by decide) (.tmp 62) (.tmp 64) rfl rfl rfl rfl ?_)
              intro vb w6 hown hg hat
              have HB6 : Hid (Below w4.heap.size w4 w6) := below_own (HB5.out.alloc HB5.out.size _) HO2.out.size HO2.out.own hg
              have H6 : Hid (RbAt B rb (.slice (some ⟨g, 0, none⟩) K.length cap) K w6) := H4.out.on HB6.out
              have HO3 : Hid (Ow w4.heap.size 37 8 vb (cap + 1) (rowC vdc (K.take cap) ++ rowC vdc [(Vd.mk vc vn sp sq ap aq pt dn)]) w6.heap.size (.slice (some ⟨g, 0, none⟩) 0 0) 0 (rowC vdc (K.drop cap)) w6) := ⟨by simpa using hown, (HD.out _ H6.out).1, rowC_cells vdc vdc_one _, HB6.out.size, by have := HL.out; omega⟩
              clear hown hg hat j0 j1 j2 j3 j4 j5 j6 j7
              have c0 := H6.out.cell
              go_wp2_with (at_builtin; refine wpList_append_rw HO3.out Try.underlying27 hin hi0 hi1 hi2 rfl (by decide) (by decide) (.tmp 67) (.tmp 73) rfl rfl rfl rfl ?_)
              intro vd w7 hown hg hat
              have HB7 : Hid (Below w4.heap.size w4 w7) := below_own HB6.out HO3.out.size HO3.out.own hg
              have H7 : Hid (RbAt B rb (.slice (some ⟨g, 0, none⟩) K.length cap) K w7) := H4.out.on HB7.out
              have HF : Hid (w7.ownsRow w4.heap.size 37 8 vd y.1.length (rowC vdc y.1)) := by
                have e1 : rowC vdc y.1 = rowC vdc (K.take cap) ++ rowC vdc [(Vd.mk vc vn sp sq ap aq pt dn)] ++ rowC vdc (K.drop cap) := by rw [HY.out, rowC_append, rowC_cons, List.append_assoc, rowC_one]
                have e2 : y.1.length = cap + 1 + 0 := by
                  have := (HD.out _ H6.out).2
                  have hmm := HP.out
                  rw [HY.out]
                  simp only [List.length_append, List.length_cons, List.length_take]
                  omega
                have hf : w7.ownsRow w4.heap.size 37 8 vd (cap + 1 + 0) (rowC vdc (K.take cap) ++ rowC vdc [(Vd.mk vc vn sp sq ap aq pt dn)] ++ rowC vdc (K.drop cap)) := by simpa using hown
                rw [← e1, ← e2] at hf
                exact hf
              clear hown hg hat c0
              obtain ⟨da, dc, rfl, -, -, -, -⟩ := rw_own HF.out
              have c0 := H7.out.cell
              have f0 : w7.frozen? ⟨rb, 0, none⟩ = false := block_frozen H7.out.box 0
              go_wp2_with fail
              go_ret
              exact ⟨by rw [HY.out]; rfl, H.out.put HB4.out HB7.out HF.out HSr.out⟩
            · skip
              have HD : Hid (∀ W, RbAt B rb (.slice (some ⟨g, 0, none⟩) K.length cap) K W → RwAt W.heap.size 8 (.slice (some ⟨g, m * 8, none⟩) (K.length - m) (cap - m)) (K.length - m) (rowC vdc (K.drop m)) W ∧ (K.drop m).length = K.length - m) := fun W h => by
                have := RwAt.drop h.is hm
                rw [if_neg hne, rowC_drop vdc_len] at this
                simp only [Option.map_some, Addr.add_lit, Nat.zero_add] at this
                exact ⟨this, by simp⟩
              have hmc : m ≤ cap := by omega
              have HTk : Hid (∀ W, RbAt B rb (.slice (some ⟨g, 0, none⟩) K.length cap) K W → RwAt W.heap.size 8 (.slice (some ⟨g, 0, none⟩) m cap) m (rowC vdc (K.take m)) W) := fun W h => by
                have := RwAt.take (ao := (some ⟨g, 0, none⟩)) (cap := cap) (n := K.length) h.is (show m ≤ K.length by omega)
                rw [rowC_take vdc_len] at this
                exact this
              have H4 : Hid (RbAt B rb (.slice (some ⟨g, 0, none⟩) K.length cap) K w4) := H.out.on HB4.out
              have c0 := H4.out.cell
              have HO1 : Hid (Ow w4.heap.size 37 8 (.slice none 0 0) 0 [] w4.heap.size (.slice (some ⟨g, 0, none⟩) m cap) m (rowC vdc (K.take m)) w4) := ⟨own_nil _ _ _ _, HTk.out _ H4.out, rowC_cells vdc vdc_one _, Nat.le_refl _, by have := HL.out; omega⟩
              go_wp2_with (at_builtin; refine wpList_append_rw HO1.out Try.underlying27 hin hi0 hi1 hi2 rfl (by decide) (by decide) (.tmp 54) (.tmp 60) rfl rfl rfl rfl ?_)
              intro va w5 hown hg hat
              have HB5 : Hid (Below w4.heap.size w4 w5) := below_own (Below.refl _ _) (Nat.le_refl _) HO1.out.own hg
              obtain ⟨j0, j1, j2, j3, j4, j5, j6, j7⟩ := HV.out w5 (HB40.out.trans (HB5.out.mono HB40.out.size))
              have HO2 : Hid (Ow w4.heap.size 37 8 va m (rowC vdc (K.take m)) (w5.heap.size + 1) (.slice (some ⟨w5.heap.size, 0, none⟩) 1 1) 1 (rowC vdc [(Vd.mk vc vn sp sq ap aq pt dn)]) (w5.alloc (.cells #[.int .u32 vc, .int .u32 vn, .int .u64 sp, .int .u32 sq, .int .u64 ap, .int .u32 aq, .int .u8 pt, .bool dn] 37))) := vd_ow' (Vd.mk vc vn sp sq ap aq pt dn) (by simpa using hown) HB5.out.size (by have := HL.out; omega)
              clear hown hg hat c0
              go_wp2_with (at_builtin; refine wpList_append_rw HO2.out Try.underlying27 hin hi0 hi1 hi2 rfl (by decide) (by decide) (.tmp 62) (.tmp 64) rfl rfl rfl rfl ?_)
              intro vb w6 hown hg hat
              have HB6 : Hid (Below w4.heap.size w4 w6) := below_own (HB5.out.alloc HB5.out.size _) HO2.out.size HO2.out.own hg
              have H6 : Hid (RbAt B rb (.slice (some ⟨g, 0, none⟩) K.length cap) K w6) := H4.out.on HB6.out
              have HO3 : Hid (Ow w4.heap.size 37 8 vb (m + 1) (rowC vdc (K.take m) ++ rowC vdc [(Vd.mk vc vn sp sq ap aq pt dn)]) w6.heap.size (.slice (some ⟨g, m * 8, none⟩) (K.length - m) (cap - m)) (K.length - m) (rowC vdc (K.drop m)) w6) := ⟨by simpa using hown, (HD.out _ H6.out).1, rowC_cells vdc vdc_one _, HB6.out.size, by have := HL.out; omega⟩
              clear hown hg hat j0 j1 j2 j3 j4 j5 j6 j7
              have c0 := H6.out.cell
              go_wp2_with (at_builtin; refine wpList_append_rw HO3.out Try.underlying27 hin hi0 hi1 hi2 rfl (by decide) (by decide) (.tmp 67) (.tmp 73) rfl rfl rfl rfl ?_)
              intro vd w7 hown hg hat
              have HB7 : Hid (Below w4.heap.size w4 w7) := below_own HB6.out HO3.out.size HO3.out.own hg
              have H7 : Hid (RbAt B rb (.slice (some ⟨g, 0, none⟩) K.length cap) K w7) := H4.out.on HB7.out
              have HF : Hid (w7.ownsRow w4.heap.size 37 8 vd y.1.length (rowC vdc y.1)) := by
                have e1 : rowC vdc y.1 = rowC vdc (K.take m) ++ rowC vdc [(Vd.mk vc vn sp sq ap aq pt dn)] ++ rowC vdc (K.drop m) := by rw [HY.out, rowC_append, rowC_cons, List.append_assoc, rowC_one]
                have e2 : y.1.length = m + 1 + (K.length - m) := by
                  have := (HD.out _ H6.out).2
                  have hmm := HP.out
                  rw [HY.out]
                  simp only [List.length_append, List.length_cons, List.length_take]
                  omega
                have hf : w7.ownsRow w4.heap.size 37 8 vd (m + 1 + (K.length - m)) (rowC vdc (K.take m) ++ rowC vdc [(Vd.mk vc vn sp sq ap aq pt dn)] ++ rowC vdc (K.drop m)) := by simpa using hown
                rw [← e1, ← e2] at hf
                exact hf
              clear hown hg hat c0
              obtain ⟨da, dc, rfl, -, -, -, -⟩ := rw_own HF.out
              have c0 := H7.out.cell
              have f0 : w7.frozen? ⟨rb, 0, none⟩ = false := block_frozen H7.out.box 0
              go_wp2_with fail
              go_ret
              exact ⟨by rw [HY.out]; rfl, H.out.put HB4.out HB7.out HF.out HSr.out⟩
        · have HY : Hid (y = (K, if eqV { K.getD m dv with dn := dn } (Vd.mk vc vn sp sq ap aq pt dn) then 0 else 40)) := HY2.out HOk.out rfl
          clear HY1 HY2 HY3
          obtain ⟨ao, cap, rfl, hlc, hcm⟩ := H.out.is.shape
          have hml : m < K.length := HLt.out rfl
          have H4 : Hid (RbAt B rb (.slice ao K.length cap) K w4) := H.out.on HB4.out
          have c0 := H4.out.cell
          obtain ⟨b, off, rfl, e0, e1, e2, e3, e4, e5, e6, e7⟩ := H4.out.is.el hml
          obtain ⟨j0, j1, j2, j3, j4, j5, j6, j7⟩ := HV.out w4 HB40.out
          have hml' : (m : Int) < K.length := by omega
          generalize K.getD m dv = x at *
          have hq := run_eql37 { x with dn := dn } (Vd.mk vc vn sp sq ap aq pt dn)
          dsimp only at hq
          generalize eqV { x with dn := dn } (Vd.mk vc vn sp sq ap aq pt dn) = q at *
          obtain ⟨WA, hWA⟩ : ∃ WA, w4.alloc (.cells #[.int .u32 x.c, .int .u32 x.n, .int .u64 x.sp, .int .u32 x.sl, .int .u64 x.ap, .int .u32 x.al, .int .u8 x.pt, .bool x.dn] 37) = WA := ⟨_, rfl⟩
          have HBA : Hid (Below W0.heap.size W0 WA ∧ WA.heap[w4.heap.size]? = some (.cells #[.int .u32 x.c, .int .u32 x.n, .int .u64 x.sp, .int .u32 x.sl, .int .u64 x.ap, .int .u32 x.al, .int .u8 x.pt, .bool x.dn] 37 (0, 0))) := by
            rw [← hWA]
            exact ⟨HB40.out.alloc HB40.out.size _, heap_alloc_new w4 _⟩
          have HSz : Hid (W0.heap.size ≤ w4.heap.size) := HB40.out.size
          have HWA : Hid _ := hWA
          clear hlc hcm h2 hWA
          go_upto_region 6 with fail
          rw [HWA.out]
          generalize w4.heap.size = ba at *
          clear e0 e1 e2 e3 e4 e5 e6 e7 j0 j1 j2 j3 j4 j5 j6 j7 c0 hml'
          have g7 : WA.cell? ⟨ba, 7, none⟩ = some (.bool x.dn) := block_cell HBA.out.2 rfl
          have f7 : WA.frozen? ⟨ba, 7, none⟩ = false := block_frozen HBA.out.2 7
          obtain ⟨-, -, -, -, -, -, -, j7⟩ := HV.out WA HBA.out.1
          have HBS : Hid (Below W0.heap.size W0 (WA.setCell ⟨ba, 7, none⟩ (.bool dn)) ∧ (WA.setCell ⟨ba, 7, none⟩ (.bool dn)).heap[ba]? = some (.cells #[.int .u32 x.c, .int .u32 x.n, .int .u64 x.sp, .int .u32 x.sl, .int .u64 x.ap, .int .u32 x.al, .int .u8 x.pt, .bool dn] 37 (0, 0))) := ⟨HBA.out.1.setCell (p := ⟨ba, 7, none⟩) HSz.out _, block_set _ HBA.out.2⟩
          go_upto_region 7 with fail
          generalize WA.setCell ⟨ba, 7, none⟩ (.bool dn) = WS at *
          clear g7 f7 j7
          have o0 : WS.cell? ⟨ba, 0, none⟩ = some (.int .u32 x.c) := block_cell HBS.out.2 rfl
          have o1 : WS.cell? ⟨ba, 1, none⟩ = some (.int .u32 x.n) := block_cell HBS.out.2 rfl
          have o2 : WS.cell? ⟨ba, 2, none⟩ = some (.int .u64 x.sp) := block_cell HBS.out.2 rfl
          have o3 : WS.cell? ⟨ba, 3, none⟩ = some (.int .u32 x.sl) := block_cell HBS.out.2 rfl
          have o4 : WS.cell? ⟨ba, 4, none⟩ = some (.int .u64 x.ap) := block_cell HBS.out.2 rfl
          have o5 : WS.cell? ⟨ba, 5, none⟩ = some (.int .u32 x.al) := block_cell HBS.out.2 rfl
          have o6 : WS.cell? ⟨ba, 6, none⟩ = some (.int .u8 x.pt) := block_cell HBS.out.2 rfl
          have o7 : WS.cell? ⟨ba, 7, none⟩ = some (.bool dn) := block_cell HBS.out.2 rfl
          obtain ⟨j0, j1, j2, j3, j4, j5, j6, j7⟩ := HV.out WS HBS.out.1
          cases q
          · go_wp2_with fail
            go_ret
            exact ⟨by rw [HY.out]; rfl, by rw [HY.out]; exact H.out.to (HW.out _ HBS.out.1)⟩
          · go_wp2_with fail
            go_ret
            exact ⟨by rw [HY.out]; rfl, by rw [HY.out]; exact H.out.to (HW.out _ HBS.out.1)⟩
end Go.Proofs.Ytkadaoebehgkbaa
