/-
  The document's table: an intent put in its place.
-/
import Derived.Test.YtknfkpnicjellaaRgt
namespace Go.Proofs.Ytknfkpnicjellaa
open Go.RowKit

theorem bl (a b : List UInt8) : Op.bytesLess (bs a).toList (bs b).toList = ltK a b := by rw [bs_list, bs_list]; rfl
theorem getD_someT {T : Tb} {i : Nat} (h : i < T.length) : T[i]? = some (T.getD i di) := by simp [List.getD, h]
theorem place_is {T : Tb} {k : List UInt8} {m : Nat} (hm : m ≤ T.length) (h1 : ∀ j, j < m → ltK (T.getD j di).1 k = true) (h2 : m < T.length → ltK (T.getD m di).1 k = false) : placeN k T = m :=
  placeN_eq hm (fun j x hj hx => by rw [getD_someT (by omega)] at hx; injection hx with hx; subst hx; exact h1 j hj) (fun x hx => by
    by_cases hml : m < T.length
    · rw [getD_someT hml] at hx; injection hx with hx; subst hx; exact h2 hml
    · rw [List.getElem?_eq_none (by omega)] at hx; cases hx)
theorem RtAt.two {B rb : Nat} {sl : Value} {T : Tb} {w : World} (h : RtAt B rb sl T w) : (sl = .slice none 0 0 ∧ T = []) ∨ ∃ g cap, sl = .slice (some ⟨g, 0, none⟩) T.length cap ∧ T.length ≤ cap ∧ cap ≤ 9223372036854775807 := by
  rcases h.row.2 with ⟨e, h0⟩ | ⟨g, cap, cur, e, _, _, h1, h2, _⟩
  · exact .inl ⟨e, List.eq_nil_of_length_eq_zero h0⟩
  · exact .inr ⟨g, cap, e, h1, by unfold maxLen at h2; omega⟩
/-- What the new row comes to: the box holds it. -/
theorem RtAt.put {B rb : Nat} {sl v' : Value} {T T' : Tb} {w w1 w5 : World} (h : RtAt B rb sl T w) (hb1 : Below w.heap.size w w1) (h5 : Below w1.heap.size w1 w5) (hown : w5.ownsRow w1.heap.size 49 10 v' T'.length (rowC inc T')) (hs : TOk T') :
    RtAt B rb v' T' (w5.setCell ⟨rb, 0, none⟩ v') ∧ Kept (fun i => i = rb) w (w5.setCell ⟨rb, 0, none⟩ v') ∧ ∀ i, v'.ownBlock = some i → w.heap.size ≤ i := by
  have hlt : rb < w.heap.size := (h.lt (.inl rfl)).2
  have h5' : RtAt B rb sl T w5 := (h.on hb1).on h5
  have hk := set_kept' w5 rb 0 v'
  have hne : v'.ownBlock ≠ some rb := fun e => by
    have := (World.ownsRow.lt hown rb e).1
    have := hb1.size
    omega
  have hB : B ≤ w1.heap.size := by have := h.lo; have := hb1.size; omega
  refine ⟨⟨block_set _ h5'.box, own_kept (own_le hown hB) hk (fun k e he => hne (he ▸ e)), h.lo, hne, hs⟩, (Kept.of_below (hb1.trans (h5.mono hb1.size))).trans hk (fun i hi => .inl hi), fun i hi => ?_⟩
  have := (World.ownsRow.lt hown i hi).1
  have := hb1.size
  omega
theorem TOk.set {T : Tb} (h : TOk T) {k : List UInt8} {x : Ii} (hk : kOk k = true) : TOk (setF k x T) := ⟨setF_srt h.srt, fun y hy => by
  rcases setF_keys hy with rfl | hy
  · exact hk
  · exact h.keys y hy⟩

theorem in_ow' {base n : Nat} {v : Value} {l : Tb} {w : World} (x : List UInt8 × Ii) (ho : w.ownsRow base 49 10 v n (rowC inc l)) (hb : base ≤ w.heap.size) (hl : n < 1000000) :
    Ow base 49 10 v n (rowC inc l) (w.heap.size + 1) (.slice (some ⟨w.heap.size, 0, none⟩) 1 1) 1 (rowC inc [x]) (w.alloc (.cells (inc x).toArray 49)) :=
  ⟨World.ownsRow.alloc ho _, row_one inc 10 inc_len x 49 w (fun j u hj => block_cell (heap_alloc_new w _) (by simpa using hj)), rowC_cells inc inc_one _, Nat.le_trans hb (by simp), by omega⟩

set_option maxHeartbeats 3200000 in
set_option maxRecDepth 100000 in
theorem put33 (B rb : Nat) (sl : Value) (T : Tb) (k : List UInt8) (x : Ii) (w : World) (h : RtAt B rb sl T w) (hl : T.length < 100000) (hk : kOk k = true) (hn : getF k T = none) :
    Calls Try.prog 37 #[.pointer (some ⟨rb, 0, none⟩), inV (k, x)] w fun e w' => e = .returned (.tuple #[]) ∧ ∃ sl', RtAt B rb sl' (setF k x T) w' ∧ Kept (fun i => i = rb) w w' ∧ ∀ i, sl'.ownBlock = some i → w.heap.size ≤ i := by
  obtain ⟨i0, hin, hi0, hi1, hi2⟩ := info_parts info49
  obtain ⟨ao, cap, rfl, hlc, hcm⟩ := h.is.shape
  have H : Hid (RtAt B rb (.slice ao T.length cap) T w) := h
  have h2 := h.two
  have HPl : Hid (∀ m, m ≤ T.length → (∀ j, j < m → ltK (T.getD j di).1 k = true) → (m < T.length → ltK (T.getD m di).1 k = false) → placeN k T = m) := fun m hm h1 h2 => place_is hm h1 h2
  have HS : Hid (setF k x T = T.take (placeN k T) ++ (k, x) :: T.drop (placeN k T)) := by
    have h3 : setF k x T = if thereB k T then T.set (placeN k T) (k, x) else T.take (placeN k T) ++ (k, x) :: T.drop (placeN k T) := set_place
    rw [there_get h.ok.srt, hn] at h3
    exact h3
  have HP : Hid (placeN k T ≤ T.length) := placeN_le k T
  have HOk : Hid (TOk (setF k x T)) := h.ok.set hk
  have HL : Hid (T.length < 100000) := hl
  obtain ⟨c, n, sp, sl', mp, ml, prim, val, dead⟩ := x
  have HBx : Hid (InAt (w.alloc (.cells #[.int .u32 c, .int .u32 n, .int .u64 sp, .int .u32 sl', .int .u64 mp, .int .u32 ml, .string (bs prim), .string (bs k), .string (bs val), .bool dead] 49)) w.heap.size 0 (k, ⟨c, n, sp, sl', mp, ml, prim, val, dead⟩) ∧ Below w.heap.size w (w.alloc (.cells #[.int .u32 c, .int .u32 n, .int .u64 sp, .int .u32 sl', .int .u64 mp, .int .u32 ml, .string (bs prim), .string (bs k), .string (bs val), .bool dead] 49))) := by
    have hc := heap_alloc_new w (.cells #[.int .u32 c, .int .u32 n, .int .u64 sp, .int .u32 sl', .int .u64 mp, .int .u32 ml, .string (bs prim), .string (bs k), .string (bs val), .bool dead] 49)
    exact ⟨⟨block_cell hc rfl, block_cell hc rfl, block_cell hc rfl, block_cell hc rfl, block_cell hc rfl, block_cell hc rfl, block_cell hc rfl, block_cell hc rfl, block_cell hc rfl, block_cell hc rfl⟩, al _⟩
  clear h hlc hcm hk hn hl
  generalize setF k ⟨c, n, sp, sl', mp, ml, prim, val, dead⟩ T = y at *
  generalize placeN k T = pn at *
  simp only [inV]
  go_enter Try.func37, Try.ntmps37
  go_upto_block 0 with fail
  obtain ⟨W0, hW0⟩ : ∃ W0, w.alloc (.cells #[.int .u32 c, .int .u32 n, .int .u64 sp, .int .u32 sl', .int .u64 mp, .int .u32 ml, .string (bs prim), .string (bs k), .string (bs val), .bool dead] 49) = W0 := ⟨_, rfl⟩
  rw [hW0] at HBx ⊢
  clear hW0
  obtain ⟨bx, hbx⟩ : ∃ bx, w.heap.size = bx := ⟨_, rfl⟩
  have HBX : Hid (w.heap.size = bx) := hbx
  rw [hbx] at HBx ⊢
  clear hbx
  go_cut [4] from 6 to 29 (fun s4 wc => s4 = .int .i64 pn ∧ Below bx w wc ∧ InAt wc bx 0 (k, ⟨c, n, sp, sl', mp, ml, prim, val, dead⟩))
  case first =>
    go_wp2_with fail
    go_loopw [4] (fun i wr => Below bx w wr ∧ InAt wr bx 0 (k, ⟨c, n, sp, sl', mp, ml, prim, val, dead⟩) ∧ ∃ m : Nat, m ≤ T.length ∧ i = .int .i64 m ∧ ∀ j, j < m → ltK (T.getD j di).1 k = true) (fun i _ => T.length - (intOf i).toNat)
    case atStart => exact ⟨HBx.out.2, HBx.out.1, 0, Nat.zero_le _, rfl, fun _ h => by omega⟩
    case round =>
      obtain ⟨hbr, hix, m, hm, rfl, hall⟩ := hrel
      have HX : Hid (Below bx w wr ∧ InAt wr bx 0 (k, ⟨c, n, sp, sl', mp, ml, prim, val, dead⟩)) := ⟨hbr, hix⟩
      have HA : Hid (∀ j, j < m → ltK (T.getD j di).1 k = true) := hall
      have HR : Hid (RtAt B rb (.slice ao T.length cap) T wr) := H.out.on (by rw [HBX.out]; exact hbr)
      have d0 := HR.out.cell
      have x7 : wr.cell? ⟨bx, 7, none⟩ = some (.string (bs k)) := by simpa using hix.c7
      have hL9 := HL.out
      clear hbr hix hall
      by_cases hml : m < T.length
      · obtain ⟨b, off, rfl, hel⟩ := HR.out.is.el hml
        have e7 := hel.c7
        have hml' : (m : Int) < T.length := by omega
        have HK : Hid (ltK (T.getD m di).1 k = true → ∀ j, j < m + 1 → ltK (T.getD j di).1 k = true) := fun h j hj => by
          by_cases hjm : j = m
          · subst hjm; exact h
          · exact HA.out j (by omega)
        have HQ : Hid (ltK (T.getD m di).1 k = false → pn = m) := fun h => HPl.out m hm HA.out (fun _ => h)
        generalize (T.getD m di).1 = a at *
        have hbl := bl a k
        obtain ⟨z, hz⟩ : ∃ z, ltK a k = z := ⟨_, rfl⟩
        rw [hz] at hbl
        have HZ : Hid (ltK a k = z) := hz
        have HF : Hid (wr.cell? ⟨rb, 0, none⟩ = some (.slice (some ⟨b, off, none⟩) T.length cap) ∧ wr.cell? ⟨b, off + m * 10 + 7, none⟩ = some (.string (bs a)) ∧ wr.cell? ⟨bx, 7, none⟩ = some (.string (bs k))) := ⟨d0, e7, x7⟩
        clear hz hel HR
        go_wp2_with fail
        go_region_held3 (fun W => W.cell? ⟨rb, 0, none⟩ = some (.slice (some ⟨b, off, none⟩) T.length cap) ∧ W.cell? ⟨b, off + m * 10 + 7, none⟩ = some (.string (bs a)) ∧ W.cell? ⟨bx, 7, none⟩ = some (.string (bs k)))
          (exact HF.out) (fail)
        rename_i hHeld
        clear hHeld d0 e7 x7 HF
        cases z
        · have hq := HQ.out HZ.out
          subst hq
          go_wp2_with fail
          go_meet
          exact ⟨rfl, HX.out.1.drew, HX.out.2.on (Below.refl _ _).drew⟩
        · have HN : Hid _ := HK.out HZ.out
          go_wp2_with fail
          go_roundw
          case rel => exact ⟨HX.out.1.drew, HX.out.2.on (Below.refl _ _).drew, m + 1, by omega, by go_num, HN.out⟩
          case measure => simp [intOf]; omega
      · have hml' : ¬ (m : Int) < T.length := by omega
        have hd : decide ((m : Int) < T.length) = false := by simpa using hml'
        have hq := HPl.out m hm HA.out (fun h => absurd h hml)
        subst hq
        clear HR
        go_wp2_with fail
        go_quiet (fail)
        go_wp2_with fail
        go_meet
        exact ⟨rfl, below_drewN HX.out.1 _, HX.out.2.on (below_drewN (Below.refl _ _) _)⟩
  case rest =>
    obtain ⟨rfl, hbw, hix⟩ := hcut
    have HBw : Hid (Below w.heap.size w wc) := by rw [HBX.out]; exact hbw
    have HIx : Hid (InAt wc bx 0 (k, ⟨c, n, sp, sl', mp, ml, prim, val, dead⟩)) := hix
    have H1 : Hid (RtAt B rb (.slice ao T.length cap) T wc) := H.out.on HBw.out
    have hm := HP.out
    clear hbw hix HBx HPl
    rcases h2 with ⟨h2, rfl⟩ | ⟨g, cap', h2, hlc, hcm⟩
    · simp only [Value.slice.injEq] at h2
      obtain ⟨rfl, _, rfl⟩ := h2
      have hm0 : pn = 0 := by simpa using hm
      subst hm0
      clear hm
      have HD : Hid (∀ W, RtAt B rb (.slice none 0 0) [] W → RwAt W.heap.size 10 (.slice none 0 0) 0 (rowC inc (([] : Tb).drop 0)) W ∧ (([] : Tb).drop 0).length = 0) := fun W _ => ⟨RwAt.nil _ _ _, rfl⟩
      have HTk : Hid (∀ W, RtAt B rb (.slice none 0 0) ([] : Tb) W → RwAt W.heap.size 10 (.slice none 0 0) 0 (rowC inc (([] : Tb).take 0)) W) := fun W h => RwAt.nil _ _ _
      have c0 := H1.out.cell
      have HO1 : Hid (Ow wc.heap.size 49 10 (.slice none 0 0) 0 [] wc.heap.size (.slice none 0 0) 0 (rowC inc (([] : Tb).take 0)) wc) := ⟨own_nil _ _ _ _, HTk.out _ H1.out, rowC_cells inc inc_one _, Nat.le_refl _, by have := HL.out; have := HP.out; omega⟩
      go_wp2_with (at_builtin; refine wpList_append_rw HO1.out Try.underlying27 hin hi0 hi1 hi2 rfl (by decide) (by decide) (.tmp 30) (.tmp 36) rfl rfl rfl rfl ?_)
      intro va w2 hown hg hat
      have HB2 : Hid (Below wc.heap.size wc w2) := below_own (Below.refl _ _) (Nat.le_refl _) HO1.out.own hg
      have HO2 : Hid (Ow wc.heap.size 49 10 va 0 (rowC inc (([] : Tb).take 0)) (w2.heap.size + 1) (.slice (some ⟨w2.heap.size, 0, none⟩) 1 1) 1 (rowC inc [(k, ⟨c, n, sp, sl', mp, ml, prim, val, dead⟩)]) (w2.alloc (.cells #[.int .u32 c, .int .u32 n, .int .u64 sp, .int .u32 sl', .int .u64 mp, .int .u32 ml, .string (bs prim), .string (bs k), .string (bs val), .bool dead] 49))) := by
        obtain ⟨va1, va2, rfl, -⟩ := rw_own hown
        exact in_ow' (k, ⟨c, n, sp, sl', mp, ml, prim, val, dead⟩) (by simpa using hown) HB2.out.size (by have := HL.out; have := HP.out; omega)
      have HI2 : Hid (InAt w2 bx 0 (k, ⟨c, n, sp, sl', mp, ml, prim, val, dead⟩)) := HIx.out.on HB2.out
      clear hown hg hat c0
      obtain ⟨y0, y1, y2, y3, y4, y5, y6, y7, y8, y9⟩ := HI2.out
      simp only [Nat.zero_add] at y0 y1 y2 y3 y4 y5 y6 y7 y8 y9
      go_wp2_with (at_builtin; refine wpList_append_rw HO2.out Try.underlying27 hin hi0 hi1 hi2 rfl (by decide) (by decide) (.tmp 38) (.tmp 40) rfl rfl rfl rfl ?_)
      intro vb w3 hown hg hat
      have HB3 : Hid (Below wc.heap.size wc w3) := below_own (HB2.out.alloc HB2.out.size _) HO2.out.size HO2.out.own hg
      have H3 : Hid (RtAt B rb (.slice none 0 0) ([] : Tb) w3) := H1.out.on HB3.out
      have HO3 : Hid (Ow wc.heap.size 49 10 vb (0 + 1) (rowC inc (([] : Tb).take 0) ++ rowC inc [(k, ⟨c, n, sp, sl', mp, ml, prim, val, dead⟩)]) w3.heap.size (.slice none 0 0) 0 (rowC inc (([] : Tb).drop 0)) w3) := ⟨by simpa using hown, (HD.out _ H3.out).1, rowC_cells inc inc_one _, HB3.out.size, by have := HL.out; have := HP.out; omega⟩
      clear hown hg hat y0 y1 y2 y3 y4 y5 y6 y7 y8 y9
      have c0 := H3.out.cell
      go_wp2_with (at_builtin; refine wpList_append_rw HO3.out Try.underlying27 hin hi0 hi1 hi2 rfl (by decide) (by decide) (.tmp 43) (.tmp 49) rfl rfl rfl rfl ?_)
      intro vd w4 hown hg hat
      have HB4 : Hid (Below wc.heap.size wc w4) := below_own HB3.out HO3.out.size HO3.out.own hg
      have H4 : Hid (RtAt B rb (.slice none 0 0) ([] : Tb) w4) := H1.out.on HB4.out
      have HF : Hid (w4.ownsRow wc.heap.size 49 10 vd y.length (rowC inc y)) := by
        have e1 : rowC inc y = rowC inc (([] : Tb).take 0) ++ rowC inc [(k, ⟨c, n, sp, sl', mp, ml, prim, val, dead⟩)] ++ rowC inc (([] : Tb).drop 0) := by rw [HS.out, rowC_append, rowC_cons, rowC_one, List.append_assoc]
        have e2 : y.length = 0 + 1 + 0 := by
          have := (HD.out _ H3.out).2
          have hmm := HP.out
          rw [HS.out]
          simp only [List.length_append, List.length_cons, List.length_take]
          omega
        have hf : w4.ownsRow wc.heap.size 49 10 vd (0 + 1 + 0) (rowC inc (([] : Tb).take 0) ++ rowC inc [(k, ⟨c, n, sp, sl', mp, ml, prim, val, dead⟩)] ++ rowC inc (([] : Tb).drop 0)) := by simpa using hown
        rw [← e1, ← e2] at hf
        exact hf
      clear hown hg hat c0
      obtain ⟨da, dc, rfl, -, -, -, -⟩ := rw_own HF.out
      have c0 := H4.out.cell
      have f0 := H4.out.frozen
      go_wp2_with fail
      go_end0
      exact ⟨rfl, _, H.out.put HBw.out HB4.out HF.out HOk.out⟩
    · simp only [Value.slice.injEq] at h2
      obtain ⟨rfl, _, rfl⟩ := h2
      by_cases hne : cap = pn
      · subst hne
        have hlm : T.length = cap := by omega
        have HD : Hid (∀ W, RtAt B rb (.slice (some ⟨g, 0, none⟩) T.length cap) T W → RwAt W.heap.size 10 (.slice (some ⟨g, 0, none⟩) 0 0) 0 (rowC inc (T.drop cap)) W ∧ (T.drop cap).length = 0) := fun W h => by
          have := RwAt.drop h.is hm
          rw [if_pos rfl, Nat.sub_self, rowC_drop inc_len, show T.length - cap = 0 from by omega] at this
          exact ⟨this, by simp; omega⟩
        have HLm : Hid _ := hlm
        clear hlm
        have HTk : Hid (∀ W, RtAt B rb (.slice (some ⟨g, 0, none⟩) T.length cap) T W → RwAt W.heap.size 10 (.slice (some ⟨g, 0, none⟩) cap cap) cap (rowC inc (T.take cap)) W) := fun W h => by
          have := RwAt.take (ao := (some ⟨g, 0, none⟩)) (cap := cap) (n := T.length) h.is (show cap ≤ T.length by omega)
          rw [rowC_take inc_len] at this
          exact this
        have c0 := H1.out.cell
        have HO1 : Hid (Ow wc.heap.size 49 10 (.slice none 0 0) 0 [] wc.heap.size (.slice (some ⟨g, 0, none⟩) cap cap) cap (rowC inc (T.take cap)) wc) := ⟨own_nil _ _ _ _, HTk.out _ H1.out, rowC_cells inc inc_one _, Nat.le_refl _, by have := HL.out; have := HP.out; omega⟩
        go_wp2_with (at_builtin; refine wpList_append_rw HO1.out Try.underlying27 hin hi0 hi1 hi2 rfl (by decide) (by decide) (.tmp 30) (.tmp 36) rfl rfl rfl rfl ?_)
        intro va w2 hown hg hat
        have HB2 : Hid (Below wc.heap.size wc w2) := below_own (Below.refl _ _) (Nat.le_refl _) HO1.out.own hg
        have HO2 : Hid (Ow wc.heap.size 49 10 va cap (rowC inc (T.take cap)) (w2.heap.size + 1) (.slice (some ⟨w2.heap.size, 0, none⟩) 1 1) 1 (rowC inc [(k, ⟨c, n, sp, sl', mp, ml, prim, val, dead⟩)]) (w2.alloc (.cells #[.int .u32 c, .int .u32 n, .int .u64 sp, .int .u32 sl', .int .u64 mp, .int .u32 ml, .string (bs prim), .string (bs k), .string (bs val), .bool dead] 49))) := by
          obtain ⟨va1, va2, rfl, -⟩ := rw_own hown
          exact in_ow' (k, ⟨c, n, sp, sl', mp, ml, prim, val, dead⟩) (by simpa using hown) HB2.out.size (by have := HL.out; have := HP.out; omega)
        have HI2 : Hid (InAt w2 bx 0 (k, ⟨c, n, sp, sl', mp, ml, prim, val, dead⟩)) := HIx.out.on HB2.out
        clear hown hg hat c0
        obtain ⟨y0, y1, y2, y3, y4, y5, y6, y7, y8, y9⟩ := HI2.out
        simp only [Nat.zero_add] at y0 y1 y2 y3 y4 y5 y6 y7 y8 y9
        go_wp2_with (at_builtin; refine wpList_append_rw HO2.out Try.underlying27 hin hi0 hi1 hi2 rfl (by decide) (by decide) (.tmp 38) (.tmp 40) rfl rfl rfl rfl ?_)
        intro vb w3 hown hg hat
        have HB3 : Hid (Below wc.heap.size wc w3) := below_own (HB2.out.alloc HB2.out.size _) HO2.out.size HO2.out.own hg
        have H3 : Hid (RtAt B rb (.slice (some ⟨g, 0, none⟩) T.length cap) T w3) := H1.out.on HB3.out
        have HO3 : Hid (Ow wc.heap.size 49 10 vb (cap + 1) (rowC inc (T.take cap) ++ rowC inc [(k, ⟨c, n, sp, sl', mp, ml, prim, val, dead⟩)]) w3.heap.size (.slice (some ⟨g, 0, none⟩) 0 0) 0 (rowC inc (T.drop cap)) w3) := ⟨by simpa using hown, (HD.out _ H3.out).1, rowC_cells inc inc_one _, HB3.out.size, by have := HL.out; have := HP.out; omega⟩
        clear hown hg hat y0 y1 y2 y3 y4 y5 y6 y7 y8 y9
        have c0 := H3.out.cell
        go_wp2_with (at_builtin; refine wpList_append_rw HO3.out Try.underlying27 hin hi0 hi1 hi2 rfl (by decide) (by decide) (.tmp 43) (.tmp 49) rfl rfl rfl rfl ?_)
        intro vd w4 hown hg hat
        have HB4 : Hid (Below wc.heap.size wc w4) := below_own HB3.out HO3.out.size HO3.out.own hg
        have H4 : Hid (RtAt B rb (.slice (some ⟨g, 0, none⟩) T.length cap) T w4) := H1.out.on HB4.out
        have HF : Hid (w4.ownsRow wc.heap.size 49 10 vd y.length (rowC inc y)) := by
          have e1 : rowC inc y = rowC inc (T.take cap) ++ rowC inc [(k, ⟨c, n, sp, sl', mp, ml, prim, val, dead⟩)] ++ rowC inc (T.drop cap) := by rw [HS.out, rowC_append, rowC_cons, rowC_one, List.append_assoc]
          have e2 : y.length = cap + 1 + 0 := by
            have := (HD.out _ H3.out).2
            have hmm := HP.out
            rw [HS.out]
            simp only [List.length_append, List.length_cons, List.length_take]
            omega
          have hf : w4.ownsRow wc.heap.size 49 10 vd (cap + 1 + 0) (rowC inc (T.take cap) ++ rowC inc [(k, ⟨c, n, sp, sl', mp, ml, prim, val, dead⟩)] ++ rowC inc (T.drop cap)) := by simpa using hown
          rw [← e1, ← e2] at hf
          exact hf
        clear hown hg hat c0
        obtain ⟨da, dc, rfl, -, -, -, -⟩ := rw_own HF.out
        have c0 := H4.out.cell
        have f0 := H4.out.frozen
        go_wp2_with fail
        go_end0
        exact ⟨rfl, _, H.out.put HBw.out HB4.out HF.out HOk.out⟩
      · have HD : Hid (∀ W, RtAt B rb (.slice (some ⟨g, 0, none⟩) T.length cap) T W → RwAt W.heap.size 10 (.slice (some ⟨g, pn * 10, none⟩) (T.length - pn) (cap - pn)) (T.length - pn) (rowC inc (T.drop pn)) W ∧ (T.drop pn).length = T.length - pn) := fun W h => by
          have := RwAt.drop h.is hm
          rw [if_neg hne, rowC_drop inc_len] at this
          simp only [Option.map_some, Addr.add_lit, Nat.zero_add] at this
          exact ⟨this, by simp⟩
        have hmc : pn ≤ cap := by omega
        have HTk : Hid (∀ W, RtAt B rb (.slice (some ⟨g, 0, none⟩) T.length cap) T W → RwAt W.heap.size 10 (.slice (some ⟨g, 0, none⟩) pn cap) pn (rowC inc (T.take pn)) W) := fun W h => by
          have := RwAt.take (ao := (some ⟨g, 0, none⟩)) (cap := cap) (n := T.length) h.is (show pn ≤ T.length by omega)
          rw [rowC_take inc_len] at this
          exact this
        have c0 := H1.out.cell
        have HO1 : Hid (Ow wc.heap.size 49 10 (.slice none 0 0) 0 [] wc.heap.size (.slice (some ⟨g, 0, none⟩) pn cap) pn (rowC inc (T.take pn)) wc) := ⟨own_nil _ _ _ _, HTk.out _ H1.out, rowC_cells inc inc_one _, Nat.le_refl _, by have := HL.out; have := HP.out; omega⟩
        go_wp2_with (at_builtin; refine wpList_append_rw HO1.out Try.underlying27 hin hi0 hi1 hi2 rfl (by decide) (by decide) (.tmp 30) (.tmp 36) rfl rfl rfl rfl ?_)
        intro va w2 hown hg hat
        have HB2 : Hid (Below wc.heap.size wc w2) := below_own (Below.refl _ _) (Nat.le_refl _) HO1.out.own hg
        have HO2 : Hid (Ow wc.heap.size 49 10 va pn (rowC inc (T.take pn)) (w2.heap.size + 1) (.slice (some ⟨w2.heap.size, 0, none⟩) 1 1) 1 (rowC inc [(k, ⟨c, n, sp, sl', mp, ml, prim, val, dead⟩)]) (w2.alloc (.cells #[.int .u32 c, .int .u32 n, .int .u64 sp, .int .u32 sl', .int .u64 mp, .int .u32 ml, .string (bs prim), .string (bs k), .string (bs val), .bool dead] 49))) := by
          obtain ⟨va1, va2, rfl, -⟩ := rw_own hown
          exact in_ow' (k, ⟨c, n, sp, sl', mp, ml, prim, val, dead⟩) (by simpa using hown) HB2.out.size (by have := HL.out; have := HP.out; omega)
        have HI2 : Hid (InAt w2 bx 0 (k, ⟨c, n, sp, sl', mp, ml, prim, val, dead⟩)) := HIx.out.on HB2.out
        clear hown hg hat c0
        obtain ⟨y0, y1, y2, y3, y4, y5, y6, y7, y8, y9⟩ := HI2.out
        simp only [Nat.zero_add] at y0 y1 y2 y3 y4 y5 y6 y7 y8 y9
        go_wp2_with (at_builtin; refine wpList_append_rw HO2.out Try.underlying27 hin hi0 hi1 hi2 rfl (by decide) (by decide) (.tmp 38) (.tmp 40) rfl rfl rfl rfl ?_)
        intro vb w3 hown hg hat
        have HB3 : Hid (Below wc.heap.size wc w3) := below_own (HB2.out.alloc HB2.out.size _) HO2.out.size HO2.out.own hg
        have H3 : Hid (RtAt B rb (.slice (some ⟨g, 0, none⟩) T.length cap) T w3) := H1.out.on HB3.out
        have HO3 : Hid (Ow wc.heap.size 49 10 vb (pn + 1) (rowC inc (T.take pn) ++ rowC inc [(k, ⟨c, n, sp, sl', mp, ml, prim, val, dead⟩)]) w3.heap.size (.slice (some ⟨g, pn * 10, none⟩) (T.length - pn) (cap - pn)) (T.length - pn) (rowC inc (T.drop pn)) w3) := ⟨by simpa using hown, (HD.out _ H3.out).1, rowC_cells inc inc_one _, HB3.out.size, by have := HL.out; have := HP.out; omega⟩
        clear hown hg hat y0 y1 y2 y3 y4 y5 y6 y7 y8 y9
        have c0 := H3.out.cell
        go_wp2_with (at_builtin; refine wpList_append_rw HO3.out Try.underlying27 hin hi0 hi1 hi2 rfl (by decide) (by decide) (.tmp 43) (.tmp 49) rfl rfl rfl rfl ?_)
        intro vd w4 hown hg hat
        have HB4 : Hid (Below wc.heap.size wc w4) := below_own HB3.out HO3.out.size HO3.out.own hg
        have H4 : Hid (RtAt B rb (.slice (some ⟨g, 0, none⟩) T.length cap) T w4) := H1.out.on HB4.out
        have HF : Hid (w4.ownsRow wc.heap.size 49 10 vd y.length (rowC inc y)) := by
          have e1 : rowC inc y = rowC inc (T.take pn) ++ rowC inc [(k, ⟨c, n, sp, sl', mp, ml, prim, val, dead⟩)] ++ rowC inc (T.drop pn) := by rw [HS.out, rowC_append, rowC_cons, rowC_one, List.append_assoc]
          have e2 : y.length = pn + 1 + (T.length - pn) := by
            have := (HD.out _ H3.out).2
            have hmm := HP.out
            rw [HS.out]
            simp only [List.length_append, List.length_cons, List.length_take]
            omega
          have hf : w4.ownsRow wc.heap.size 49 10 vd (pn + 1 + (T.length - pn)) (rowC inc (T.take pn) ++ rowC inc [(k, ⟨c, n, sp, sl', mp, ml, prim, val, dead⟩)] ++ rowC inc (T.drop pn)) := by simpa using hown
          rw [← e1, ← e2] at hf
          exact hf
        clear hown hg hat c0
        obtain ⟨da, dc, rfl, -, -, -, -⟩ := rw_own HF.out
        have c0 := H4.out.cell
        have f0 := H4.out.frozen
        go_wp2_with fail
        go_end0
        exact ⟨rfl, _, H.out.put HBw.out HB4.out HF.out HOk.out⟩
end Go.Proofs.Ytknfkpnicjellaa
