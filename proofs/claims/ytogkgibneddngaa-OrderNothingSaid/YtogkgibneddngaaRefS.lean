/-
  The document's Set and Cut.
-/
import Derived.Test.YtogkgibneddngaaRef
namespace Go.Proofs.Ytogkgibneddngaa
open Go.RowKit

theorem RefAt.two {B rb : Nat} {sl : Value} {L : Kv} {w : World} (h : RefAt B rb sl L w) : (sl = .slice none 0 0 ∧ L = []) ∨ ∃ g cap, sl = .slice (some ⟨g, 0, none⟩) L.length cap ∧ L.length ≤ cap ∧ cap ≤ 9223372036854775807 := by
  rcases h.row.2 with ⟨e, h0⟩ | ⟨g, cap, cur, e, _, _, h1, h2, _⟩
  · exact .inl ⟨e, List.eq_nil_of_length_eq_zero h0⟩
  · exact .inr ⟨g, cap, e, h1, by unfold maxLen at h2; omega⟩
theorem RefAt.its {B rb : Nat} {sl : Value} {L : Kv} {w : World} (h : RefAt B rb sl L w) : RwAt w.heap.size 2 sl L.length (itc L) w := rw_own h.row
/-- What the new row comes to: the box holds it. -/
theorem RefAt.put {B rb : Nat} {sl v' : Value} {L L' : Kv} {w w1 w5 : World} (h : RefAt B rb sl L w) (hb1 : Below w.heap.size w w1) (h5 : Below w1.heap.size w1 w5) (hown : w5.ownsRow w1.heap.size 56 2 v' L'.length (itc L')) (hs : Srt L') :
    RefAt B rb v' L' (w5.setCell ⟨rb, 0, none⟩ v') ∧ Kept (foot rb sl) w (w5.setCell ⟨rb, 0, none⟩ v') ∧ ∀ i, foot rb v' i → foot rb sl i ∨ w.heap.size ≤ i := by
  have hlt : rb < w.heap.size := (h.lt (.inl rfl)).2
  have h5' : RefAt B rb sl L w5 := (h.on hb1).on h5
  have hne : v'.ownBlock ≠ some rb := fun e => by
    have := (World.ownsRow.lt hown rb e).1
    have := hb1.size
    omega
  have hB : B ≤ w1.heap.size := by have := h.lo; have := hb1.size; omega
  refine ⟨⟨box_set h5'.box, own_kept (own_le hown hB) (set_kept (fun k => k = rb) w5 ⟨rb, 0, none⟩ v' rfl) (fun k e he => hne (he ▸ e)), h.lo, hne, hs⟩, ?_, fun i hi => ?_⟩
  · have k1 : Kept (foot rb sl) w w5 := Kept.of_below (hb1.trans (h5.mono hb1.size))
    exact k1.trans (set_kept (foot rb sl) w5 ⟨rb, 0, none⟩ v' (.inl rfl)) (fun i hi => .inl hi)
  · rcases hi with rfl | hi
    · exact .inl (.inl rfl)
    · have := (World.ownsRow.lt hown i hi).1
      have := hb1.size
      exact .inr (by omega)
theorem own_nil (base e size : Nat) (w : World) : w.ownsRow base e size (.slice none 0 0) 0 [] := World.ownsRow_nil w base e size
theorem rw_one (w : World) (k : List UInt8) (v : Int) : RwAt (w.heap.size + 1) 2 (.slice (some ⟨w.heap.size, 0, none⟩) 1 1) 1 (itc [(k, v)]) (w.alloc (.cells #[.string (bs k), .int .i64 v] 56)) := by
  refine ⟨_, 1, rfl, rfl, Nat.le_refl _, by omega, fun _ => ⟨w.heap.size, 0, rfl, fun _ => Nat.lt_succ_self _, fun j u hj => ?_⟩⟩
  match j, hj with
  | 0, hj => simp [itc] at hj; subst hj; simp [go_sem]
  | 1, hj => simp [itc] at hj; subst hj; simp [go_sem]
  | j + 2, hj => simp [itc] at hj
theorem below_own {base e size : Nat} {v : Value} {n : Nat} {cs : List Value} {a w w' : World} (hb : Below base a w) (hs : base ≤ w.heap.size) (hI : w.ownsRow base e size v n cs) (hg : w.grownBy w' v.ownBlock) : Below base a w' :=
  hb.grown hg hs fun k hk => (World.ownsRow.lt hI k hk).1

set_option maxHeartbeats 3200000 in
set_option maxRecDepth 100000 in
theorem refSet10 (B rb : Nat) (sl : Value) (L : Kv) (k : List UInt8) (v : Int) (w : World) (h : RefAt B rb sl L w) (hl : L.length < 1000000) :
    Calls Try.prog 10 #[.pointer (some ⟨rb, 0, none⟩), .string (bs k), .int .i64 v] w fun e w' => e = .returned (.tuple #[]) ∧ ∃ sl', RefAt B rb sl' (setF k v L) w' ∧ Kept (foot rb sl) w w' ∧ ∀ i, foot rb sl' i → foot rb sl i ∨ w.heap.size ≤ i := by
  obtain ⟨i0, hi, hz0, hz1, hz2⟩ := info_parts info54
  have H : Hid (RefAt B rb sl L w) := h
  have CP : Hid (1 = 1 → _) := fun _ => place21 B rb _ L k w h
  have HS : Hid (setF k v L = if thereB k L then L.set (placeN k L) (k, v) else L.take (placeN k L) ++ (k, v) :: L.drop (placeN k L)) := set_place
  have HT : Hid (thereB k L = true → placeN k L < L.length ∧ (L.getD (placeN k L) dk).1 = k) := there_lt
  have HP : Hid (placeN k L ≤ L.length) := placeN_le k L
  have HSr : Hid (Srt (setF k v L)) := setF_srt h.srt
  have HL : Hid _ := hl
  have h2 := h.two
  clear h hl
  generalize setF k v L = y at *
  generalize placeN k L = m at *
  generalize thereB k L = z at *
  cases z
  · have HY : Hid (y = L.take m ++ (k, v) :: L.drop m) := HS.out
    clear HS HT
    have hm := HP.out
    rcases h2 with ⟨rfl, rfl⟩ | ⟨g, cap, rfl, hlc, hcm⟩
    · have hm0 : m = 0 := by simpa using hm
      subst hm0
      clear hm
      have HD : Hid (∀ W, RefAt B rb (.slice none 0 0) [] W → RwAt W.heap.size 2 (.slice none 0 0) 0 (itc (([] : Kv).drop 0)) W ∧ (([] : Kv).drop 0).length = 0) := fun W _ => ⟨RwAt.nil _ _ _, rfl⟩
      have HTk : Hid (∀ W, RefAt B rb (.slice none 0 0) ([] : Kv) W → RwAt W.heap.size 2 (.slice none 0 0) 0 (itc (([] : Kv).take 0)) W) := fun W h => by
        have := RwAt.take (ao := none) (cap := 0) (n := ([] : Kv).length) h.its (show 0 ≤ ([] : Kv).length by omega)
        rw [itc_take] at this
        exact this
      go_enter Try.func10, Try.ntmps10
      go_wp2_with fail
      refine (CP.out (by trivial)).mono ?_
      rintro e w1 ⟨rfl, hb1⟩
      have H1 : Hid (RefAt B rb (.slice none 0 0) ([] : Kv) w1) := H.out.on hb1
      have HB1 : Hid _ := hb1
      clear hb1 CP
      have c0 := H1.out.cell
      have HO1 : Hid (Ow w1.heap.size 56 2 (.slice none 0 0) 0 [] w1.heap.size (.slice none 0 0) 0 (itc (([] : Kv).take 0)) w1) := ⟨own_nil _ _ _ _, HTk.out _ H1.out, itc_one _, Nat.le_refl _, by have := HL.out; omega⟩
      go_wp2_with (at_builtin; refine wpList_append_rw HO1.out Try.underlying27 hi hz0 hz1 hz2 rfl (by decide) (by decide) (.tmp 24) (.tmp 30) rfl rfl rfl rfl ?_)
      intro va w2 hown hg hat
      have H2 : Hid (RefAt B rb (.slice none 0 0) ([] : Kv) w2) := H1.out.on (below_own (Below.refl _ _) (Nat.le_refl _) HO1.out.own hg)
      have HB2 : Hid (Below w1.heap.size w1 w2) := below_own (Below.refl _ _) (Nat.le_refl _) HO1.out.own hg
      have HO2 : Hid (Ow w1.heap.size 56 2 va 0 (itc (([] : Kv).take 0)) (w2.heap.size + 1) (.slice (some ⟨w2.heap.size, 0, none⟩) 1 1) 1 (itc [(k, v)]) (w2.alloc (.cells #[.string (bs k), .int .i64 v] 56))) := ⟨World.ownsRow.alloc (by simpa using hown) _, rw_one w2 k v, itc_one _, Nat.le_trans HB2.out.size (by simp), by have := HL.out; omega⟩
      clear hown hg hat c0
      go_wp2_with (at_builtin; refine wpList_append_rw HO2.out Try.underlying27 hi hz0 hz1 hz2 rfl (by decide) (by decide) (.tmp 32) (.tmp 36) rfl rfl rfl rfl ?_)
      intro vb w3 hown hg hat
      have HB3 : Hid (Below w1.heap.size w1 w3) := below_own (HB2.out.alloc HB2.out.size _) HO2.out.size HO2.out.own hg
      have H3 : Hid (RefAt B rb (.slice none 0 0) ([] : Kv) w3) := H1.out.on HB3.out
      have HO3 : Hid (Ow w1.heap.size 56 2 vb (0 + 1) (itc (([] : Kv).take 0) ++ itc [(k, v)]) w3.heap.size (.slice none 0 0) 0 (itc (([] : Kv).drop 0)) w3) := ⟨by simpa using hown, (HD.out _ H3.out).1, itc_one _, HB3.out.size, by have := HL.out; omega⟩
      clear hown hg hat
      have c0 := H3.out.cell
      go_wp2_with (at_builtin; refine wpList_append_rw HO3.out Try.underlying27 hi hz0 hz1 hz2 rfl (by decide) (by decide) (.tmp 39) (.tmp 45) rfl rfl rfl rfl ?_)
      intro vd w4 hown hg hat
      have HB4 : Hid (Below w1.heap.size w1 w4) := below_own HB3.out HO3.out.size HO3.out.own hg
      have H4 : Hid (RefAt B rb (.slice none 0 0) ([] : Kv) w4) := H1.out.on HB4.out
      have HF : Hid (w4.ownsRow w1.heap.size 56 2 vd y.length (itc y)) := by
        have e1 : itc y = itc (([] : Kv).take 0) ++ itc [(k, v)] ++ itc (([] : Kv).drop 0) := by rw [HY.out, itc_append]; simp [itc]
        have e2 : y.length = 0 + 1 + 0 := by
          have := (HD.out _ H3.out).2
          have hmm := HP.out
          rw [HY.out]
          simp only [List.length_append, List.length_cons, List.length_take]
          omega
        have hf : w4.ownsRow w1.heap.size 56 2 vd (0 + 1 + 0) (itc (([] : Kv).take 0) ++ itc [(k, v)] ++ itc (([] : Kv).drop 0)) := by simpa using hown
        rw [← e1, ← e2] at hf
        exact hf
      clear hown hg hat c0
      obtain ⟨da, dc, rfl, -, -, -, -⟩ := rw_own HF.out
      have c0 := H4.out.cell
      have f0 := H4.out.frozen
      go_wp2_with fail
      go_end0
      exact ⟨rfl, _, H.out.put HB1.out HB4.out HF.out HSr.out⟩
    · by_cases hne : cap = m
      · subst hne
        have hlm : L.length = cap := by omega
        have HD : Hid (∀ W, RefAt B rb (.slice (some ⟨g, 0, none⟩) L.length cap) L W → RwAt W.heap.size 2 (.slice (some ⟨g, 0, none⟩) 0 0) 0 (itc (L.drop cap)) W ∧ (L.drop cap).length = 0) := fun W h => by
          have := RwAt.drop h.its hm
          rw [if_pos rfl, Nat.sub_self, itc_drop, show L.length - cap = 0 from by omega] at this
          exact ⟨this, by simp; omega⟩
        have HLm : Hid _ := hlm
        clear hlm
        have HTk : Hid (∀ W, RefAt B rb (.slice (some ⟨g, 0, none⟩) L.length cap) L W → RwAt W.heap.size 2 (.slice (some ⟨g, 0, none⟩) cap cap) cap (itc (L.take cap)) W) := fun W h => by
          have := RwAt.take (ao := (some ⟨g, 0, none⟩)) (cap := cap) (n := L.length) h.its (show cap ≤ L.length by omega)
          rw [itc_take] at this
          exact this
        go_enter Try.func10, Try.ntmps10
        go_wp2_with fail
        refine (CP.out (by trivial)).mono ?_
        rintro e w1 ⟨rfl, hb1⟩
        have H1 : Hid (RefAt B rb (.slice (some ⟨g, 0, none⟩) L.length cap) L w1) := H.out.on hb1
        have HB1 : Hid _ := hb1
        clear hb1 CP
        have c0 := H1.out.cell
        have HO1 : Hid (Ow w1.heap.size 56 2 (.slice none 0 0) 0 [] w1.heap.size (.slice (some ⟨g, 0, none⟩) cap cap) cap (itc (L.take cap)) w1) := ⟨own_nil _ _ _ _, HTk.out _ H1.out, itc_one _, Nat.le_refl _, by have := HL.out; omega⟩
        go_wp2_with (at_builtin; refine wpList_append_rw HO1.out Try.underlying27 hi hz0 hz1 hz2 rfl (by decide) (by decide) (.tmp 24) (.tmp 30) rfl rfl rfl rfl ?_)
        intro va w2 hown hg hat
        have H2 : Hid (RefAt B rb (.slice (some ⟨g, 0, none⟩) L.length cap) L w2) := H1.out.on (below_own (Below.refl _ _) (Nat.le_refl _) HO1.out.own hg)
        have HB2 : Hid (Below w1.heap.size w1 w2) := below_own (Below.refl _ _) (Nat.le_refl _) HO1.out.own hg
        have HO2 : Hid (Ow w1.heap.size 56 2 va cap (itc (L.take cap)) (w2.heap.size + 1) (.slice (some ⟨w2.heap.size, 0, none⟩) 1 1) 1 (itc [(k, v)]) (w2.alloc (.cells #[.string (bs k), .int .i64 v] 56))) := ⟨World.ownsRow.alloc (by simpa using hown) _, rw_one w2 k v, itc_one _, Nat.le_trans HB2.out.size (by simp), by have := HL.out; omega⟩
        clear hown hg hat c0
        go_wp2_with (at_builtin; refine wpList_append_rw HO2.out Try.underlying27 hi hz0 hz1 hz2 rfl (by decide) (by decide) (.tmp 32) (.tmp 36) rfl rfl rfl rfl ?_)
        intro vb w3 hown hg hat
        have HB3 : Hid (Below w1.heap.size w1 w3) := below_own (HB2.out.alloc HB2.out.size _) HO2.out.size HO2.out.own hg
        have H3 : Hid (RefAt B rb (.slice (some ⟨g, 0, none⟩) L.length cap) L w3) := H1.out.on HB3.out
        have HO3 : Hid (Ow w1.heap.size 56 2 vb (cap + 1) (itc (L.take cap) ++ itc [(k, v)]) w3.heap.size (.slice (some ⟨g, 0, none⟩) 0 0) 0 (itc (L.drop cap)) w3) := ⟨by simpa using hown, (HD.out _ H3.out).1, itc_one _, HB3.out.size, by have := HL.out; omega⟩
        clear hown hg hat
        have c0 := H3.out.cell
        go_wp2_with (at_builtin; refine wpList_append_rw HO3.out Try.underlying27 hi hz0 hz1 hz2 rfl (by decide) (by decide) (.tmp 39) (.tmp 45) rfl rfl rfl rfl ?_)
        intro vd w4 hown hg hat
        have HB4 : Hid (Below w1.heap.size w1 w4) := below_own HB3.out HO3.out.size HO3.out.own hg
        have H4 : Hid (RefAt B rb (.slice (some ⟨g, 0, none⟩) L.length cap) L w4) := H1.out.on HB4.out
        have HF : Hid (w4.ownsRow w1.heap.size 56 2 vd y.length (itc y)) := by
          have e1 : itc y = itc (L.take cap) ++ itc [(k, v)] ++ itc (L.drop cap) := by rw [HY.out, itc_append]; simp [itc]
          have e2 : y.length = cap + 1 + 0 := by
            have := (HD.out _ H3.out).2
            have hmm := HP.out
            rw [HY.out]
            simp only [List.length_append, List.length_cons, List.length_take]
            omega
          have hf : w4.ownsRow w1.heap.size 56 2 vd (cap + 1 + 0) (itc (L.take cap) ++ itc [(k, v)] ++ itc (L.drop cap)) := by simpa using hown
          rw [← e1, ← e2] at hf
          exact hf
        clear hown hg hat c0
        obtain ⟨da, dc, rfl, -, -, -, -⟩ := rw_own HF.out
        have c0 := H4.out.cell
        have f0 := H4.out.frozen
        go_wp2_with fail
        go_end0
        exact ⟨rfl, _, H.out.put HB1.out HB4.out HF.out HSr.out⟩
      · have HD : Hid (∀ W, RefAt B rb (.slice (some ⟨g, 0, none⟩) L.length cap) L W → RwAt W.heap.size 2 (.slice (some ⟨g, m * 2, none⟩) (L.length - m) (cap - m)) (L.length - m) (itc (L.drop m)) W ∧ (L.drop m).length = L.length - m) := fun W h => by
          have := RwAt.drop h.its hm
          rw [if_neg hne, itc_drop] at this
          simp only [Option.map_some, Addr.add_lit, Nat.zero_add] at this
          exact ⟨this, by simp⟩
        have hmc : m ≤ cap := by omega
        have HTk : Hid (∀ W, RefAt B rb (.slice (some ⟨g, 0, none⟩) L.length cap) L W → RwAt W.heap.size 2 (.slice (some ⟨g, 0, none⟩) m cap) m (itc (L.take m)) W) := fun W h => by
          have := RwAt.take (ao := (some ⟨g, 0, none⟩)) (cap := cap) (n := L.length) h.its (show m ≤ L.length by omega)
          rw [itc_take] at this
          exact this
        go_enter Try.func10, Try.ntmps10
        go_wp2_with fail
        refine (CP.out (by trivial)).mono ?_
        rintro e w1 ⟨rfl, hb1⟩
        have H1 : Hid (RefAt B rb (.slice (some ⟨g, 0, none⟩) L.length cap) L w1) := H.out.on hb1
        have HB1 : Hid _ := hb1
        clear hb1 CP
        have c0 := H1.out.cell
        have HO1 : Hid (Ow w1.heap.size 56 2 (.slice none 0 0) 0 [] w1.heap.size (.slice (some ⟨g, 0, none⟩) m cap) m (itc (L.take m)) w1) := ⟨own_nil _ _ _ _, HTk.out _ H1.out, itc_one _, Nat.le_refl _, by have := HL.out; omega⟩
        go_wp2_with (at_builtin; refine wpList_append_rw HO1.out Try.underlying27 hi hz0 hz1 hz2 rfl (by decide) (by decide) (.tmp 24) (.tmp 30) rfl rfl rfl rfl ?_)
        intro va w2 hown hg hat
        have H2 : Hid (RefAt B rb (.slice (some ⟨g, 0, none⟩) L.length cap) L w2) := H1.out.on (below_own (Below.refl _ _) (Nat.le_refl _) HO1.out.own hg)
        have HB2 : Hid (Below w1.heap.size w1 w2) := below_own (Below.refl _ _) (Nat.le_refl _) HO1.out.own hg
        have HO2 : Hid (Ow w1.heap.size 56 2 va m (itc (L.take m)) (w2.heap.size + 1) (.slice (some ⟨w2.heap.size, 0, none⟩) 1 1) 1 (itc [(k, v)]) (w2.alloc (.cells #[.string (bs k), .int .i64 v] 56))) := ⟨World.ownsRow.alloc (by simpa using hown) _, rw_one w2 k v, itc_one _, Nat.le_trans HB2.out.size (by simp), by have := HL.out; omega⟩
        clear hown hg hat c0
        go_wp2_with (at_builtin; refine wpList_append_rw HO2.out Try.underlying27 hi hz0 hz1 hz2 rfl (by decide) (by decide) (.tmp 32) (.tmp 36) rfl rfl rfl rfl ?_)
        intro vb w3 hown hg hat
        have HB3 : Hid (Below w1.heap.size w1 w3) := below_own (HB2.out.alloc HB2.out.size _) HO2.out.size HO2.out.own hg
        have H3 : Hid (RefAt B rb (.slice (some ⟨g, 0, none⟩) L.length cap) L w3) := H1.out.on HB3.out
        have HO3 : Hid (Ow w1.heap.size 56 2 vb (m + 1) (itc (L.take m) ++ itc [(k, v)]) w3.heap.size (.slice (some ⟨g, m * 2, none⟩) (L.length - m) (cap - m)) (L.length - m) (itc (L.drop m)) w3) := ⟨by simpa using hown, (HD.out _ H3.out).1, itc_one _, HB3.out.size, by have := HL.out; omega⟩
        clear hown hg hat
        have c0 := H3.out.cell
        go_wp2_with (at_builtin; refine wpList_append_rw HO3.out Try.underlying27 hi hz0 hz1 hz2 rfl (by decide) (by decide) (.tmp 39) (.tmp 45) rfl rfl rfl rfl ?_)
        intro vd w4 hown hg hat
        have HB4 : Hid (Below w1.heap.size w1 w4) := below_own HB3.out HO3.out.size HO3.out.own hg
        have H4 : Hid (RefAt B rb (.slice (some ⟨g, 0, none⟩) L.length cap) L w4) := H1.out.on HB4.out
        have HF : Hid (w4.ownsRow w1.heap.size 56 2 vd y.length (itc y)) := by
          have e1 : itc y = itc (L.take m) ++ itc [(k, v)] ++ itc (L.drop m) := by rw [HY.out, itc_append]; simp [itc]
          have e2 : y.length = m + 1 + (L.length - m) := by
            have := (HD.out _ H3.out).2
            have hmm := HP.out
            rw [HY.out]
            simp only [List.length_append, List.length_cons, List.length_take]
            omega
          have hf : w4.ownsRow w1.heap.size 56 2 vd (m + 1 + (L.length - m)) (itc (L.take m) ++ itc [(k, v)] ++ itc (L.drop m)) := by simpa using hown
          rw [← e1, ← e2] at hf
          exact hf
        clear hown hg hat c0
        obtain ⟨da, dc, rfl, -, -, -, -⟩ := rw_own HF.out
        have c0 := H4.out.cell
        have f0 := H4.out.frozen
        go_wp2_with fail
        go_end0
        exact ⟨rfl, _, H.out.put HB1.out HB4.out HF.out HSr.out⟩
  · obtain ⟨hml, hkey⟩ := HT.out rfl
    have HY : Hid (y = L.set m (k, v)) := HS.out
    rcases h2 with ⟨rfl, rfl⟩ | ⟨g, cap, rfl, hlc, hcm⟩
    · simp at hml
    have HK : Hid _ := hkey
    clear HS HT hkey
    go_enter Try.func10, Try.ntmps10
    go_wp2_with fail
    refine (CP.out (by trivial)).mono ?_
    rintro e w1 ⟨rfl, hb1⟩
    have H1 : Hid (RefAt B rb (.slice (some ⟨g, 0, none⟩) L.length cap) L w1) := H.out.on hb1
    have HB1 : Hid _ := hb1
    clear hb1 CP
    have c0 := H1.out.cell
    obtain ⟨g', eg, e0, e1⟩ := H1.out.el hml
    injection eg with eg
    injection eg with eg
    subst eg
    have hfz := own_frozen H1.out.row
    have hml' : (m : Int) < L.length := by omega
    go_wp2_with fail
    refine bodyPost_ret (results_none Try.results10 _ _ _) rfl ?_
    have hF : foot rb (.slice (some ⟨g, 0, none⟩) L.length cap) g := .inr rfl
    have hk := set_kept (foot rb (.slice (some ⟨g, 0, none⟩) L.length cap)) w1 ⟨g, m * 2 + 1, none⟩ (.int .i64 v) hF
    refine ⟨rfl, .slice (some ⟨g, 0, none⟩) L.length cap, ⟨?_, ?_, H1.out.lo, H1.out.ne, HSr.out⟩, (Kept.of_below HB1.out).trans hk (fun i hi => .inl hi), fun i hi => .inl hi⟩
    · rw [(set_kept (fun k => k = g) w1 ⟨g, m * 2 + 1, none⟩ (.int .i64 v) rfl).block rb (H1.out.lt (.inl rfl)).2 (fun e => H1.out.ne (by rw [e]; rfl))]
      exact H1.out.box
    · have := own_set H1.out.row (m * 2 + 1) (.int .i64 v)
      rw [itc_set L m k v hml HK.out] at this
      rw [HY.out, List.length_set]
      exact this

set_option maxHeartbeats 3200000 in
set_option maxRecDepth 100000 in
theorem refCut12 (B rb : Nat) (sl : Value) (L : Kv) (k : List UInt8) (w : World) (h : RefAt B rb sl L w) (hl : L.length < 1000000) :
    Calls Try.prog 12 #[.pointer (some ⟨rb, 0, none⟩), .string (bs k)] w fun e w' => e = .returned (.bool (getF k L).isSome) ∧ ∃ sl', RefAt B rb sl' (cutF k L) w' ∧ Kept (foot rb sl) w w' ∧ ∀ i, foot rb sl' i → foot rb sl i ∨ w.heap.size ≤ i := by
  obtain ⟨i0, hi, hz0, hz1, hz2⟩ := info_parts info54
  have H : Hid (RefAt B rb sl L w) := h
  have CP : Hid (1 = 1 → _) := fun _ => place21 B rb _ L k w h
  have HS : Hid (cutF k L = if thereB k L then L.take (placeN k L) ++ L.drop (placeN k L + 1) else L) := cut_place h.srt
  have HT : Hid (thereB k L = true → placeN k L < L.length ∧ (L.getD (placeN k L) dk).1 = k) := there_lt
  have HG : Hid (thereB k L = (getF k L).isSome) := there_get h.srt
  have HSr : Hid (Srt (cutF k L)) := cutF_srt h.srt
  have HL : Hid _ := hl
  have h2 := h.two
  clear h hl
  generalize cutF k L = y at *
  generalize (getF k L).isSome = gs at *
  generalize placeN k L = m at *
  generalize thereB k L = z at *
  cases z
  · have HY : Hid (y = L) := HS.out
    obtain ⟨ao, cap, rfl, -, -⟩ := H.out.shape
    clear HS HT h2
    go_enter Try.func12, Try.ntmps12
    go_wp2_with fail
    refine (CP.out (by trivial)).mono ?_
    rintro e w1 ⟨rfl, hb1⟩
    have H1 : Hid (RefAt B rb (.slice ao L.length cap) L w1) := H.out.on hb1
    have HB1 : Hid _ := hb1
    clear hb1 CP
    go_wp2_with fail
    rw [← HG.out, HY.out]
    go_ret
    exact ⟨rfl, _, H1.out, Kept.of_below HB1.out, fun i hi => .inl hi⟩
  · have HY : Hid (y = L.take m ++ L.drop (m + 1)) := HS.out
    have hm := (HT.out rfl).1
    clear HS HT
    rcases h2 with ⟨rfl, rfl⟩ | ⟨g, cap, rfl, hlc, hcm⟩
    · simp at hm
    have hmc : m ≤ cap := by omega
    have hmc1 : m + 1 ≤ cap := by omega
    have hwr : IntKind.i64.wrap ((m : Int) + 1) = ((m + 1 : Nat) : Int) := by have := HL.out; simp [IntKind.wrap, IntKind.signed, IntKind.bits]; omega
    have HTk : Hid (∀ W, RefAt B rb (.slice (some ⟨g, 0, none⟩) L.length cap) L W → RwAt W.heap.size 2 (.slice (some ⟨g, 0, none⟩) m cap) m (itc (L.take m)) W) := fun W h => by
      have := RwAt.take (ao := some ⟨g, 0, none⟩) (cap := cap) (n := L.length) h.its (show m ≤ L.length by omega)
      rw [itc_take] at this
      exact this
    by_cases hne : cap = m + 1
    · have HD : Hid (∀ W, RefAt B rb (.slice (some ⟨g, 0, none⟩) L.length cap) L W → RwAt W.heap.size 2 (.slice (some ⟨g, 0, none⟩) 0 0) 0 (itc (L.drop (m + 1))) W ∧ (L.drop (m + 1)).length = 0) := fun W h => by
        have := RwAt.drop h.its (show m + 1 ≤ L.length by omega)
        rw [if_pos hne, hne, Nat.sub_self, itc_drop, show L.length - (m + 1) = 0 from by omega] at this
        exact ⟨this, by simp; omega⟩
      have hlm : L.length = m + 1 := by omega
      subst hne
      have HLm : Hid _ := hlm
      clear hlm
      go_enter Try.func12, Try.ntmps12
      go_wp2_with fail
      refine (CP.out (by trivial)).mono ?_
      rintro e w1 ⟨rfl, hb1⟩
      have H1 : Hid (RefAt B rb (.slice (some ⟨g, 0, none⟩) L.length (m + 1)) L w1) := H.out.on hb1
      have HB1 : Hid _ := hb1
      clear hb1 CP
      have c0 := H1.out.cell
      have HO1 : Hid (Ow w1.heap.size 56 2 (.slice none 0 0) 0 [] w1.heap.size (.slice (some ⟨g, 0, none⟩) m (m + 1)) m (itc (L.take m)) w1) := ⟨own_nil _ _ _ _, HTk.out _ H1.out, itc_one _, Nat.le_refl _, by have := HL.out; omega⟩
      go_wp2_with (at_builtin; refine wpList_append_rw HO1.out Try.underlying27 hi hz0 hz1 hz2 rfl (by decide) (by decide) (.tmp 16) (.tmp 22) rfl rfl rfl rfl ?_)
      intro va w2 hown hg hat
      have HB2 : Hid (Below w1.heap.size w1 w2) := below_own (Below.refl _ _) (Nat.le_refl _) HO1.out.own hg
      have H2 : Hid (RefAt B rb (.slice (some ⟨g, 0, none⟩) L.length (m + 1)) L w2) := H1.out.on HB2.out
      have HO3 : Hid (Ow w1.heap.size 56 2 va m (itc (L.take m)) w2.heap.size (.slice (some ⟨g, 0, none⟩) 0 0) 0 (itc (L.drop (m + 1))) w2) := ⟨by simpa using hown, (HD.out _ H2.out).1, itc_one _, HB2.out.size, by have := HL.out; omega⟩
      clear hown hg hat c0
      have c0 := H2.out.cell
      go_wp2_with (at_builtin; refine wpList_append_rw HO3.out Try.underlying27 hi hz0 hz1 hz2 rfl (by decide) (by decide) (.tmp 25) (.tmp 32) rfl rfl rfl rfl ?_)
      intro vd w4 hown hg hat
      have HB4 : Hid (Below w1.heap.size w1 w4) := below_own HB2.out HO3.out.size HO3.out.own hg
      have H4 : Hid (RefAt B rb (.slice (some ⟨g, 0, none⟩) L.length (m + 1)) L w4) := H1.out.on HB4.out
      have HF : Hid (w4.ownsRow w1.heap.size 56 2 vd y.length (itc y)) := by
        have e1 : itc y = itc (L.take m) ++ itc (L.drop (m + 1)) := by rw [HY.out, itc_append]
        have e2 : y.length = m + 0 := by
          have := (HD.out _ H2.out).2
          rw [HY.out]
          simp only [List.length_append, List.length_take]
          omega
        have hf : w4.ownsRow w1.heap.size 56 2 vd (m + 0) (itc (L.take m) ++ itc (L.drop (m + 1))) := by simpa using hown
        rw [← e1, ← e2] at hf
        exact hf
      clear hown hg hat c0
      obtain ⟨da, dc, rfl, -, -, -, -⟩ := rw_own HF.out
      have c0 := H4.out.cell
      have f0 := H4.out.frozen
      go_wp2_with fail
      rw [← HG.out]
      go_ret
      exact ⟨rfl, _, H.out.put HB1.out HB4.out HF.out HSr.out⟩
    · have HD : Hid (∀ W, RefAt B rb (.slice (some ⟨g, 0, none⟩) L.length cap) L W → RwAt W.heap.size 2 (.slice (some ⟨g, (m + 1) * 2, none⟩) (L.length - (m + 1)) (cap - (m + 1))) (L.length - (m + 1)) (itc (L.drop (m + 1))) W ∧ (L.drop (m + 1)).length = L.length - (m + 1)) := fun W h => by
        have := RwAt.drop h.its (show m + 1 ≤ L.length by omega)
        rw [if_neg hne, itc_drop] at this
        simp only [Option.map_some, Addr.add_lit, Nat.zero_add] at this
        exact ⟨this, by simp⟩
      go_enter Try.func12, Try.ntmps12
      go_wp2_with fail
      refine (CP.out (by trivial)).mono ?_
      rintro e w1 ⟨rfl, hb1⟩
      have H1 : Hid (RefAt B rb (.slice (some ⟨g, 0, none⟩) L.length cap) L w1) := H.out.on hb1
      have HB1 : Hid _ := hb1
      clear hb1 CP
      have c0 := H1.out.cell
      have HO1 : Hid (Ow w1.heap.size 56 2 (.slice none 0 0) 0 [] w1.heap.size (.slice (some ⟨g, 0, none⟩) m cap) m (itc (L.take m)) w1) := ⟨own_nil _ _ _ _, HTk.out _ H1.out, itc_one _, Nat.le_refl _, by have := HL.out; omega⟩
      go_wp2_with (at_builtin; refine wpList_append_rw HO1.out Try.underlying27 hi hz0 hz1 hz2 rfl (by decide) (by decide) (.tmp 16) (.tmp 22) rfl rfl rfl rfl ?_)
      intro va w2 hown hg hat
      have HB2 : Hid (Below w1.heap.size w1 w2) := below_own (Below.refl _ _) (Nat.le_refl _) HO1.out.own hg
      have H2 : Hid (RefAt B rb (.slice (some ⟨g, 0, none⟩) L.length cap) L w2) := H1.out.on HB2.out
      have HO3 : Hid (Ow w1.heap.size 56 2 va m (itc (L.take m)) w2.heap.size (.slice (some ⟨g, (m + 1) * 2, none⟩) (L.length - (m + 1)) (cap - (m + 1))) (L.length - (m + 1)) (itc (L.drop (m + 1))) w2) := ⟨by simpa using hown, (HD.out _ H2.out).1, itc_one _, HB2.out.size, by have := HL.out; omega⟩
      clear hown hg hat c0
      have c0 := H2.out.cell
      go_wp2_with (at_builtin; refine wpList_append_rw HO3.out Try.underlying27 hi hz0 hz1 hz2 rfl (by decide) (by decide) (.tmp 25) (.tmp 32) rfl rfl rfl rfl ?_)
      intro vd w4 hown hg hat
      have HB4 : Hid (Below w1.heap.size w1 w4) := below_own HB2.out HO3.out.size HO3.out.own hg
      have H4 : Hid (RefAt B rb (.slice (some ⟨g, 0, none⟩) L.length cap) L w4) := H1.out.on HB4.out
      have HF : Hid (w4.ownsRow w1.heap.size 56 2 vd y.length (itc y)) := by
        have e1 : itc y = itc (L.take m) ++ itc (L.drop (m + 1)) := by rw [HY.out, itc_append]
        have e2 : y.length = m + (L.length - (m + 1)) := by
          have := (HD.out _ H2.out).2
          rw [HY.out]
          simp only [List.length_append, List.length_take]
          omega
        have hf : w4.ownsRow w1.heap.size 56 2 vd (m + (L.length - (m + 1))) (itc (L.take m) ++ itc (L.drop (m + 1))) := by simpa using hown
        rw [← e1, ← e2] at hf
        exact hf
      clear hown hg hat c0
      obtain ⟨da, dc, rfl, -, -, -, -⟩ := rw_own HF.out
      have c0 := H4.out.cell
      have f0 := H4.out.frozen
      go_wp2_with fail
      rw [← HG.out]
      go_ret
      exact ⟨rfl, _, H.out.put HB1.out HB4.out HF.out HSr.out⟩
end Go.Proofs.Ytogkgibneddngaa
