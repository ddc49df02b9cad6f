/-
  The walk of LogFits: whatever list of texts and room it is given it answers true, and turns no memory that was there.
-/
import Derived.Test.YtjjdmeemhgopbaaWak
import Derived.Deep.DeepCutAuto
import Derived.Deep.CutBlock
namespace Go.Proofs.Ytjjdmeemhgopbaa
open Go.RowKit Go.Sort
open Drm (Dr Pt DrumAt DrumIn)

/-- A list of texts among the arguments. -/
def ArgStrs (v : Value) (R : List (List UInt8)) (w : World) : Prop :=
  ∃ ao cap, v = .slice ao R.length cap ∧ (0 < R.length → ∃ b o, ao = some ⟨b, o, none⟩ ∧ ∀ i, i < R.length → w.cell? ⟨b, o + i, none⟩ = some (.string (bs (R.getD i []))))
theorem cell_below {B : Nat} {w w' : World} {b o : Nat} {u : Value} (h : w.cell? ⟨b, o, none⟩ = some u) (hb : Below B w w') (hlt : b < B) : w'.cell? ⟨b, o, none⟩ = some u := by
  unfold World.cell? at h ⊢
  dsimp only at h ⊢
  rw [hb.block b hlt]
  exact h
theorem ArgStrs.on {v : Value} {R : List (List UInt8)} {w w' : World} (h : ArgStrs v R w) (hb : Below w.heap.size w w') : ArgStrs v R w' := by
  obtain ⟨ao, cap, rfl, h⟩ := h
  refine ⟨ao, cap, rfl, fun h0 => ?_⟩
  obtain ⟨b, o, rfl, hc⟩ := h h0
  exact ⟨b, o, rfl, fun i hi => cell_below (hc i hi) hb (World.block_lt_of_cell? _ _ (hc i hi))⟩
theorem ArgStrs.strs {pb : Nat} {v : Value} {R : List (List UInt8)} {w w' : World} (h : ArgStrs v R w) (hp : w.heap.size ≤ pb) (hb : Below w.heap.size w w') : StrsAt pb v R w' := by
  obtain ⟨ao, cap, rfl, h⟩ := h
  refine ⟨ao, cap, rfl, fun h0 => ?_⟩
  obtain ⟨b, o, rfl, hc⟩ := h h0
  have hlt : b < w.heap.size := World.block_lt_of_cell? _ _ (hc 0 h0)
  exact ⟨b, o, rfl, by omega, fun i hi => cell_below (hc i hi) hb hlt, .inl (by omega)⟩

theorem TxAt.keep2 {B lb pb : Nat} {V : Value} {L : List (List UInt8)} {w w' : World} {a : Int} {g : Nat} (h : TxAt B V L w) (hp : pb < B) (hl : LbAt lb pb a g w) (hk : Keep2 lb pb w w') : TxAt B V L w' := by
  refine ⟨h.1, ?_⟩
  rcases h.2 with h2 | ⟨g', cap, cur, h1, h2, h3, h4⟩
  · exact .inl h2
  · refine .inr ⟨g', cap, cur, h1, h2, ?_, h4⟩
    refine hk.other g' _ h3 (by omega) ?_ (by intro cs fz e; injection e with _ e _; exact absurd e (by decide))
    rintro rfl
    unfold LbAt at hl
    rw [h3] at hl
    injection hl with hl
    injection hl with _ hl _
    exact absurd hl (by decide)

/-- A row that is neither the drum's nor the log's block grows. -/
theorem DrumAt.grown {pb : Nat} {D : Dr} {w w' : World} {row : Option Nat} (h : DrumAt pb D w) (hg : w.grownBy w' row) (hrow : ∀ k, row = some k → k ≠ pb ∧ ∃ cs t fz, w.heap[k]? = some (.cells cs t fz) ∧ t ≠ 5 ∧ t ≠ 78) : DrumAt pb D w' := by
  obtain ⟨vs, h⟩ := h
  refine ⟨vs, by rw [hg.block pb h.lt (fun e => (hrow pb e.symm).1 rfl), h.blk], fun i hi => (h.own i hi).kept hg ?_, h.apart⟩
  cases hv : (vs i).ownBlock with
  | none => exact .inl rfl
  | some k =>
    refine .inr fun e => ?_
    obtain ⟨_, cs, t, fz, hk, h5, _⟩ := hrow k e.symm
    rcases (h.own i hi).2 with ⟨hvi, _⟩ | ⟨g, cap, cur, hvi, _, hgg, _⟩
    · rw [hvi] at hv; simp [Value.ownBlock] at hv
    · rw [hvi] at hv
      simp only [Value.ownBlock, Option.some.injEq] at hv
      subst hv
      rw [hgg] at hk
      injection hk with hk
      injection hk with _ hk _
      exact h5 hk.symm
theorem LgAt.grown {lb pb g : Nat} {a : Int} {D : Dr} {w w' : World} {row : Option Nat} (h : LgAt lb pb a g D w) (hg : w.grownBy w' row) (hrow : ∀ k, row = some k → k ≠ pb ∧ ∃ cs t fz, w.heap[k]? = some (.cells cs t fz) ∧ t ≠ 5 ∧ t ≠ 78) : LgAt lb pb a g D w' := by
  refine ⟨?_, DrumAt.grown h.drum hg hrow, h.ne⟩
  unfold LbAt
  rw [hg.block lb h.blk.lt ?_]
  · exact h.blk
  · intro e
    obtain ⟨_, cs, t, fz, hk, _, h78⟩ := hrow lb e.symm
    have := h.blk
    unfold LbAt at this
    rw [this] at hk
    injection hk with hk
    injection hk with _ hk _
    exact h78 hk.symm
theorem tx_row {B pb : Nat} {V : Value} {I : List (List UInt8)} {w : World} (h : TxAt B V I w) (hp : pb < B) : ∀ k, V.ownBlock = some k → k ≠ pb ∧ ∃ cs t fz, w.heap[k]? = some (.cells cs t fz) ∧ t ≠ 5 ∧ t ≠ 78 := by
  intro k hk
  rcases h.2 with ⟨hv, _⟩ | ⟨g, cap, cur, hv, hB, hgg, _⟩
  · rw [hv] at hk; simp [Value.ownBlock] at hk
  · rw [hv] at hk
    simp only [Value.ownBlock, Option.some.injEq] at hk
    subst hk
    exact ⟨by omega, cur, 9, (0, 0), hgg, by decide, by decide⟩

/-- The last of a row's texts, as a list. -/
theorem tx_last {B pb : Nat} {V : Value} {I : List (List UInt8)} {w : World} (h : TxAt B V I w) (hp : pb < B) : ∃ b o cp, (0 < I.length → V = .slice (some ⟨b, o, none⟩) I.length cp ∧ I.length ≤ cp ∧ StrsAt pb (.slice (some ⟨b, o + (I.length - 1), none⟩) 1 (cp - (I.length - 1))) (I.drop (I.length - 1)) w) := by
  have hs := h.strs hp
  rcases h.2 with ⟨rfl, h0⟩ | ⟨g', cap, cur, h1, h2, h3, h4, h5, h6⟩
  · exact ⟨0, 0, 0, fun hh => absurd h0 (by omega)⟩
  · refine ⟨g', 0, cap, fun hpos => ⟨h1, h4, ?_⟩⟩
    obtain ⟨ao, cap', e, hx⟩ := hs
    rw [h1] at e
    injection e with e1 _ _
    obtain ⟨b, o, e2, hne, hc, hor⟩ := hx hpos
    rw [← e1] at e2
    injection e2 with e2
    injection e2 with e2 e3
    subst e2 e3
    have hl : (I.drop (I.length - 1)).length = 1 := by rw [List.length_drop]; omega
    refine ⟨_, _, by rw [hl], fun _ => ⟨g', 0 + (I.length - 1), rfl, hne, fun i hi => ?_, hor⟩⟩
    rw [hl] at hi
    have hi0 : i = 0 := by omega
    subst hi0
    have := hc (I.length - 1) (by omega)
    rw [Nat.add_zero, this]
    congr 3
    simp [List.getD]

set_option maxHeartbeats 3200000 in
set_option maxRecDepth 100000 in
theorem fits5 (v : Value) (L : List (List UInt8)) (room : Int) (w : World) (hv : ArgStrs v L w) :
    Calls Try.prog 5 #[v, .int .i64 room] w fun e w' => e = .returned (.bool true) ∧ Below w.heap.size w w' := by
  have HAw : Hid (∀ w, 1 = 1 → Calls Try.prog 7 #[] w fun e w' => e = .returned (.bool true) ∧ Below w.heap.size w w') := fun w _ => awake7 w
  obtain ⟨Q, hQ⟩ : ∃ Q : Ending → World → Prop, Q = fun e w' => e = .returned (.bool true) ∧ Below w.heap.size w w' := ⟨_, rfl⟩
  rw [← hQ]
  have HQ : Hid (∀ w', Below w.heap.size w w' → Q (.returned (.bool true)) w') := fun w' h => by rw [hQ]; exact ⟨rfl, h⟩
  clear hQ
  have HV : Hid _ := hv
  obtain ⟨ao, cap, rfl, hvx⟩ := hv
  clear hvx
  by_cases hg : L.length ≤ 40 ∧ 100 ≤ room ∧ room ≤ 4000
  · obtain ⟨hg1, hg2, hg3⟩ := hg
    have hg1' : ¬ (40 : Int) < L.length := by omega
    obtain ⟨D1, ho1, hh1, hd1, hf1, hr1, hl1⟩ := open_new (room := room) (by omega)
    have hO0 : (Dr.new room).Ok := Drm.Dr.Ok.new room (by omega) (by omega)
    have hO1 := ok_open hO0 ho1
    have C1 : Hid (∀ pb w, DrumAt pb (Dr.new room) w → Calls Try.prog 11 #[.pointer (some ⟨pb, 0, none⟩)] w fun e w' => ∃ lb V, e = .returned (.tuple #[.pointer (some ⟨lb, 0, none⟩), V, .int .i64 0]) ∧ LgAt lb pb 0 1 D1 w' ∧ TxAt w.heap.size V [] w' ∧ w.heap.size ≤ lb ∧ Drm.Kept pb w w') := fun pb w h => open_ok pb w h hO0 rfl ho1
    have HD1 : Hid (Holds D1 0 1 [] ∧ D1.down = false ∧ D1.Ok ∧ D1.room = room ∧ D1.fuel = -1) := ⟨hh1, hd1, hO1, hr1, hf1⟩
    clear ho1 hh1 hd1 hf1 hr1 hl1 hO0 hO1
    go_enter Try.func5, Try.ntmps5
    go_wp2_with fail
    refine (HAw.out _ (by trivial)).mono ?_
    rintro e w1 ⟨rfl, hb1⟩
    have H1 : Hid (Below w.heap.size w w1) := hb1
    clear hb1
    go_wp2_with fail
    refine (Drm.new8 room _ (by omega) (by omega)).mono ?_
    obtain ⟨pb, hpb⟩ : ∃ pb, pb = w1.heap.size := ⟨_, rfl⟩
    rw [← hpb]
    rintro e w2 ⟨rfl, hD2, hb2⟩
    have H2 : Hid (DrumAt pb (Dr.new room) w2 ∧ Below w.heap.size w w2 ∧ w.heap.size ≤ pb) := ⟨hD2, H1.out.trans (hb2.mono (by rw [hpb]; exact H1.out.size)), by rw [hpb]; exact H1.out.size⟩
    clear hD2 hb2 hpb H1
    go_wp2_with fail
    refine (C1.out pb _ H2.out.1).mono ?_
    rintro e w3 ⟨lb, V0, rfl, hL3, hV3, hlb, k3⟩
    obtain ⟨ao0, cp0, rfl⟩ := tx_shape hV3
    have hwp := H2.out.2.2
    have H3 : Hid (LgAt lb pb 0 1 D1 w3 ∧ Below w.heap.size w w3) := ⟨hL3, H2.out.2.1.trans (k3.below.mono hwp)⟩
    clear hL3 hV3 hlb k3 H2 C1
    go_wp2_with fail
    go_loopw [10, 47] (fun vi i wr => ∃ (k : Nat) (D : Dr) (I : List (List UInt8)), k ≤ L.length ∧ i = .int .i64 k ∧ I.length ≤ k ∧ TxAt (pb + 1) vi I wr ∧ LgAt lb pb 0 1 D wr ∧ (Holds D 0 1 I ∧ D.down = false ∧ D.Ok ∧ D.room = room ∧ D.fuel = -1) ∧ Below w.heap.size w wr) (fun _ i _ => L.length - (intOf i).toNat)
    case atStart => exact ⟨0, D1, [], by omega, rfl, Nat.le_refl _, tx_nil _ _, H3.out.1, HD1.out, H3.out.2⟩
    case round =>
      obtain ⟨k, D, I, hk, rfl, hIk, hT, hLg, hDs, hB⟩ := hrel
      obtain ⟨ai, ci, rfl⟩ := tx_shape hT
      have HR : Hid (TxAt (pb + 1) (.slice ai I.length ci) I wr ∧ LgAt lb pb 0 1 D wr ∧ (Holds D 0 1 I ∧ D.down = false ∧ D.Ok ∧ D.room = room ∧ D.fuel = -1) ∧ Below w.heap.size w wr) := ⟨hT, hLg, hDs, hB⟩
      clear hT hLg hDs hB H3 HD1
      by_cases hlt : k < L.length
      · obtain ⟨_, _, hsl, hx⟩ := (show ArgStrs (.slice ao L.length cap) L w from HV.out).on HR.out.2.2.2
        injection hsl with e1 _ e3
        subst e1
        subst e3
        obtain ⟨b, o, rfl, hc⟩ := hx (by omega)
        have hck := hc k hlt
        clear hc hx
        have hsz : (bs (L.getD k [])).size = (L.getD k []).length := bs_size _
        generalize L.getD k [] = r at *
        by_cases hr : 200 < r.length
        · have hr' : (200 : Int) < r.length := by omega
          go_wp2_with fail
          exact HQ.out _ HR.out.2.2.2
        · have hr' : ¬ (200 : Int) < r.length := by omega
          have hrd : D.read ((0 : Nat) : Int) = ((D.p 0).l, 0) := HR.out.2.2.1.1.read HR.out.2.2.1.2.1
          have hus : D.used = (D.p 0).l.length := HR.out.2.2.1.1.used HR.out.2.2.1.2.2.1
          have hfl : (frameOf (82 :: r)).length = r.length + 7 := by rw [frame_small _ (by rw [List.length_cons]; omega), List.length_cons]
          have hub : (D.p 0).l.length ≤ 4000 := by have h1 := HR.out.2.2.1.2.2.1.fits; have h2 := HR.out.2.2.1.2.2.2.1; rw [hus] at h1; omega
          have CS : Hid (∀ w', LgAt lb pb 0 1 D w' → Calls Try.prog 23 #[.pointer (some ⟨lb, 0, none⟩)] w' fun e w1 => e = .returned (.int .i64 (D.p 0).l.length) ∧ Below w'.heap.size w' w1) := fun w' h => by
            have := size23 lb pb 1 0 D w' h
            rw [show D.read 0 = ((D.p 0).l, 0) from hrd] at this
            exact this
          have CA : Hid (∀ w', LgAt lb pb 0 1 D w' → Calls Try.prog 18 #[.pointer (some ⟨lb, 0, none⟩), .string (bs r)] w' fun e w1 => e = .returned (.int .i64 (appendF D 0 r).1) ∧ LgAt lb pb 0 1 (appendF D 0 r).2 w1 ∧ Drm.Kept pb w' w1) := fun w' h => append18 lb pb 1 0 D r w' h HR.out.2.2.1.2.2.1
          have hkp := append_keeps (r := r) HR.out.2.2.1.1 HR.out.2.2.1.2.1 HR.out.2.2.1.2.2.1 (Nat.le_refl 1)
          have hok := appendF_ok HR.out.2.2.1.2.2.1 ((0 : Nat) : Int) r
          have hfu := HR.out.2.2.1.2.2.2.2
          have hro := HR.out.2.2.1.2.2.2.1
          rw [hfl, hus, hro] at hkp
          rw [show ((0 : Nat) : Int) = 0 from rfl] at hkp hok
          generalize (D.p 0).l.length = sz0 at *
          generalize appendF D 0 r = y at *
          obtain ⟨x, D2⟩ := y
          dsimp only at hkp CA hok
          go_wp2_with fail
          refine (CS.out _ HR.out.2.1).mono ?_
          rintro e w4 ⟨rfl, hb4⟩
          have H4 : Hid (TxAt (pb + 1) (.slice ai I.length ci) I w4 ∧ LgAt lb pb 0 1 D w4 ∧ Below w.heap.size w w4) := ⟨HR.out.1.on hb4, HR.out.2.1.on hb4, HR.out.2.2.2.trans (hb4.mono HR.out.2.2.2.size)⟩
          clear hb4
          rcases hkp with ⟨rfl, _, h3, h4, h5, h6, _⟩ | ⟨hno, rfl⟩ | ⟨_, h2, _⟩
          · have HDn : Hid (Holds D2 0 1 (I ++ [r]) ∧ D2.down = false ∧ D2.Ok ∧ D2.room = room ∧ D2.fuel = -1) := ⟨h3, h4, hok, h5, by rw [h6 (by omega)]; exact hfu⟩
            clear h3 h4 h5 h6 hok hfu
            go_wp2_with fail
            refine (CA.out _ H4.out.2.1).mono ?_
            rintro e w5 ⟨rfl, hL5, k5⟩
            have H5 : Hid (TxAt (pb + 1) (.slice ai I.length ci) I w5 ∧ LgAt lb pb 0 1 D2 w5 ∧ Below w.heap.size w w5 ∧ pb < w5.heap.size) := ⟨H4.out.1.kept (by omega) k5, hL5, H4.out.2.2.trans (k5.below.mono hwp), hL5.drum.lt⟩
            clear hL5 k5
            obtain ⟨i0, hi, hz0, hz1, hz2⟩ := info_parts info9
            go_wp2_with (at_builtin; refine wpList_append_own _ rfl (.tmp 61) (.tmp 63) 33 rfl (pb + 1) 9 i0 (.string ⟨#[]⟩) 1 16 Try.underlying33 hi hz0 hz1 hz2 rfl (by decide) (.slice ai I.length ci) I.length (sl I) rfl (World.ownsRow.alloc H5.out.1 _) ⟨w5.heap.size, 0, none⟩ 1 1 [.string (bs r)] rfl rfl (one_new _ _ _) (str_one _) (by unfold maxLen; omega) (by omega) (by have := H5.out.2.2.2; simp; omega) ?_; intro v' w6 hown' hgrow _; have HG : Hid _ := And.intro hown' hgrow; clear hown' hgrow)
            go_roundw
            case rel =>
              have hal : Below w5.heap.size w5 (w5.alloc (.cells #[.string (bs r)] 9)) := (Below.refl _ _).alloc (Nat.le_refl _) _
              have ht6 : TxAt (pb + 1) v' (I ++ [r]) w6 := by
                unfold TxAt
                rw [sl_snoc, List.length_append]
                exact HG.out.1
              refine ⟨k + 1, D2, I ++ [r], by omega, by go_num, by rw [List.length_append]; show I.length + 1 ≤ _; omega, ht6, (H5.out.2.1.on hal).grown HG.out.2 (tx_row (H5.out.1.on hal) (by omega)), HDn.out, ?_⟩
              exact (H5.out.2.2.1.trans (hal.mono H5.out.2.2.1.size)).grown HG.out.2 (by have := H5.out.2.2.1.size; simp; omega) (fun k hk => by have := (World.ownsRow.lt H5.out.1 k hk).1; omega)
            case measure => simp [intOf]; omega
          · rcases hno with ⟨_, h2⟩ | ⟨h1, _, h2⟩
            · exact absurd h2 (by omega)
            · subst h1
              have hcmp : ¬ ((sz0 : Int) + r.length + 7 ≤ room) := by omega
              go_wp2_with fail
              refine (CA.out _ H4.out.2.1).mono ?_
              rintro e w5 ⟨rfl, hL5, k5⟩
              have H5 : Hid (TxAt (pb + 1) (.slice ai I.length ci) I w5 ∧ LgAt lb pb 0 1 D2 w5 ∧ Below w.heap.size w w5 ∧ pb < w5.heap.size) := ⟨H4.out.1.kept (by omega) k5, hL5, H4.out.2.2.trans (k5.below.mono hwp), hL5.drum.lt⟩
              clear hL5 k5
              have hadd : IntKind.i64.wrap ((sz0 : Int) + r.length) = (sz0 : Int) + r.length := by
                simp [IntKind.wrap, IntKind.bits, IntKind.signed]
                omega
              have hadd2 : IntKind.i64.wrap ((sz0 : Int) + r.length + 7) = (sz0 : Int) + r.length + 7 := by
                simp [IntKind.wrap, IntKind.bits, IntKind.signed]
                omega
              have HDs : Hid _ := HR.out.2.2.1
              go_wp2_with fail
              refine (CS.out _ H5.out.2.1).mono ?_
              rintro e w6 ⟨rfl, hb6⟩
              have H6 : Hid (TxAt (pb + 1) (.slice ai I.length ci) I w6 ∧ LgAt lb pb 0 1 D2 w6 ∧ Below w.heap.size w w6) := ⟨H5.out.1.on hb6, H5.out.2.1.on hb6, H5.out.2.2.1.trans (hb6.mono H5.out.2.2.1.size)⟩
              clear hb6
              go_wp2_with fail
              go_roundw
              case rel => exact ⟨k + 1, D2, I, by omega, by go_num, by omega, H6.out.1, H6.out.2.1, HDs.out, H6.out.2.2⟩
              case measure => simp [intOf]; omega
          · exact absurd h2 (by omega)
      · obtain ⟨hh, hd, hO, hro, hfu⟩ := HR.out.2.2.1
        obtain ⟨D4, ho4, hh4, hd4, hf4, hr4⟩ := holds_at hh hO []
        have hO4 := ok_open (hO.fall []) ho4
        have hfit := hh.log.fits
        have CF : Hid (∀ w', DrumAt pb D w' → Calls Try.prog 15 #[.pointer (some ⟨pb, 0, none⟩), .slice none 0 0] w' fun e w1 => e = .returned (.tuple #[]) ∧ DrumAt pb (D.fall []) w1 ∧ Drm.Kept pb w' w1) := fun w' h => Drm.fall26 pb D (.slice none 0 0) [] w' h hO (Drm.KeepAt.nil _ _) (fun i => by simp) (by simp)
        have CO : Hid (∀ w', DrumAt pb (D.fall []) w' → Calls Try.prog 11 #[.pointer (some ⟨pb, 0, none⟩)] w' fun e w1 => ∃ lb V, e = .returned (.tuple #[.pointer (some ⟨lb, 0, none⟩), V, .int .i64 0]) ∧ LgAt lb pb 0 1 D4 w1 ∧ TxAt w'.heap.size V I w1 ∧ w'.heap.size ≤ lb ∧ Drm.Kept pb w' w1) := fun w' h => open_ok pb w' h (hO.fall []) rfl ho4
        have HD4 : Hid (Holds D4 0 1 I ∧ D4.down = false ∧ D4.Ok ∧ D4.fuel = -1 ∧ Fit I) := ⟨hh4, hd4, hO4, hf4, hfit⟩
        clear hh hd hO hro hfu ho4 hh4 hd4 hf4 hr4 hO4 hfit
        go_wp2_with fail
        refine (CF.out _ HR.out.2.1.drum).mono ?_
        rintro e w4 ⟨rfl, hD4, k4⟩
        have H4 : Hid (TxAt (pb + 1) (.slice ai I.length ci) I w4 ∧ DrumAt pb (D.fall []) w4 ∧ Below w.heap.size w w4 ∧ pb < w4.heap.size) := ⟨HR.out.1.kept (by omega) k4, hD4, HR.out.2.2.2.trans (k4.below.mono hwp), hD4.lt⟩
        clear hD4 k4 CF
        go_wp2_with fail
        refine (CO.out _ H4.out.2.1).mono ?_
        rintro e w5 ⟨lb2, V5, rfl, hL5, hV5, hlb5, k5⟩
        obtain ⟨a5, c5, rfl⟩ := tx_shape hV5
        have H5 : Hid (TxAt (pb + 1) (.slice ai I.length ci) I w5 ∧ LgAt lb2 pb 0 1 D4 w5 ∧ Below w.heap.size w w5 ∧ StrsAt pb (.slice a5 I.length c5) I w5) := ⟨H4.out.1.kept (by omega) k5, hL5, H4.out.2.2.1.trans (k5.below.mono hwp), hV5.strs (by have := H4.out.2.2.2; omega)⟩
        clear hL5 hV5 hlb5 k5 CO H4
        have CSm : Hid (1 = 1 → Calls Try.prog 13 #[.slice a5 I.length c5, .slice ai I.length ci] w5 fun e w' => e = .returned (.bool true) ∧ Below w5.heap.size w5 w') := fun _ => by
          have := same13 pb pb I I _ _ w5 H5.out.2.2.2 (H5.out.1.strs (by omega)) (by omega)
          rw [decide_eq_true rfl] at this
          exact this
        go_wp2_with fail
        refine (CSm.out (by trivial)).mono ?_
        rintro e w6 ⟨rfl, hb6⟩
        have H6 : Hid (TxAt (pb + 1) (.slice ai I.length ci) I w6 ∧ LgAt lb2 pb 0 1 D4 w6 ∧ Below w.heap.size w w6) := ⟨H5.out.1.on hb6, H5.out.2.1.on hb6, H5.out.2.2.1.trans (hb6.mono H5.out.2.2.1.size)⟩
        clear hb6 CSm
        obtain ⟨LL, hLL⟩ : ∃ LL, LL = I.drop (I.length - 1) := ⟨_, rfl⟩
        have HLL : Hid _ := hLL
        go_upto_region 28 with fail
        go_cut [15] (fun t wc => StrsAt pb t LL wc ∧ TxAt (pb + 1) (.slice ai I.length ci) I wc ∧ LgAt lb2 pb 0 1 D4 wc ∧ Below w.heap.size w wc)
        case first =>
          by_cases hI : I.length = 0
          · have hI' : I = [] := List.length_eq_zero_iff.1 hI
            have HL2 : Hid (LL = []) := by
              show _ = _
              rw [hLL, hI']
              rfl
            clear hLL
            have hsub : IntKind.i64.wrap ((I.length : Int) - 1) = -1 := by rw [hI]; decide
            have hI2 : I.length ≤ 0 := by omega
            clear hI hI'
            have hmax : max (0 : Int) (-1) = 0 := by decide
            by_cases hc0 : ci = 0
            · subst hc0
              go_wp2_with fail
              go_meet
              refine ⟨?_, H6.out⟩
              rw [HL2.out]
              exact ⟨_, _, rfl, fun h => absurd h (by simp)⟩
            · go_wp2_with fail
              go_meet
              refine ⟨?_, H6.out⟩
              rw [HL2.out]
              exact ⟨_, _, rfl, fun h => absurd h (by simp)⟩
          · obtain ⟨b7, o7, c7, h7⟩ := tx_last (pb := pb) H6.out.1 (by omega)
            obtain ⟨hv7, hc7, hs7⟩ := h7 (by omega)
            injection hv7 with e1 _ e3
            subst e1
            subst e3
            rw [← hLL] at hs7
            have HS7 : Hid _ := hs7
            clear hs7 h7 hLL
            have hsub : IntKind.i64.wrap ((I.length : Int) - 1) = ((I.length - 1 : Nat) : Int) := by
              simp [IntKind.wrap, IntKind.bits, IntKind.signed]
              omega
            obtain ⟨n1, hn1⟩ : ∃ n1, n1 = I.length - 1 := ⟨_, rfl⟩
            rw [← hn1] at HS7 hsub
            have hn2 : I.length ≤ n1 + 1 := by omega
            have hn3 : n1 + 1 ≤ I.length := by omega
            have HN : Hid (I.length - n1 = 1) := by show _ = _; omega
            clear hn1 hI
            go_wp2_with fail
            go_meet
            rw [HN.out]
            exact ⟨HS7.out, H6.out⟩
        case rest =>
          obtain ⟨hst, htx, hlg, hbl⟩ := hcut
          have hll : LL.length ≤ 1 := by rw [hLL, List.length_drop]; omega
          have hfl : Fit LL := fun r hr => HD4.out.2.2.2.2 r (by rw [hLL] at hr; exact List.mem_of_mem_drop hr)
          clear hLL
          have hrk := renew_keeps (L := LL) (G := 2) HD4.out.1 HD4.out.2.1 HD4.out.2.2.1 (by decide) (by decide)
          have hok := renewF_ok HD4.out.2.2.1 ((0 : Nat) : Int) 1 LL
          have CR : Hid (∀ w', LgAt lb2 pb 0 1 D4 w' → StrsAt pb u15 LL w' → Calls Try.prog 20 #[.pointer (some ⟨lb2, 0, none⟩), u15] w' (RenPost lb2 pb w' (renewF D4 0 1 LL))) := fun w' h1 h2 => renew20 lb2 pb 1 0 D4 LL u15 w' h1 HD4.out.2.2.1 h2 (by omega)
          unfold RenKeeps at hrk
          rw [show ((0 : Nat) : Int) = 0 from rfl] at hrk hok
          generalize renewF D4 0 1 LL = y at *
          obtain ⟨x, ⟨a8, g8⟩, D8⟩ := y
          dsimp only at hrk hok CR
          have HC : Hid (StrsAt pb u15 LL wc ∧ TxAt (pb + 1) (.slice ai I.length ci) I wc ∧ LgAt lb2 pb 0 1 D4 wc ∧ Below w.heap.size w wc ∧ pb < wc.heap.size) := ⟨hst, htx, hlg, hbl, hlg.drum.lt⟩
          obtain ⟨al, cl8, hal, _⟩ := hst
          subst hal
          clear htx hlg hbl H6 H5 HR
          have CF : Hid (∀ w', DrumAt pb D8 w' → Calls Try.prog 15 #[.pointer (some ⟨pb, 0, none⟩), .slice none 0 0] w' fun e w1 => e = .returned (.tuple #[]) ∧ DrumAt pb (D8.fall []) w1 ∧ Drm.Kept pb w' w1) := fun w' h => Drm.fall26 pb D8 (.slice none 0 0) [] w' h hok (Drm.KeepAt.nil _ _) (fun i => by simp) (by simp)
          have hway : (x = 0 ∧ ∃ a9 g9 D9, openF (D8.fall []) = (0, (a9, g9, LL), D9)) ∨ (x = 10 ∧ ∃ a9 g9 D9, openF (D8.fall []) = (0, (a9, g9, I), D9)) := by
            rcases hrk with ⟨h1, _, sx, _, h3, _⟩ | ⟨⟨_, h2⟩ | ⟨h1, _⟩, _, ⟨h3, _⟩ | ⟨h3, _⟩⟩ | ⟨_, h2, _⟩
            · obtain ⟨D9, ho, _⟩ := holds_at h3 hok []
              exact .inl ⟨h1, _, _, _, ho⟩
            · exact absurd hfl h2
            · exact absurd hfl h2
            · obtain ⟨D9, ho, _⟩ := holds_at h3 hok []
              exact .inr ⟨h1, _, _, _, ho⟩
            · have := HD4.out.2.2.2.1; omega
            · have := HD4.out.2.2.2.1; omega
          clear hrk
          rcases hway with ⟨rfl, a9, g9, D9, ho⟩ | ⟨rfl, a9, g9, D9, ho⟩
          · have CO : Hid (∀ w', DrumAt pb (D8.fall []) w' → Calls Try.prog 11 #[.pointer (some ⟨pb, 0, none⟩)] w' fun e w1 => ∃ lb V, e = .returned (.tuple #[.pointer (some ⟨lb, 0, none⟩), V, .int .i64 0]) ∧ LgAt lb pb a9 g9 D9 w1 ∧ TxAt w'.heap.size V LL w1 ∧ w'.heap.size ≤ lb ∧ Drm.Kept pb w' w1) := fun w' h => open_ok pb w' h (hok.fall []) rfl ho
            clear ho
            go_wp2_with fail
            refine (CR.out _ HC.out.2.2.1 HC.out.1).mono ?_
            rintro e w8 ⟨rfl, hL8, k8⟩
            have H8 : Hid (StrsAt pb (.slice al LL.length cl8) LL w8 ∧ LgAt lb2 pb a8 g8 D8 w8 ∧ Below w.heap.size w w8) := ⟨HC.out.1.keep2 HC.out.2.2.1.blk k8, hL8, HC.out.2.2.2.1.trans (k8.below.mono hwp)⟩
            clear hL8 k8
            go_wp2_with fail
            refine (CF.out _ H8.out.2.1.drum).mono ?_
            rintro e w9 ⟨rfl, hD9, k9⟩
            have H9 : Hid (StrsAt pb (.slice al LL.length cl8) LL w9 ∧ DrumAt pb (D8.fall []) w9 ∧ Below w.heap.size w w9 ∧ pb < w9.heap.size) := ⟨H8.out.1.kept k9, hD9, H8.out.2.2.trans (k9.below.mono hwp), hD9.lt⟩
            clear hD9 k9
            go_wp2_with fail
            refine (CO.out _ H9.out.2.1).mono ?_
            rintro e wa ⟨lb3, Va, rfl, hLa, hVa, hlba, ka⟩
            obtain ⟨aa, ca, rfl⟩ := tx_shape hVa
            have Ha : Hid (StrsAt pb (.slice al LL.length cl8) LL wa ∧ Below w.heap.size w wa ∧ StrsAt pb (.slice aa LL.length ca) LL wa) := ⟨H9.out.1.kept ka, H9.out.2.2.1.trans (ka.below.mono hwp), hVa.strs H9.out.2.2.2⟩
            clear hLa hVa hlba ka
            have CSm : Hid (1 = 1 → Calls Try.prog 13 #[.slice aa LL.length ca, .slice al LL.length cl8] wa fun e w' => e = .returned (.bool true) ∧ Below wa.heap.size wa w') := fun _ => by
              have := same13 pb pb LL LL _ _ wa Ha.out.2.2 Ha.out.1 (by omega)
              rw [decide_eq_true rfl] at this
              exact this
            go_wp2_with fail
            refine (CSm.out (by trivial)).mono ?_
            rintro e wb ⟨rfl, hbb⟩
            have Hb : Hid (Below w.heap.size w wb) := Ha.out.2.1.trans (hbb.mono Ha.out.2.1.size)
            clear hbb
            go_wp2_with fail
            exact HQ.out _ Hb.out
          · have CO : Hid (∀ w', DrumAt pb (D8.fall []) w' → Calls Try.prog 11 #[.pointer (some ⟨pb, 0, none⟩)] w' fun e w1 => ∃ lb V, e = .returned (.tuple #[.pointer (some ⟨lb, 0, none⟩), V, .int .i64 0]) ∧ LgAt lb pb a9 g9 D9 w1 ∧ TxAt w'.heap.size V I w1 ∧ w'.heap.size ≤ lb ∧ Drm.Kept pb w' w1) := fun w' h => open_ok pb w' h (hok.fall []) rfl ho
            clear ho
            go_wp2_with fail
            refine (CR.out _ HC.out.2.2.1 HC.out.1).mono ?_
            rintro e w8 ⟨rfl, hL8, k8⟩
            have H8 : Hid (StrsAt pb (.slice ai I.length ci) I w8 ∧ LgAt lb2 pb a8 g8 D8 w8 ∧ Below w.heap.size w w8) := ⟨(HC.out.2.1.strs (by omega)).keep2 HC.out.2.2.1.blk k8, hL8, HC.out.2.2.2.1.trans (k8.below.mono hwp)⟩
            clear hL8 k8
            go_wp2_with fail
            refine (CF.out _ H8.out.2.1.drum).mono ?_
            rintro e w9 ⟨rfl, hD9, k9⟩
            have H9 : Hid (StrsAt pb (.slice ai I.length ci) I w9 ∧ DrumAt pb (D8.fall []) w9 ∧ Below w.heap.size w w9 ∧ pb < w9.heap.size) := ⟨H8.out.1.kept k9, hD9, H8.out.2.2.trans (k9.below.mono hwp), hD9.lt⟩
            clear hD9 k9
            go_wp2_with fail
            refine (CO.out _ H9.out.2.1).mono ?_
            rintro e wa ⟨lb3, Va, rfl, hLa, hVa, hlba, ka⟩
            obtain ⟨aa, ca, rfl⟩ := tx_shape hVa
            have Ha : Hid (StrsAt pb (.slice ai I.length ci) I wa ∧ Below w.heap.size w wa ∧ StrsAt pb (.slice aa I.length ca) I wa) := ⟨H9.out.1.kept ka, H9.out.2.2.1.trans (ka.below.mono hwp), hVa.strs H9.out.2.2.2⟩
            clear hLa hVa hlba ka
            have CSm : Hid (1 = 1 → Calls Try.prog 13 #[.slice aa I.length ca, .slice ai I.length ci] wa fun e w' => e = .returned (.bool true) ∧ Below wa.heap.size wa w') := fun _ => by
              have := same13 pb pb I I _ _ wa Ha.out.2.2 Ha.out.1 (by omega)
              rw [decide_eq_true rfl] at this
              exact this
            go_wp2_with fail
            refine (CSm.out (by trivial)).mono ?_
            rintro e wb ⟨rfl, hbb⟩
            have Hb : Hid (Below w.heap.size w wb) := Ha.out.2.1.trans (hbb.mono Ha.out.2.1.size)
            clear hbb
            go_wp2_with fail
            exact HQ.out _ Hb.out
  · have hway : (40 : Int) < L.length ∨ (¬ (40 : Int) < L.length ∧ room < 100) ∨ (¬ (40 : Int) < L.length ∧ ¬ room < 100 ∧ 4000 < room) := by omega
    clear hg
    rcases hway with h1 | ⟨h1, h2⟩ | ⟨h1, h2, h3⟩
    all_goals
      go_enter Try.func5, Try.ntmps5
      go_wp2_with (go_at_call 7; refine (HAw.out _ (by trivial)).mono ?_; rintro e w1 ⟨rfl, hb1⟩; have H1 : Hid (Below w.heap.size w w1) := hb1; clear hb1)
      exact HQ.out _ H1.out

end Go.Proofs.Ytjjdmeemhgopbaa
