/-
  Contract of the log's Open, of a drum that is up.
-/
import Derived.Test.YtjjdmeemhgopbaaCalls
import Derived.Test.YtjjdmeemhgopbaaNewest
namespace Go.Proofs.Ytjjdmeemhgopbaa
open Go.RowKit Go.Sort
open Drm (Dr Pt DrumAt DrumIn)

theorem TxAt.kept {B pb : Nat} {V : Value} {L : List (List UInt8)} {w w' : World} (h : TxAt B V L w) (hp : pb < B) (hk : Drm.Kept pb w w') : TxAt B V L w' := by
  refine ⟨h.1, ?_⟩
  rcases h.2 with h2 | ⟨g, cap, cur, h1, h2, h3, h4⟩
  · exact .inl h2
  · refine .inr ⟨g, cap, cur, h1, h2, ?_, h4⟩
    exact hk.other g _ h3 (by omega) (by intro cs fz e; injection e with _ e _; exact absurd e (by decide))
theorem TxAt.other {B cb : Nat} {V : Value} {L : List (List UInt8)} {w : World} {x0 x1 x2 x3 : Value} (h : TxAt B V L w) (hc : CtIn cb x0 x1 x2 x3 w) (k : Nat) (u : Value) : TxAt B V L (w.setCell ⟨cb, k, none⟩ u) := by
  refine ownsRow_setCell_other h ?_ _
  intro e
  rcases h.2 with ⟨hv, _⟩ | ⟨g, cap, cur, hv, _, hg, _⟩
  · rw [hv] at e; simp [Value.ownBlock] at e
  · rw [hv] at e
    simp only [Value.ownBlock, Option.some.injEq] at e
    subst e
    unfold CtIn at hc
    rw [hg] at hc
    injection hc with hc
    injection hc with _ hc _
    exact absurd hc (by decide)
theorem CtIn.kept {cb pb : Nat} {x0 x1 x2 x3 : Value} {w w' : World} (h : CtIn cb x0 x1 x2 x3 w) (hp : cb ≠ pb) (hk : Drm.Kept pb w w') : CtIn cb x0 x1 x2 x3 w' :=
  hk.other cb _ h hp (by intro cs fz e; injection e with _ e _; exact absurd e (by decide))

theorem openF_ok {D : Dr} (h : D.Ok) : (openF D).2.2.Ok := by
  unfold openF
  have hc := cutTo_ok h (newestTo D 4).1 4
  split
  · exact hc
  split
  · split
    · exact layF_ok hc _ _ _
    · exact layF_ok hc _ _ _
  split
  · split
    · exact hc.trim _ _
    · exact hc.trim _ _
  · exact hc

theorem newest_none (D : Dr) (k : Nat) (h : (newestTo D k).1 = -1) : (newestTo D k).2 = Ct.zero := by
  induction k with
  | zero => rfl
  | succ k ih =>
    rw [newestTo] at h ⊢
    split at h
    · next hh => exact absurd h (by show (k : Int) ≠ -1; omega)
    · next hh => rw [if_neg hh]; exact ih h

/-- What Open leaves. -/
def OpPost (pb : Nat) (w : World) (y : Int × (Int × Nat × List (List UInt8)) × Dr) (e : Ending) (w' : World) : Prop :=
  (y.1 ≠ 0 ∧ e = .returned (.tuple #[.pointer none, .slice none 0 0, .int .i64 y.1]) ∧ DrumAt pb y.2.2 w' ∧ Drm.Kept pb w w') ∨
  (y.1 = 0 ∧ ∃ lb V, e = .returned (.tuple #[.pointer (some ⟨lb, 0, none⟩), V, .int .i64 0]) ∧ LgAt lb pb y.2.1.1 y.2.1.2.1 y.2.2 w' ∧ TxAt w.heap.size V y.2.1.2.2 w' ∧ w.heap.size ≤ lb ∧ Drm.Kept pb w w')

theorem open_end {pb : Nat} {a : Int} {g : Nat} {D : Dr} {V : Value} {L : List (List UInt8)} {w w4 : World} (hD : DrumAt pb D w4) (ht : TxAt w.heap.size V L w4) (hk : Drm.Kept pb w w4) (hs : w.heap.size ≤ w4.heap.size) :
    OpPost pb w (0, (a, g, L), D) (.returned (.tuple #[.pointer (some ⟨w4.heap.size, 0, none⟩), V, .int .i64 0])) (w4.alloc (.cells #[.pointer (some ⟨pb, 0, none⟩), .int .i64 a, .int .u64 g] 78)).drew := by
  refine .inr ⟨rfl, _, V, rfl, ⟨?_, (hD.alloc _).drew, hD.lt⟩, ?_, hs, ?_⟩
  · exact heap_alloc_new w4 _
  · exact (ht.on ((Below.refl _ _).alloc (Nat.le_refl _) _)).on (Below.refl _ _).drew
  · exact (hk.alloc (Nat.le_of_lt hD.lt) _).drew

set_option maxHeartbeats 1600000 in
theorem open11 (pb : Nat) (D : Dr) (w : World) (hD : DrumAt pb D w) (hOk : D.Ok) (hdn : D.down = false) : Calls Try.prog 11 #[.pointer (some ⟨pb, 0, none⟩)] w (OpPost pb w (openF D)) := by
  obtain ⟨ar, c, hn⟩ : ∃ ar c, newestTo D 4 = (ar, c) := ⟨_, _, rfl⟩
  have hN := newest26 pb D w hD hOk hdn
  rw [hn] at hN
  have hlt := hD.lt
  have hrg := newest_range D 4
  rw [hn] at hrg
  have hz : ar = -1 → c.recs = [] := fun h => by have := newest_none D 4 (by rw [hn]; exact h); rw [hn] at this; dsimp only at this; rw [this]; rfl
  have HZ : Hid _ := hz
  clear hz
  dsimp only at hN hrg
  obtain ⟨x, D1, hc⟩ : ∃ x D1, cutTo D ar 4 = (x, D1) := ⟨_, _, rfl⟩
  have hok1 : D1.Ok := by have := cutTo_ok hOk ar 4; rw [hc] at this; exact this
  have HC : Hid (∀ w1, Below w.heap.size w w1 → Calls Try.prog 27 #[.pointer (some ⟨pb, 0, none⟩), .int .i64 ar] w1 fun e w' => e = .returned (.int .i64 x) ∧ DrumAt pb D1 w' ∧ Drm.Kept pb w1 w') := fun w1 hb => by
    have := cut27 pb D ar w1 (hD.on hb) hOk
    rw [hc] at this
    exact this
  have HO : Hid (openF D = if x ≠ 0 then (x, (0, 0, []), D1) else if ar = -1 then (if (layF D1 0 1 []).1 ≠ 0 then ((layF D1 0 1 []).1, (0, 0, []), (layF D1 0 1 []).2) else (0, (0, 1, []), (layF D1 0 1 []).2)) else if 0 < c.beh then (if (D1.trim ar c.fin).1 ≠ 0 then ((D1.trim ar c.fin).1, (0, 0, []), (D1.trim ar c.fin).2) else (0, (ar, c.gen, c.recs), (D1.trim ar c.fin).2)) else (0, (ar, c.gen, c.recs), D1)) := by
    show _ = _
    unfold openF
    rw [hn]
    dsimp only
    rw [hc]
  have HLy : Hid (∀ w1, DrumAt pb D1 w1 → Calls Try.prog 28 #[.pointer (some ⟨pb, 0, none⟩), .int .i64 0, .int .u64 1, .slice none 0 0] w1 fun e w' => e = .returned (.int .i64 (layF D1 0 1 []).1) ∧ DrumAt pb (layF D1 0 1 []).2 w' ∧ Drm.Kept pb w1 w') := fun w1 h1 => lay28 pb D1 0 1 [] (.slice none 0 0) w1 h1 hok1 (by decide) fit_nil (by decide) (StrsAt.nil _ _)
  have HT : Hid (∀ w1, DrumAt pb D1 w1 → Calls Try.prog 29 #[.pointer (some ⟨pb, 0, none⟩), .int .i64 ar, .int .i64 c.fin] w1 fun e w' => e = .returned (.int .i64 (D1.trim ar c.fin).1) ∧ DrumAt pb (D1.trim ar c.fin).2 w' ∧ Drm.Kept pb w1 w') := fun w1 h1 => Drm.trim39 pb D1 ar c.fin w1 h1 hok1
  obtain ⟨y, hy⟩ : ∃ y, openF D = y := ⟨_, rfl⟩
  rw [hy] at HO ⊢
  have HNw : Hid (1 = 1 → Calls Try.prog 26 #[.pointer (some ⟨pb, 0, none⟩)] w fun e w' => (∃ V, e = .returned (.tuple #[.int .i64 ar, ctVal c V, .int .i64 0]) ∧ TxAt (w.heap.size + 1) V c.recs w') ∧ Below w.heap.size w w') := fun _ => hN
  clear hN hn hc hok1 hy hOk hdn hD
  generalize hQ : OpPost pb w y = Q at *
  have HQ : Hid _ := hQ
  clear hQ
  go_enter Try.func11, Try.ntmps11
  go_wp2_with fail
  refine (HNw.out (by trivial)).mono ?_
  rintro e w1 ⟨⟨V, rfl, htx⟩, hb1⟩
  unfold ctVal
  obtain ⟨ao, cp, rfl⟩ := tx_shape htx
  obtain ⟨cb, hcb⟩ : ∃ cb, cb = w1.heap.size := ⟨_, rfl⟩
  have hE : Below w1.heap.size w1 (w1.alloc (.cells #[.int .u64 c.gen, .slice ao c.recs.length cp, .int .i64 c.fin, .int .i64 c.beh] 71)) := (Below.refl _ _).alloc (Nat.le_refl _) _
  have hct : CtIn cb (.int .u64 c.gen) (.slice ao c.recs.length cp) (.int .i64 c.fin) (.int .i64 c.beh) (w1.alloc (.cells #[.int .u64 c.gen, .slice ao c.recs.length cp, .int .i64 c.fin, .int .i64 c.beh] 71)) := by rw [hcb]; exact heap_alloc_new w1 _
  have H1 : Hid (CtIn cb (.int .u64 c.gen) (.slice ao c.recs.length cp) (.int .i64 c.fin) (.int .i64 c.beh) (w1.alloc (.cells #[.int .u64 c.gen, .slice ao c.recs.length cp, .int .i64 c.fin, .int .i64 c.beh] 71)) ∧ TxAt w.heap.size (.slice ao c.recs.length cp) c.recs (w1.alloc (.cells #[.int .u64 c.gen, .slice ao c.recs.length cp, .int .i64 c.fin, .int .i64 c.beh] 71)) ∧ Below w.heap.size w (w1.alloc (.cells #[.int .u64 c.gen, .slice ao c.recs.length cp, .int .i64 c.fin, .int .i64 c.beh] 71)) ∧ w.heap.size ≤ cb ∧ cb = w1.heap.size) :=
    ⟨hct, (htx.on hE).widen (by omega), hb1.trans (hE.mono hb1.size), by rw [hcb]; exact hb1.size, hcb⟩
  clear htx hb1 hE hct hcb
  go_wp2_with fail
  rw [← H1.out.2.2.2.2]
  refine (HC.out _ H1.out.2.2.1).mono ?_
  rintro e w2 ⟨rfl, hD2, k2⟩
  have hcp : cb ≠ pb := by have := H1.out.2.2.2.1; omega
  have H2 : Hid (CtIn cb (.int .u64 c.gen) (.slice ao c.recs.length cp) (.int .i64 c.fin) (.int .i64 c.beh) w2 ∧ TxAt w.heap.size (.slice ao c.recs.length cp) c.recs w2 ∧ DrumAt pb D1 w2 ∧ Drm.Kept pb w w2 ∧ w.heap.size ≤ cb ∧ w.heap.size ≤ w2.heap.size) :=
    ⟨H1.out.1.kept hcp k2, H1.out.2.1.kept hlt k2, hD2, (Drm.Kept.of_below hlt H1.out.2.2.1).trans k2, H1.out.2.2.2.1, Nat.le_trans H1.out.2.2.1.size k2.below.size⟩
  clear hD2 k2 H1
  obtain ⟨c0, c1, c2, c3, cf⟩ := H2.out.1.cells
  by_cases hx0 : x = 0
  · subst hx0
    have HO2 : Hid (y = if ar = -1 then (if (layF D1 0 1 []).1 ≠ 0 then ((layF D1 0 1 []).1, (0, 0, []), (layF D1 0 1 []).2) else (0, (0, 1, []), (layF D1 0 1 []).2)) else if 0 < c.beh then (if (D1.trim ar c.fin).1 ≠ 0 then ((D1.trim ar c.fin).1, (0, 0, []), (D1.trim ar c.fin).2) else (0, (ar, c.gen, c.recs), (D1.trim ar c.fin).2)) else (0, (ar, c.gen, c.recs), D1)) := by
      show _ = _
      rw [HO.out, if_neg (by decide)]
    clear HO
    by_cases har : ar = -1
    · subst har
      have hrec : c.recs = [] := HZ.out rfl
      have HO3 : Hid (y = if (layF D1 0 1 []).1 ≠ 0 then ((layF D1 0 1 []).1, (0, 0, []), (layF D1 0 1 []).2) else (0, (0, 1, []), (layF D1 0 1 []).2)) := by
        show _ = _
        rw [HO2.out, if_pos rfl]
      have HREC : Hid _ := hrec
      clear HO2 hrec
      generalize layF D1 0 1 [] = z at *
      obtain ⟨lx, D3⟩ := z
      dsimp only at HO3 HLy
      have hct3 := H2.out.1.set0 (.int .u64 1)
      obtain ⟨d0, d1, d2, d3, df⟩ := hct3.cells
      have hD3 : DrumAt pb D1 (w2.setCell ⟨cb, 0, none⟩ (.int .u64 1)) := H2.out.2.2.1.store H2.out.1 hcp (by decide) _ _
      have H3 : Hid (CtIn cb (.int .u64 1) (.slice ao c.recs.length cp) (.int .i64 c.fin) (.int .i64 c.beh) (w2.setCell ⟨cb, 0, none⟩ (.int .u64 1)) ∧ TxAt w.heap.size (.slice ao c.recs.length cp) c.recs (w2.setCell ⟨cb, 0, none⟩ (.int .u64 1)) ∧ DrumAt pb D1 (w2.setCell ⟨cb, 0, none⟩ (.int .u64 1)) ∧ Drm.Kept pb w (w2.setCell ⟨cb, 0, none⟩ (.int .u64 1))) :=
        ⟨hct3, H2.out.2.1.other H2.out.1 _ _, hD3, ⟨H2.out.2.2.2.1.below.setCell (p := ⟨cb, 0, none⟩) (by have := H2.out.2.2.2.2.1; show pb ≤ cb; omega) _, fun k o hk h1 h5 => by
          rw [Below.heap_setCell _ _ _ _ (by have := lt_of_block hk; have := H2.out.2.2.2.2.1; show k ≠ cb; omega)]
          exact H2.out.2.2.2.1.other k o hk h1 h5⟩⟩
      clear hct3 hD3
      go_wp2_with fail
      refine (HLy.out _ H3.out.2.2.1).mono ?_
      rintro e w4 ⟨rfl, hD4, k4⟩
      have H4 : Hid (CtIn cb (.int .u64 1) (.slice ao c.recs.length cp) (.int .i64 c.fin) (.int .i64 c.beh) w4 ∧ TxAt w.heap.size (.slice ao c.recs.length cp) c.recs w4 ∧ DrumAt pb D3 w4 ∧ Drm.Kept pb w w4 ∧ w.heap.size ≤ w4.heap.size) := ⟨H3.out.1.kept hcp k4, H3.out.2.1.kept hlt k4, hD4, H3.out.2.2.2.trans k4, (H3.out.2.2.2.trans k4).below.size⟩
      clear hD4 k4
      obtain ⟨e0, e1, e2, e3, ef⟩ := H4.out.1.cells
      by_cases hl0 : lx = 0
      · subst hl0
        have HY : Hid (y = (0, (0, 1, []), D3)) := by
          show _ = _
          rw [HO3.out, if_neg (by decide)]
        have eal : (w4.alloc (.cells #[.pointer (some ⟨pb, 0, none⟩), .int .i64 0, .int .u64 1] 78)).cell? ⟨cb, 1, none⟩ = some (.slice ao c.recs.length cp) := (H4.out.1.on ((Below.refl _ _).alloc (Nat.le_refl _) _)).cells.2.1
        go_wp2_with fail
        (try clear cf)
        go_region
        go_wp2_with fail
        go_ret3
        rw [← HQ.out, HY.out]
        have hyr : ((0 : Int), ((0 : Int), 1, ([] : List (List UInt8))), D3) = (0, (0, 1, c.recs), D3) := by rw [HREC.out]
        rw [hyr]
        exact open_end (a := 0) (g := 1) H4.out.2.2.1 H4.out.2.1 H4.out.2.2.2.1 H4.out.2.2.2.2
      · have hl' : (lx != 0) = true := by simp [hl0]
        have HY : Hid (lx ≠ 0 ∧ y = (lx, (0, 0, []), D3)) := ⟨hl0, by rw [HO3.out, if_pos hl0]⟩
        clear hl0
        go_wp2_with fail
        go_ret3
        rw [← HQ.out, HY.out.2]
        exact .inl ⟨HY.out.1, rfl, H4.out.2.2.1, H4.out.2.2.2.1⟩
    · have har' : (ar == -1) = false := by simpa using har
      have HO3 : Hid (y = if 0 < c.beh then (if (D1.trim ar c.fin).1 ≠ 0 then ((D1.trim ar c.fin).1, (0, 0, []), (D1.trim ar c.fin).2) else (0, (ar, c.gen, c.recs), (D1.trim ar c.fin).2)) else (0, (ar, c.gen, c.recs), D1)) := by
        show _ = _
        rw [HO2.out, if_neg har]
      clear HO2 har
      by_cases hbe : 0 < c.beh
      · have hbe' : (0 : Int) < c.beh := by omega
        have HO4 : Hid (y = if (D1.trim ar c.fin).1 ≠ 0 then ((D1.trim ar c.fin).1, (0, 0, []), (D1.trim ar c.fin).2) else (0, (ar, c.gen, c.recs), (D1.trim ar c.fin).2)) := by
          show _ = _
          rw [HO3.out, if_pos hbe]
        clear HO3 hbe
        generalize D1.trim ar c.fin = z at *
        obtain ⟨lx, D3⟩ := z
        dsimp only at HO4 HT
        go_wp2_with fail
        refine (HT.out _ H2.out.2.2.1).mono ?_
        rintro e w4 ⟨rfl, hD4, k4⟩
        have H4 : Hid (CtIn cb (.int .u64 c.gen) (.slice ao c.recs.length cp) (.int .i64 c.fin) (.int .i64 c.beh) w4 ∧ TxAt w.heap.size (.slice ao c.recs.length cp) c.recs w4 ∧ DrumAt pb D3 w4 ∧ Drm.Kept pb w w4 ∧ w.heap.size ≤ w4.heap.size) := ⟨H2.out.1.kept hcp k4, H2.out.2.1.kept hlt k4, hD4, H2.out.2.2.2.1.trans k4, (H2.out.2.2.2.1.trans k4).below.size⟩
        clear hD4 k4
        obtain ⟨e0, e1, e2, e3, ef⟩ := H4.out.1.cells
        by_cases hl0 : lx = 0
        · subst hl0
          have HY : Hid (y = (0, (ar, c.gen, c.recs), D3)) := by
            show _ = _
            rw [HO4.out, if_neg (by decide)]
          have eal : (w4.alloc (.cells #[.pointer (some ⟨pb, 0, none⟩), .int .i64 ar, .int .u64 c.gen] 78)).cell? ⟨cb, 1, none⟩ = some (.slice ao c.recs.length cp) := (H4.out.1.on ((Below.refl _ _).alloc (Nat.le_refl _) _)).cells.2.1
          go_wp2_with fail
          go_region
          go_wp2_with fail
          go_ret3
          rw [← HQ.out, HY.out]
          exact open_end H4.out.2.2.1 H4.out.2.1 H4.out.2.2.2.1 H4.out.2.2.2.2
        · have hl' : (lx != 0) = true := by simp [hl0]
          have HY : Hid (lx ≠ 0 ∧ y = (lx, (0, 0, []), D3)) := ⟨hl0, by rw [HO4.out, if_pos hl0]⟩
          clear hl0
          go_wp2_with fail
          go_ret3
          rw [← HQ.out, HY.out.2]
          exact .inl ⟨HY.out.1, rfl, H4.out.2.2.1, H4.out.2.2.2.1⟩
      · have hbe' : ¬ (0 : Int) < c.beh := by omega
        have HY : Hid (y = (0, (ar, c.gen, c.recs), D1)) := by
          show _ = _
          rw [HO3.out, if_neg hbe]
        clear HO3 hbe
        have eal : (w2.alloc (.cells #[.pointer (some ⟨pb, 0, none⟩), .int .i64 ar, .int .u64 c.gen] 78)).cell? ⟨cb, 1, none⟩ = some (.slice ao c.recs.length cp) := (H2.out.1.on ((Below.refl _ _).alloc (Nat.le_refl _) _)).cells.2.1
        go_wp2_with fail
        go_region
        go_wp2_with fail
        go_ret3
        rw [← HQ.out, HY.out]
        exact open_end H2.out.2.2.1 H2.out.2.1 H2.out.2.2.2.1 H2.out.2.2.2.2.2
  · have hx' : (x != 0) = true := by simp [hx0]
    have HY : Hid (x ≠ 0 ∧ y = (x, (0, 0, []), D1)) := ⟨hx0, by rw [HO.out, if_pos hx0]⟩
    clear hx0
    go_wp2_with fail
    go_ret3
    rw [← HQ.out, HY.out.2]
    exact .inl ⟨HY.out.1, rfl, H2.out.2.2.1, H2.out.2.2.2.1⟩

end Go.Proofs.Ytjjdmeemhgopbaa
