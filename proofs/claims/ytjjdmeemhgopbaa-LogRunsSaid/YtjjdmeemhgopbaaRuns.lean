/-
  The walk of LogRuns: whatever room and acts it is given it answers true, and turns no memory that was there.
-/
import Derived.Test.YtjjdmeemhgopbaaRall
import Derived.Lib.QuietBelow
namespace Go.Proofs.Ytjjdmeemhgopbaa
open Go.RowKit Go.Sort
open Drm (Dr Pt DrumAt DrumIn RefAt)

theorem box_kept {xb pb : Nat} {cs : Array Value} {w w' : World} (h : w.heap[xb]? = some (.cells cs 43 (0, 0))) (hk : Drm.Kept pb w w') (hne : xb ≠ pb) : w'.heap[xb]? = some (.cells cs 43 (0, 0)) :=
  hk.other xb _ h hne (by intro cs fz e; injection e with _ e _; exact absurd e (by decide))
theorem box_keep2 {xb pb lb : Nat} {cs : Array Value} {w w' : World} (h : w.heap[xb]? = some (.cells cs 43 (0, 0))) (hk : Keep2 lb pb w w') (hne : xb ≠ pb) (h2 : xb ≠ lb) : w'.heap[xb]? = some (.cells cs 43 (0, 0)) :=
  hk.other xb _ h hne h2 (by intro cs fz e; injection e with _ e _; exact absurd e (by decide))
theorem box_sole {xb rb : Nat} {cs : Array Value} {w w' : World} (h : w.heap[xb]? = some (.cells cs 43 (0, 0))) (hk : Drm.Sole rb w w') (hne : xb ≠ rb) : w'.heap[xb]? = some (.cells cs 43 (0, 0)) := by
  rw [hk.block xb (lt_of_block h) hne]
  exact h

/-- Both logs lie ahead of x. -/
def Newer (lp mp : Option Addr) (x : Nat) : Prop := (∀ lb, lp = some ⟨lb, 0, none⟩ → lb < x) ∧ (∀ qb, mp = some ⟨qb, 0, none⟩ → qb < x)
theorem Pair.newer {pb rb : Nat} {lp mp : Option Addr} {D : Dr} {w0 w : World} (h : Pair pb rb lp mp D w0 w) : Newer lp mp w.heap.size := by
  rcases h.logs with ⟨rfl, rfl⟩ | ⟨lb, qb, a, g, rfl, rfl, h3, h4, _⟩
  · exact ⟨fun _ h => by simp at h, fun _ h => by simp at h⟩
  · refine ⟨fun b h => ?_, fun b h => ?_⟩
    · simp at h; rw [← h]; exact h3.lt
    · simp at h; rw [← h]; exact h4.lt

/-- What is asked of a region's operations, behind a veil: the tactics don't reckon it out. -/
structure Veil (p : Prop) : Prop where
  out : p
theorem vq_step {P : Program} {ops : Array Oper} {C : World → Prop} {Q : Act → Prop} {a : Act} {o : Oper} {rest : List Oper}
    (h : ∀ K : Act → Prop, (∀ a, Veil (wpQuiet P ops C Q rest a) → K a) → if Region.wanted o (yielded ops a.tmps) then o.quiet P a C K else K (a.put o.dst undef)) : Veil (wpQuiet P ops C Q (o :: rest) a) :=
  ⟨wpQuiet_step fun K hK => h K fun a ha => hK a ha.out⟩
theorem vq_nil {P : Program} {ops : Array Oper} {C : World → Prop} {Q : Act → Prop} {a : Act} (h : Q a) : Veil (wpQuiet P ops C Q [] a) := ⟨wpQuiet_nil h⟩

set_option maxHeartbeats 16000000 in
set_option maxRecDepth 100000 in
theorem runs3 (room : Int) (acts : List Ac) (ao : Option Addr) (b off cap : Nat) (w : World) (hao : 0 < acts.length → ao = some ⟨b, off, none⟩) (hcell : ∀ i, i < acts.length → AcAt w b off i (acts.getD i dflt) ∧ (acts.getD i dflt).ok) (hn : acts.length < 9223372036854775807) :
    Calls Try.prog 3 #[.int .i64 room, .slice ao acts.length cap] w fun e w' => e = .returned (.bool true) ∧ Below w.heap.size w w' := by
  have HAw : Hid (∀ w, 1 = 1 → Calls Try.prog 7 #[] w fun e w' => e = .returned (.bool true) ∧ Below w.heap.size w w') := fun w _ => awake7 w
  obtain ⟨Q, hQ⟩ : ∃ Q : Ending → World → Prop, Q = fun e w' => e = .returned (.bool true) ∧ Below w.heap.size w w' := ⟨_, rfl⟩
  rw [← hQ]
  have HQ : Hid (∀ w', Below w.heap.size w w' → Q (.returned (.bool true)) w') := fun w' h => by rw [hQ]; exact ⟨rfl, h⟩
  clear hQ
  have HO : Hid (0 < acts.length → ao = some ⟨b, off, none⟩) := hao
  have HC : Hid (∀ i, i < acts.length → AcAt w b off i (acts.getD i dflt) ∧ (acts.getD i dflt).ok) := hcell
  clear hao hcell
  have CSm : Hid (∀ w1, Below w.heap.size w w1 → Calls Try.prog 10 #[.slice ao acts.length cap] w1 fun e w' => (∃ r, e = .returned (.bool r) ∧ (r = true → ∀ i, i < acts.length → (acts.getD i dflt).list.length ≤ 50)) ∧ Below w1.heap.size w1 w') := fun w1 hb => small10 acts ao b off cap w1 HO.out (fun i hi => (HC.out i hi).1.later hb) hn
  by_cases hroom : 0 ≤ room ∧ room ≤ 1048576
  · obtain ⟨hr0, hr1⟩ := hroom
    have hO0 : (Dr.new room).Ok := Drm.Dr.Ok.new room hr0 hr1
    have hN8 := fun w => Drm.new8 room w hr0 hr1
    have hN9 := fun w => Drm.rnew9 room w hr0 hr1
    have hdn0 : (Dr.new room).down = false := rfl
    generalize Dr.new room = D0 at *
    obtain ⟨x, ag, D1, hy⟩ : ∃ x ag D1, openF D0 = (x, ag, D1) := ⟨_, _, _, rfl⟩
    have C11 : Hid (∀ pb rb w0 w, Pair pb rb none none D0 w0 w → Calls Try.prog 11 #[.pointer (some ⟨pb, 0, none⟩)] w fun e w1 => ∃ lp' va, e = .returned (.tuple #[.pointer lp', va, .int .i64 x]) ∧ Half pb rb lp' va D0 w0 w1) := fun pb rb w0 w h => by
      have := pair_open1 h hdn0
      rw [hy] at this
      exact this
    have C12 : Hid (∀ pb rb lp va w0 w, Half pb rb lp va D0 w0 w → Calls Try.prog 12 #[.pointer (some ⟨rb, 0, none⟩)] w fun e w1 => ∃ mp' vb, e = .returned (.tuple #[.pointer mp', vb, .int .i64 x]) ∧ Pair pb rb lp mp' D1 w0 w1 ∧ ∃ R, StrsAt pb va R w1 ∧ StrsAt pb vb R w1 ∧ R.length < 9223372036854775807) := fun pb rb lp va w0 w h => by
      have := pair_open2 h
      rw [hy] at this
      exact this
    have HN8 : Hid (∀ w : World, Calls Try.prog 8 #[.int .i64 room] w fun e w' => e = .returned (.tuple #[.pointer (some ⟨w.heap.size, 0, none⟩), .int .i64 0]) ∧ DrumAt w.heap.size D0 w' ∧ Below w.heap.size w w') := hN8
    have HN9 : Hid (∀ w : World, Calls Try.prog 9 #[.int .i64 room] w fun e w' => e = .returned (.tuple #[.pointer (some ⟨w.heap.size, 0, none⟩), .int .i64 0]) ∧ RefAt w.heap.size D0 w' ∧ Below w.heap.size w w') := hN9
    have HO0 : Hid D0.Ok := hO0
    clear hN8 hN9 hO0 hdn0 hy
    go_enter Try.func3, Try.ntmps3
    go_wp2_with fail
    refine (HAw.out _ (by trivial)).mono ?_
    rintro e w1 ⟨rfl, hb1⟩
    go_wp2_with fail
    refine (HN8.out _).mono ?_
    obtain ⟨pb, hpb⟩ : ∃ pb, pb = w1.heap.size := ⟨_, rfl⟩
    rw [← hpb]
    rintro e w2 ⟨rfl, hD2, hb2⟩
    have Hpb : Hid (pb = w1.heap.size) := hpb
    clear hpb
    go_wp2_with fail
    refine (HN9.out _).mono ?_
    obtain ⟨rb, hrb⟩ : ∃ rb, rb = w2.heap.size := ⟨_, rfl⟩
    rw [← hrb]
    rintro e w3 ⟨rfl, hR3, hb3⟩
    have hpb := Hpb.out
    clear Hpb
    have hbb : Below w.heap.size w w3 := (hb1.trans (hb2.mono (by rw [hpb]; exact hb1.size))).trans (hb3.mono (by rw [hrb]; exact Nat.le_trans hb1.size (by rw [← hpb]; have := hb2.size; have := hD2.lt; omega)))
    have H3 : Hid (Pair pb rb none none D0 w w3) := ⟨hD2.on (by rw [hrb] at hb3; exact hb3), hR3, HO0.out, by rw [hrb]; exact hD2.lt, by rw [hpb]; exact hb1.size, hbb, .inl ⟨rfl, rfl⟩⟩
    clear hb1 hb2 hb3 hpb hrb hD2 hR3 hbb
    go_upto_region 5 with fail
    go_cut [37] (fun t wc => ∃ r, t = .bool (!r) ∧ Pair pb rb none none D0 w wc ∧ (r = true → ∀ i, i < acts.length → (acts.getD i dflt).list.length ≤ 50))
    case first =>
      go_wp2_with (first | (go_at_call 10; refine (CSm.out _ H3.out.below).mono ?_; rintro e w4 ⟨⟨r, rfl, hr⟩, hb4⟩; have H4 : Hid (Pair pb rb none none D0 w w4 ∧ (r = true → ∀ i, i < acts.length → (acts.getD i dflt).list.length ≤ 50)) := ⟨H3.out.on hb4, hr⟩; clear hr hb4))
      go_meet
      exact ⟨r, rfl, H4.out⟩
    case rest =>
    obtain ⟨r, rfl, h4, hr⟩ := hcut
    have H4 : Hid (Pair pb rb none none D0 w wc) := h4
    have HSm : Hid (r = true → ∀ i, i < acts.length → (acts.getD i dflt).list.length ≤ 50) := hr
    clear h4 hr H3 CSm
    cases r with
    | false =>
      go_wp2_with fail
      exact HQ.out _ H4.out.below
    | true =>
      have HSm2 : Hid (∀ i, i < acts.length → (acts.getD i dflt).list.length ≤ 50) := HSm.out (by trivial)
      clear HSm
      go_wp2_with fail
      refine (C11.out _ _ _ _ H4.out).mono ?_
      rintro e w5 ⟨lp, va, rfl, h5⟩
      have H5 : Hid (Half pb rb lp va D0 w w5) := h5
      clear h5 H4
      go_wp2_with fail
      refine (C12.out _ _ _ _ _ _ H5.out).mono ?_
      rintro e w6 ⟨mp, vb, rfl, h6, R, hs1, hs2, hRl⟩
      have H6 : Hid (Pair pb rb lp mp D1 w w6 ∧ StrsAt pb va R w6 ∧ StrsAt pb vb R w6 ∧ R.length < 9223372036854775807) := ⟨h6, hs1, hs2, hRl⟩
      obtain ⟨aa, ca, rfl, _⟩ := hs1
      obtain ⟨ab, cb, rfl, _⟩ := hs2
      clear h6 H5 hRl
      have CS1 : Hid (1 = 1 → Calls Try.prog 13 #[.slice aa R.length ca, .slice ab R.length cb] w6 fun e w' => e = .returned (.bool true) ∧ Below w6.heap.size w6 w') := fun _ => by
        have := same13 pb pb R R _ _ w6 H6.out.2.1 H6.out.2.2.1 H6.out.2.2.2
        simpa using this
      have CS2 : Hid (∀ w7, Below w6.heap.size w6 w7 → Calls Try.prog 14 #[.pointer (some ⟨pb, 0, none⟩), .pointer (some ⟨rb, 0, none⟩)] w7 fun e w' => e = .returned (.bool true) ∧ Below w7.heap.size w7 w') := fun w7 h => same14 pb rb D1 w7 (H6.out.1.on h).drum (H6.out.1.on h).ref H6.out.1.ok
      go_wp2_with (first | (go_at_call 13; refine (CS1.out (by trivial)).mono ?_; rintro e w7 ⟨rfl, hb7⟩; have H7 : Hid (Below w6.heap.size w6 w7) := hb7; clear hb7) | (go_at_call 14; refine (CS2.out _ H7.out).mono ?_; rintro e w8 ⟨rfl, hb8⟩; have H8 : Hid (Pair pb rb lp mp D1 w w8) := H6.out.1.on (H7.out.trans (hb8.mono H7.out.size)); clear hb8))
      go_loopw [9, 12, 67] (fun lv mv i wr => ∃ (k : Nat) (D : Dr) (lp mp : Option Addr), k ≤ acts.length ∧ i = .int .i64 k ∧ k ≤ 60 ∧ lv = .pointer lp ∧ mv = .pointer mp ∧ Pair pb rb lp mp D w wr) (fun _ _ i _ => acts.length - (intOf i).toNat)
      case atStart => exact ⟨0, D1, lp, mp, by omega, rfl, by omega, rfl, rfl, H8.out⟩
      case round =>
        clear CS1 CS2 H6 H7 H8 HAw C11 C12 HN8 HN9 HO0
        obtain ⟨k, D, lp, mp, hk, rfl, hk60, rfl, rfl, hP⟩ := hrel
        have HP : Hid (Pair pb rb lp mp D w wr) := hP
        clear hP
        by_cases hlt : k < acts.length
        · obtain rfl := HO.out (by omega)
          obtain ⟨z0, z1, z2, z3, z4⟩ := (HC.out k hlt).1.on HP.out.below
          have HS : Hid (ArgStrs (acts.getD k dflt).lv (acts.getD k dflt).list w ∧ (acts.getD k dflt).list.length ≤ 50) := ⟨(HC.out k hlt).1.strs, HSm2.out k hlt⟩
          have HKp : Hid (ArgKeep w (acts.getD k dflt).kv (acts.getD k dflt).keep ∧ (acts.getD k dflt).ok) := ⟨(HC.out k hlt).1.keeps, (HC.out k hlt).2⟩
          generalize acts.getD k dflt = c at *
          obtain ⟨what, nn, text, list, lv, keep, kv⟩ := c
          dsimp only at z0 z1 z2 z3 z4 HS HKp
          obtain ⟨al, cl1, rfl, _⟩ := HS.out.1
          obtain ⟨ka, kc, rfl, _⟩ := HKp.out.1
          obtain ⟨xb, hxb⟩ : ∃ xb, xb = wr.heap.size := ⟨_, rfl⟩
          have hbx : (wr.alloc (.cells #[.int .i64 what, .int .i64 nn, .string (bs text), .slice al list.length cl1, .slice ka keep.length kc] 43)).heap[xb]? = some (.cells #[.int .i64 what, .int .i64 nn, .string (bs text), .slice al list.length cl1, .slice ka keep.length kc] 43 (0, 0)) := by rw [hxb]; exact heap_alloc_new wr _
          have hal : Below wr.heap.size wr (wr.alloc (.cells #[.int .i64 what, .int .i64 nn, .string (bs text), .slice al list.length cl1, .slice ka keep.length kc] 43)) := (Below.refl _ _).alloc (Nat.le_refl _) _
          have HB : Hid (Pair pb rb lp mp D w (wr.alloc (.cells #[.int .i64 what, .int .i64 nn, .string (bs text), .slice al list.length cl1, .slice ka keep.length kc] 43)) ∧ (wr.alloc (.cells #[.int .i64 what, .int .i64 nn, .string (bs text), .slice al list.length cl1, .slice ka keep.length kc] 43)).heap[xb]? = some (.cells #[.int .i64 what, .int .i64 nn, .string (bs text), .slice al list.length cl1, .slice ka keep.length kc] 43 (0, 0)) ∧ rb < xb ∧ Newer lp mp xb) :=
            ⟨HP.out.on hal, hbx, by rw [hxb]; exact HP.out.ref.lt, by rw [hxb]; exact HP.out.newer⟩
          obtain ⟨y0, y1, y2, y3, y4⟩ := five_cells hbx
          clear hal hbx HP
          by_cases hk6 : k = 60
          · have hk6' : ((k : Int) == 60) = true := by simp; omega
            rw [hxb] at y0 y1 y2 y3 y4
            clear hk6
            go_wp2_with fail
            exact HQ.out _ HB.out.1.below
          · have hk6' : ((k : Int) == 60) = false := by simp; omega
            have HK1 : Hid (k + 1 ≤ acts.length ∧ k + 1 ≤ 60) := ⟨by omega, by omega⟩
            have HXB : Hid (xb = wr.heap.size) := hxb
            rw [hxb] at y0 y1 y2 y3 y4
            clear hxb
            obtain ⟨wx, hwx⟩ : ∃ wx, wx = wr.alloc (.cells #[.int .i64 what, .int .i64 nn, .string (bs text), .slice al list.length cl1, .slice ka keep.length kc] 43) := ⟨_, rfl⟩
            go_upto_region 15 with fail
            rw [← hwx]
            rw [← hwx] at HB y0 y1 y2 y3 y4
            rw [← HXB.out]
            rw [← HXB.out] at y0 y1 y2 y3 y4
            clear hwx z0 z1 z2 z3 z4 HXB
            by_cases hw3 : what = 3
            · subst hw3
              as_aux_lemma =>
              have CF : Hid (1 = 1 → Calls Try.prog 15 #[.pointer (some ⟨pb, 0, none⟩), .slice ka keep.length kc] wx fun e w1 => e = .returned (.tuple #[]) ∧ DrumAt pb (D.fall keep) w1 ∧ Drm.Kept pb wx w1) := fun _ => Drm.fall26 pb D _ keep wx HB.out.1.drum HB.out.1.ok (HKp.out.1.at HB.out.1.below HB.out.1.wp) HKp.out.2.keep HKp.out.2.len
              go_wp2_with fail
              refine (CF.out (by trivial)).mono ?_
              rintro e w5 ⟨rfl, hD5, k5⟩
              have hB5 : Below w.heap.size w w5 := HB.out.1.below.trans (k5.below.mono HB.out.1.wp)
              have HX5 : Hid (w5.heap[xb]? = some (.cells #[.int .i64 3, .int .i64 nn, .string (bs text), .slice al list.length cl1, .slice ka keep.length kc] 43 (0, 0))) := box_kept HB.out.2.1 k5 (by have := HB.out.1.lt; have := HB.out.2.2.1; omega)
              have CF2 : Hid (1 = 1 → Calls Try.prog 16 #[.pointer (some ⟨rb, 0, none⟩), .slice ka keep.length kc] w5 fun e w1 => e = .returned (.tuple #[]) ∧ RefAt rb (D.fall keep) w1 ∧ Drm.Sole rb w5 w1) := fun _ => Drm.rfall21 rb D _ keep w5 (HB.out.1.ref.kept k5 (by have := HB.out.1.lt; omega)) HB.out.1.ok (HKp.out.1.at hB5 HB.out.1.wr) HKp.out.2.keep HKp.out.2.len
              have H5 : Hid (DrumAt pb (D.fall keep) w5 ∧ Drm.Kept pb wx w5) := ⟨hD5, k5⟩
              clear hD5 k5 hB5 y0 y1 y2 y3 y4 CF
              obtain ⟨y0, y1, y2, y3, y4⟩ := five_cells HX5.out
              go_wp2_with fail
              refine (CF2.out (by trivial)).mono ?_
              rintro e w6 ⟨rfl, hR6, s6⟩
              have H6 : Hid (Pair pb rb none none (D.fall keep) w w6) := pair_fall HB.out.1 (HB.out.1.ok.fall keep) H5.out.1 H5.out.2 hR6 s6
              have HX6 : Hid (w6.heap[xb]? = some (.cells #[.int .i64 3, .int .i64 nn, .string (bs text), .slice al list.length cl1, .slice ka keep.length kc] 43 (0, 0))) := box_sole HX5.out s6 (by have := HB.out.2.2.1; omega)
              have hdn : (D.fall keep).down = false := rfl
              clear hR6 s6 y0 y1 y2 y3 y4 CF2 H5 HX5
              generalize D.fall keep = D5 at H6 hdn
              have HDN : Hid (D5.down = false) := hdn
              clear hdn
              obtain ⟨y0, y1, y2, y3, y4⟩ := five_cells HX6.out
              have hn0 := HKp.out.2.n0
              have hn1 := HKp.out.2.n1
              dsimp only at hn0 hn1
              go_upto_region 18 with fail
              go_cut [92] (fun t wc => t = .bool (decide (0 ≤ nn ∧ nn < 9)) ∧ w6 = wc)
              case first =>
                as_aux_lemma =>
                rcases (by omega : nn < 0 ∨ (0 ≤ nn ∧ nn < 9) ∨ (0 ≤ nn ∧ 9 ≤ nn)) with h1 | ⟨h1, h2⟩ | ⟨h1, h2⟩
                all_goals
                  go_wp2_with fail
                  go_meet
                  exact ⟨by simp; omega, rfl⟩
              case rest =>
              obtain ⟨rfl, rfl⟩ := hcut
              have HNN : Hid (decide (0 ≤ nn ∧ nn < 9) = true → 0 ≤ nn ∧ nn < 9) := fun h => of_decide_eq_true h
              generalize decide (0 ≤ nn ∧ nn < 9) = bb at HNN
              go_upto_if 92 with fail
              go_cut [] (fun wc => ∃ D6, Pair pb rb none none D6 w wc ∧ D6.down = false)
              case first =>
                cases bb with
                | false =>
                  go_wp2_with fail
                  go_meet
                  exact ⟨D5, H6.out, HDN.out⟩
                | true =>
                  as_aux_lemma =>
                  have h9 := HNN.out rfl
                  have CFu : Hid (1 = 1 → Calls Try.prog 17 #[.pointer (some ⟨pb, 0, none⟩), .int .i64 nn] w6 fun e w' => e = .returned (.tuple #[]) ∧ DrumAt pb { D5 with fuel := nn } w' ∧ Drm.Kept pb w6 w') := fun _ => Drm.fuel27 pb D5 nn w6 H6.out.drum
                  go_wp2_with fail
                  refine (CFu.out (by trivial)).mono ?_
                  rintro e w7 ⟨rfl, hD7, k7⟩
                  have HX7 : Hid (w7.heap[xb]? = some (.cells #[.int .i64 3, .int .i64 nn, .string (bs text), .slice al list.length cl1, .slice ka keep.length kc] 43 (0, 0))) := box_kept HX6.out k7 (by have := HB.out.1.lt; have := HB.out.2.2.1; omega)
                  have hr7 := H6.out.ref.kept k7 (by have := HB.out.1.lt; omega)
                  have zl := hr7.left
                  have zf := hr7.free
                  have H7 : Hid (DrumAt pb { D5 with fuel := nn } w7 ∧ Drm.Kept pb w6 w7) := ⟨hD7, k7⟩
                  clear hD7 k7 hr7 y0 y1 y2 y3 y4
                  obtain ⟨y0, y1, y2, y3, y4⟩ := five_cells HX7.out
                  go_wp2_with fail
                  go_meet
                  exact ⟨{ D5 with fuel := nn }, pair_fuel H6.out hn0 hn1 (by omega) H7.out.1 H7.out.2, HDN.out⟩
              case rest =>
              as_aux_lemma =>
              obtain ⟨D6, hP6, hdn6⟩ := hcut
              obtain ⟨x6, ag6, D7, hy6⟩ : ∃ x ag D1, openF D6 = (x, ag, D1) := ⟨_, _, _, rfl⟩
              have C11 : Hid (∀ w', Pair pb rb none none D6 w w' → Calls Try.prog 11 #[.pointer (some ⟨pb, 0, none⟩)] w' fun e w1 => ∃ lp' va, e = .returned (.tuple #[.pointer lp', va, .int .i64 x6]) ∧ Half pb rb lp' va D6 w w1) := fun w' h => by
                have := pair_open1 h hdn6
                rw [hy6] at this
                exact this
              have C12 : Hid (∀ lp va w', Half pb rb lp va D6 w w' → Calls Try.prog 12 #[.pointer (some ⟨rb, 0, none⟩)] w' fun e w1 => ∃ mp' vb, e = .returned (.tuple #[.pointer mp', vb, .int .i64 x6]) ∧ Pair pb rb lp mp' D7 w w1 ∧ ∃ R, StrsAt pb va R w1 ∧ StrsAt pb vb R w1 ∧ R.length < 9223372036854775807) := fun lp va w' h => by
                have := pair_open2 h
                rw [hy6] at this
                exact this
              have HP6 : Hid (Pair pb rb none none D6 w wc) := hP6
              clear hP6 hdn6 hy6 H6 HX6 HNN HDN hn0 hn1 y0 y1 y2 y3 y4 HKp HS HB
              go_wp2_with fail
              refine (C11.out _ HP6.out).mono ?_
              rintro e w7 ⟨lp7, va, rfl, h7⟩
              have H7 : Hid (Half pb rb lp7 va D6 w w7) := h7
              clear h7 HP6
              go_wp2_with fail
              refine (C12.out _ _ _ H7.out).mono ?_
              rintro e w8 ⟨mp7, vb, rfl, h8, R, hs1, hs2, hRl⟩
              have H8 : Hid (Pair pb rb lp7 mp7 D7 w w8 ∧ StrsAt pb va R w8 ∧ StrsAt pb vb R w8 ∧ R.length < 9223372036854775807) := ⟨h8, hs1, hs2, hRl⟩
              obtain ⟨aa, ca, rfl, _⟩ := hs1
              obtain ⟨ab, cb, rfl, _⟩ := hs2
              clear h8 H7 hRl C11 C12
              have CS1 : Hid (1 = 1 → Calls Try.prog 13 #[.slice aa R.length ca, .slice ab R.length cb] w8 fun e w' => e = .returned (.bool true) ∧ Below w8.heap.size w8 w') := fun _ => by
                have := same13 pb pb R R _ _ w8 H8.out.2.1 H8.out.2.2.1 H8.out.2.2.2
                simpa using this
              have CS2 : Hid (∀ w7, Below w8.heap.size w8 w7 → Calls Try.prog 14 #[.pointer (some ⟨pb, 0, none⟩), .pointer (some ⟨rb, 0, none⟩)] w7 fun e w' => e = .returned (.bool true) ∧ Below w7.heap.size w7 w') := fun w7 h => same14 pb rb D7 w7 (H8.out.1.on h).drum (H8.out.1.on h).ref H8.out.1.ok
              go_wp2_with (first | (go_at_call 13; refine (CS1.out (by trivial)).mono ?_; rintro e w9 ⟨rfl, hb9⟩; have H9 : Hid (Below w8.heap.size w8 w9) := hb9; clear hb9) | (go_at_call 14; refine (CS2.out _ H9.out).mono ?_; rintro e w10 ⟨rfl, hb10⟩; have H10 : Hid (Pair pb rb lp7 mp7 D7 w w10) := H8.out.1.on (H9.out.trans (hb10.mono H9.out.size)); clear hb10))
              go_roundw
              case rel =>
                exact ⟨k + 1, D7, lp7, mp7, HK1.out.1, by go_num, HK1.out.2, rfl, rfl, H10.out⟩
              case measure => simp [intOf]; omega
            · have hw3' : (what == 3) = false := by simpa using hw3
              clear hw3
              have hw31 : (1 : Int) ≠ 3 := by decide
              go_upto_block 2 with fail
              go_cut [17, 18] (fun e r wc => ∃ x D2, e = .int .i64 x ∧ r = .int .i64 x ∧ Pair pb rb lp mp D2 w wc)
              case first =>
                rcases (by omega : what = 0 ∨ what = 1 ∨ what = 2 ∨ (what ≠ 0 ∧ what ≠ 1 ∧ what ≠ 2)) with rfl | rfl | rfl | ⟨hw0, hw1, hw2⟩
                · rcases HB.out.1.logs with ⟨rfl, rfl⟩ | ⟨lb, qb, a, g, rfl, rfl, hL, hq, hrl, hlq, hal⟩
                  · as_aux_lemma =>
                    have CA : Hid (1 = 1 → Calls Try.prog 18 #[.pointer none, .string (bs text)] wx fun e w1 => e = .returned (.int .i64 11) ∧ wx = w1) := fun _ => append18_nil _ _
                    go_wp2_with fail
                    refine (CA.out (by trivial)).mono ?_
                    rintro e w9 ⟨rfl, rfl⟩
                    go_wp2_with fail
                    go_meet
                    exact ⟨11, D, rfl, rfl, HB.out.1⟩
                  · as_aux_lemma =>
                    have HL : Hid (LbAt lb pb a g wx ∧ RbAt qb rb a g wx ∧ rb < lb ∧ lb < qb ∧ Alone D a) := ⟨hL, hq, hrl, hlq, hal⟩
                    clear hL hq hrl hlq hal
                    have CA : Hid (1 = 1 → Calls Try.prog 18 #[.pointer (some ⟨lb, 0, none⟩), .string (bs text)] wx fun e w1 => e = .returned (.int .i64 (appendF D a text).1) ∧ LgAt lb pb a g (appendF D a text).2 w1 ∧ Drm.Kept pb wx w1) := fun _ => append18 lb pb g a D text wx ⟨HL.out.1, HB.out.1.drum, by have := HB.out.1.lt; have := HL.out.2.2.1; omega⟩ HB.out.1.ok
                    have CB : Hid (∀ w1, Drm.Kept pb wx w1 → Calls Try.prog 19 #[.pointer (some ⟨qb, 0, none⟩), .string (bs text)] w1 fun e w2 => e = .returned (.int .i64 (appendF D a text).1) ∧ RefAt rb (appendF D a text).2 w2 ∧ Drm.Sole rb w1 w2) := fun w1 hk => rapp19 qb rb g a D text w1 ⟨HL.out.2.1.kept hk (by have := HB.out.1.lt; have := HL.out.2.2; omega), HB.out.1.ref.kept hk (by have := HB.out.1.lt; omega), by have := HL.out.2.2; omega⟩ HB.out.1.ok
                    have CP : Hid (∀ w1 w2, LgAt lb pb a g (appendF D a text).2 w1 → Drm.Kept pb wx w1 → RefAt rb (appendF D a text).2 w2 → Drm.Sole rb w1 w2 → Pair pb rb (some ⟨lb, 0, none⟩) (some ⟨qb, 0, none⟩) (appendF D a text).2 w w2) := fun w1 w2 h1 h2 h3 h4 => pair_app HB.out.1 HL.out.2.2.1 HL.out.2.2.2.1 HL.out.2.2.2.2 HL.out.2.1 h1 h2 h3 h4
                    generalize appendF D a text = y at CA CB CP
                    obtain ⟨x, D2⟩ := y
                    dsimp only at CA CB CP
                    go_wp2_with fail
                    refine (CA.out (by trivial)).mono ?_
                    rintro e w9 ⟨rfl, hL9, k9⟩
                    have HX9 : Hid (w9.heap[xb]? = some (.cells #[.int .i64 0, .int .i64 nn, .string (bs text), .slice al list.length cl1, .slice ka keep.length kc] 43 (0, 0))) := box_kept HB.out.2.1 k9 (by have := HB.out.1.lt; have := HB.out.2.2.1; omega)
                    have H9 : Hid (LgAt lb pb a g D2 w9 ∧ Drm.Kept pb wx w9) := ⟨hL9, k9⟩
                    clear hL9 k9 y0 y1 y2 y3 y4
                    obtain ⟨y0, y1, y2, y3, y4⟩ := five_cells HX9.out
                    go_wp2_with fail
                    refine (CB.out _ H9.out.2).mono ?_
                    rintro e w10 ⟨rfl, hR10, s10⟩
                    have H10 : Hid (Pair pb rb (some ⟨lb, 0, none⟩) (some ⟨qb, 0, none⟩) D2 w w10) := CP.out _ _ H9.out.1 H9.out.2 hR10 s10
                    clear hR10 s10
                    go_wp2_with fail
                    go_meet
                    exact ⟨x, D2, rfl, rfl, H10.out⟩
                · rcases HB.out.1.logs with ⟨rfl, rfl⟩ | ⟨lb, qb, a, g, rfl, rfl, hL, hq, hrl, hlq, hal⟩
                  · as_aux_lemma =>
                    have CA : Hid (1 = 1 → Calls Try.prog 20 #[.pointer none, .slice al list.length cl1] wx fun e w1 => e = .returned (.int .i64 11) ∧ wx = w1) := fun _ => renew20_nil _ _
                    go_wp2_with fail
                    refine (CA.out (by trivial)).mono ?_
                    rintro e w9 ⟨rfl, rfl⟩
                    go_wp2_with fail
                    go_meet
                    exact ⟨11, D, rfl, rfl, HB.out.1⟩
                  · as_aux_lemma =>
                    have HL : Hid (LbAt lb pb a g wx ∧ RbAt qb rb a g wx ∧ rb < lb ∧ lb < qb ∧ Alone D a) := ⟨hL, hq, hrl, hlq, hal⟩
                    have HNw : Hid (lb < xb ∧ qb < xb) := ⟨HB.out.2.2.2.1 lb rfl, HB.out.2.2.2.2 qb rfl⟩
                    clear hL hq hrl hlq hal
                    have HLS : Hid (StrsAt pb (.slice al list.length cl1) list wx) := HS.out.1.strs HB.out.1.wp HB.out.1.below
                    have hl50 : list.length ≤ 1000 := by have := HS.out.2; omega
                    have CA : Hid (1 = 1 → Calls Try.prog 20 #[.pointer (some ⟨lb, 0, none⟩), .slice al list.length cl1] wx (RenPost lb pb wx (renewF D a g list))) := fun _ => renew20 lb pb g a D list _ wx ⟨HL.out.1, HB.out.1.drum, by have := HB.out.1.lt; have := HL.out.2.2.1; omega⟩ HB.out.1.ok HLS.out hl50
                    have CB : Hid (∀ w1, Keep2 lb pb wx w1 → Calls Try.prog 21 #[.pointer (some ⟨qb, 0, none⟩), .slice al list.length cl1] w1 (RrPost qb rb w1 (renewF D a g list))) := fun w1 hk => rren21 qb rb pb g a D list _ w1 ⟨HL.out.2.1.keep2 hk (by have := HB.out.1.lt; have := HL.out.2.2; omega) (by have := HL.out.2.2; omega), RefAt.keep2 HB.out.1.ref hk (by have := HB.out.1.lt; omega) (by have := HL.out.2.2; omega), by have := HL.out.2.2; omega⟩ HB.out.1.ok (HLS.out.keep2 HL.out.1 hk) hl50 HL.out.2.2.2.2.spare
                    have CP : Hid (∀ w1 w2, LgAt lb pb (renewF D a g list).2.1.1 (renewF D a g list).2.1.2 (renewF D a g list).2.2 w1 → Keep2 lb pb wx w1 → RgAt qb rb (renewF D a g list).2.1.1 (renewF D a g list).2.1.2 (renewF D a g list).2.2 w2 → Sole2 qb rb w1 w2 → Pair pb rb (some ⟨lb, 0, none⟩) (some ⟨qb, 0, none⟩) (renewF D a g list).2.2 w w2) := fun w1 w2 h1 h2 h3 h4 => pair_ren HB.out.1 HL.out.2.2.1 HL.out.2.2.2.1 HL.out.2.2.2.2 HL.out.2.1 h1 h2 h3 h4
                    generalize renewF D a g list = y at CA CB CP
                    obtain ⟨x, ⟨a2, g2⟩, D2⟩ := y
                    dsimp only at CA CB CP
                    clear hl50
                    go_wp2_with fail
                    refine (CA.out (by trivial)).mono ?_
                    rintro e w9 ⟨rfl, hL9, k9⟩
                    dsimp only at hL9
                    have HX9 : Hid (w9.heap[xb]? = some (.cells #[.int .i64 1, .int .i64 nn, .string (bs text), .slice al list.length cl1, .slice ka keep.length kc] 43 (0, 0))) := box_keep2 HB.out.2.1 k9 (by have := HB.out.1.lt; have := HB.out.2.2.1; omega) (by have := HNw.out; omega)
                    have H9 : Hid (LgAt lb pb a2 g2 D2 w9 ∧ Keep2 lb pb wx w9) := ⟨hL9, k9⟩
                    clear hL9 k9 y0 y1 y2 y3 y4
                    obtain ⟨y0, y1, y2, y3, y4⟩ := five_cells HX9.out
                    go_wp2_with fail
                    refine (CB.out _ H9.out.2).mono ?_
                    rintro e w10 ⟨rfl, hR10, s10⟩
                    have H10 : Hid (Pair pb rb (some ⟨lb, 0, none⟩) (some ⟨qb, 0, none⟩) D2 w w10) := CP.out _ _ H9.out.1 H9.out.2 hR10 s10
                    clear hR10 s10
                    go_wp2_with fail
                    go_meet
                    exact ⟨x, D2, rfl, rfl, H10.out⟩
                · as_aux_lemma =>
                  have hn0 := HKp.out.2.n0
                  have hn1 := HKp.out.2.n1
                  dsimp only at hn0 hn1
                  have CFu : Hid (1 = 1 → Calls Try.prog 17 #[.pointer (some ⟨pb, 0, none⟩), .int .i64 nn] wx fun e w' => e = .returned (.tuple #[]) ∧ DrumAt pb { D with fuel := nn } w' ∧ Drm.Kept pb wx w') := fun _ => Drm.fuel27 pb D nn wx HB.out.1.drum
                  go_wp2_with fail
                  refine (CFu.out (by trivial)).mono ?_
                  rintro e w7 ⟨rfl, hD7, k7⟩
                  have HX7 : Hid (w7.heap[xb]? = some (.cells #[.int .i64 2, .int .i64 nn, .string (bs text), .slice al list.length cl1, .slice ka keep.length kc] 43 (0, 0))) := box_kept HB.out.2.1 k7 (by have := HB.out.1.lt; have := HB.out.2.2.1; omega)
                  have hr7 := HB.out.1.ref.kept k7 (by have := HB.out.1.lt; omega)
                  have zl := hr7.left
                  have zf := hr7.free
                  have H7 : Hid (DrumAt pb { D with fuel := nn } w7 ∧ Drm.Kept pb wx w7) := ⟨hD7, k7⟩
                  clear hD7 k7 hr7 y0 y1 y2 y3 y4
                  obtain ⟨y0, y1, y2, y3, y4⟩ := five_cells HX7.out
                  by_cases hnm : nn < -1
                  all_goals
                    go_wp2_with fail
                    go_meet
                    exact ⟨0, { D with fuel := nn }, rfl, rfl, pair_fuel HB.out.1 hn0 hn1 (by omega) H7.out.1 H7.out.2⟩
                · as_aux_lemma =>
                  have hb0 : (what == 0) = false := by simpa using hw0
                  have hb1 : (what == 1) = false := by simpa using hw1
                  have hb2 : (what == 2) = false := by simpa using hw2
                  clear hw0 hw1 hw2
                  go_wp2_with fail
                  go_meet
                  exact ⟨0, D, rfl, rfl, HB.out.1⟩
              case rest =>
              as_aux_lemma =>
              obtain ⟨x, D2, rfl, rfl, hP2⟩ := hcut
              have HP2 : Hid (Pair pb rb lp mp D2 w wc) := hP2
              clear hP2 HB y0 y1 y2 y3 y4 HS HKp
              have CS : Hid (∀ w', Pair pb rb lp mp D2 w w' → Calls Try.prog 14 #[.pointer (some ⟨pb, 0, none⟩), .pointer (some ⟨rb, 0, none⟩)] w' fun e w1 => e = .returned (.bool true) ∧ Below w'.heap.size w' w1) := fun w' h => same14 pb rb D2 w' h.drum h.ref h.ok
              go_upto_region 40 with fail
              go_cut [202] (fun t wc => t = .bool false ∧ Pair pb rb lp mp D2 w wc)
              case first =>
                rcases HP2.out.logs with ⟨rfl, rfl⟩ | ⟨lb, qb, a, g, rfl, rfl, hL, hq, hrl, hlq, hal⟩
                · as_aux_lemma =>
                  have CG : Hid (∀ w', 1 = 1 → Calls Try.prog 22 #[.pointer none] w' fun e w1 => e = .returned (.int .u64 0) ∧ w' = w1) := fun w' _ => gen22_nil w'
                  have CZ : Hid (∀ w', 1 = 1 → Calls Try.prog 23 #[.pointer none] w' fun e w1 => e = .returned (.int .i64 0) ∧ w' = w1) := fun w' _ => size23_nil w'
                  have cA : Hid (∀ d os, Calls Try.prog 14 #[.pointer (some ⟨pb, 0, none⟩), .pointer (some ⟨rb, 0, none⟩)] (grow (redrawn wc d) os) fun e w'' => e = .returned (.bool true) ∧ ∃ p : Regrown, w'' = grow (redrawn wc p.d) p.os) := fun d os => Calls.regrown_of (CS.out _ (HP2.out.on (below_regrown wc d os)))
                  have cB : Hid (∀ d os, Calls Try.prog 22 #[.pointer none] (grow (redrawn wc d) os) fun e w'' => e = .returned (.int .u64 0) ∧ ∃ p : Regrown, w'' = grow (redrawn wc p.d) p.os) := fun d os => Calls.regrown_of ((CG.out _ (by trivial)).mono fun e w1 h => ⟨h.1, by rw [← h.2]; exact Below.refl _ _⟩)
                  have cC : Hid (∀ d os, Calls Try.prog 23 #[.pointer none] (grow (redrawn wc d) os) fun e w'' => e = .returned (.int .i64 0) ∧ ∃ p : Regrown, w'' = grow (redrawn wc p.d) p.os) := fun d os => Calls.regrown_of ((CZ.out _ (by trivial)).mono fun e w1 h => ⟨h.1, by rw [← h.2]; exact Below.refl _ _⟩)
                  refine wp_region_quiet_below (by kernel_rfl) (by kernel_rfl) (Veil.out ?_)
                  repeat (refine vq_step (fun K hK => ?_); go_simp; refine hK _ ?_; clear hK K)
                  (refine vq_step (fun K hK => ?_); go_simp; apply Exists.intro; refine ⟨fun _ => ?_, hK _ ?_⟩; exact cA.out _ _; clear hK K)
                  repeat (refine vq_step (fun K hK => ?_); go_simp; refine hK _ ?_; clear hK K)
                  (refine vq_step (fun K hK => ?_); go_simp; apply Exists.intro; refine ⟨fun _ => ?_, hK _ ?_⟩; exact cB.out _ _; clear hK K)
                  repeat (refine vq_step (fun K hK => ?_); go_simp; refine hK _ ?_; clear hK K)
                  (refine vq_step (fun K hK => ?_); go_simp; apply Exists.intro; refine ⟨fun _ => ?_, hK _ ?_⟩; exact cC.out _ _; clear hK K)
                  repeat (refine vq_step (fun K hK => ?_); go_simp; refine hK _ ?_; clear hK K)
                  refine vq_nil ?_
                  intro _ hw'
                  obtain ⟨⟨dq, osq⟩, hw''⟩ := hw'
                  subst hw''
                  have HZ : Hid (Pair pb rb none none D2 w (grow (redrawn wc dq) osq)) := HP2.out.on (below_regrown wc dq osq)
                  go_wp2_with fail
                  go_meet
                  exact ⟨by trivial, HZ.out⟩
                · as_aux_lemma =>
                  have HG : Hid (Pair pb rb (some ⟨lb, 0, none⟩) (some ⟨qb, 0, none⟩) D2 w wc ∧ LbAt lb pb a g wc ∧ RbAt qb rb a g wc) := ⟨HP2.out, hL, hq⟩
                  clear hL hq hrl hlq hal
                  have CG : Hid (∀ w', LbAt lb pb a g w' → Calls Try.prog 22 #[.pointer (some ⟨lb, 0, none⟩)] w' fun e w1 => e = .returned (.int .u64 g) ∧ w' = w1) := fun w' h => gen22 lb pb g a w' h
                  have k0 := cell_regrown HG.out.2.2.cells.2.2.1
                  have cA : Hid (∀ d os, Calls Try.prog 14 #[.pointer (some ⟨pb, 0, none⟩), .pointer (some ⟨rb, 0, none⟩)] (grow (redrawn wc d) os) fun e w'' => e = .returned (.bool true) ∧ ∃ p : Regrown, w'' = grow (redrawn wc p.d) p.os) := fun d os => Calls.regrown_of (CS.out _ (HP2.out.on (below_regrown wc d os)))
                  have cB : Hid (∀ d os, Calls Try.prog 22 #[.pointer (some ⟨lb, 0, none⟩)] (grow (redrawn wc d) os) fun e w'' => e = .returned (.int .u64 g) ∧ ∃ p : Regrown, w'' = grow (redrawn wc p.d) p.os) := fun d os => Calls.regrown_of ((CG.out _ (HG.out.2.1.on (below_regrown wc d os))).mono fun e w1 h => ⟨h.1, by rw [← h.2]; exact Below.refl _ _⟩)
                  refine wp_region_quiet_below (by kernel_rfl) (by kernel_rfl) (Veil.out ?_)
                  repeat (refine vq_step (fun K hK => ?_); go_simp; refine hK _ ?_; clear hK K)
                  (refine vq_step (fun K hK => ?_); go_simp; apply Exists.intro; refine ⟨fun _ => ?_, hK _ ?_⟩; exact cA.out _ _; clear hK K)
                  repeat (refine vq_step (fun K hK => ?_); go_simp; refine hK _ ?_; clear hK K)
                  (refine vq_step (fun K hK => ?_); go_simp; apply Exists.intro; refine ⟨fun _ => ?_, hK _ ?_⟩; exact cB.out _ _; clear hK K)
                  repeat (refine vq_step (fun K hK => ?_); go_simp; refine hK _ ?_; clear hK K)
                  refine vq_nil ?_
                  intro _ hw'
                  obtain ⟨⟨dq, osq⟩, hw''⟩ := hw'
                  subst hw''
                  have HZ : Hid (Pair pb rb (some ⟨lb, 0, none⟩) (some ⟨qb, 0, none⟩) D2 w (grow (redrawn wc dq) osq)) := HP2.out.on (below_regrown wc dq osq)
                  go_wp2_with fail
                  go_meet
                  exact ⟨by trivial, HZ.out⟩
              case rest =>
              obtain ⟨rfl, hP3⟩ := hcut
              have HP3 : Hid (Pair pb rb lp mp D2 w wc) := hP3
              clear hP3 HP2 CS
              go_wp2_with fail
              go_roundw
              case rel =>
                exact ⟨k + 1, D2, lp, mp, HK1.out.1, by go_num, HK1.out.2, rfl, rfl, HP3.out⟩
              case measure => simp [intOf]; omega
        · have hd : decide ((k : Int) < acts.length) = false := by simp; omega
          go_wp2_with fail
          exact HQ.out _ HP.out.below
  · go_enter Try.func3, Try.ntmps3
    go_wp2_with fail
    refine (HAw.out _ (by trivial)).mono ?_
    rintro e w1 ⟨rfl, hb1⟩
    have H1 : Hid (Below w.heap.size w w1) := hb1
    clear hb1
    go_wp2_with fail
    refine (Drm.new8_no room _ hroom).mono ?_
    rintro e w2 ⟨rfl, rfl⟩
    go_wp2_with fail
    refine (Drm.rnew9_no room _ hroom).mono ?_
    rintro e w2 ⟨rfl, rfl⟩
    go_wp2_with fail
    exact HQ.out _ H1.out

end Go.Proofs.Ytjjdmeemhgopbaa
