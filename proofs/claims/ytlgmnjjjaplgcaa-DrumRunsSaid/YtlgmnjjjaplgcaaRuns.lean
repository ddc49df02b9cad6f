/-
  DrumRuns's walk.
-/
import Derived.Test.YtlgmnjjjaplgcaaRefFall
import Derived.Deep.DeepCutAuto
import Derived.Deep.CutBlock
import Derived.Deep.RegionHeld3
namespace Go.Proofs.Ytlgmnjjjaplgcaa
open Go.RowKit

/-- Both drums, and the box of an act. -/
structure RuBox (pb rb xb : Nat) (c : Ac) (D D' : Dr) (w W : World) : Prop where
  drum : DrumAt pb D W
  ref : RefAt rb D' W
  box : W.heap[xb]? = some (.cells #[.int .i64 c.what, .int .i64 c.area, .int .i64 c.n, .string (bs c.text), c.kv] 39 (0, 0))
  bel : Below w.heap.size w W

theorem RuBox.start {pb rb : Nat} {c : Ac} {D : Dr} {w wr : World} (hD : DrumAt pb D wr) (hR : RefAt rb D wr) (hb : Below w.heap.size w wr) :
    RuBox pb rb wr.heap.size c D D w (wr.alloc (.cells #[.int .i64 c.what, .int .i64 c.area, .int .i64 c.n, .string (bs c.text), c.kv] 39)) :=
  ⟨hD.alloc _, hR.on ((Below.refl _ _).alloc (Nat.le_refl _) _), heap_alloc_new wr _, hb.alloc hb.size _⟩

theorem RuBox.on {pb rb xb : Nat} {c : Ac} {D D' : Dr} {w W W2 : World} (h : RuBox pb rb xb c D D' w W) (hb : Below W.heap.size W W2) : RuBox pb rb xb c D D' w W2 :=
  ⟨h.drum.on hb, h.ref.on hb, by rw [hb.block xb (lt_of_block h.box), h.box], h.bel.trans (hb.mono h.bel.size)⟩

/-- The document's drum is turned. -/
theorem RuBox.sole {pb rb xb : Nat} {c : Ac} {D D1 D2 : Dr} {w W W2 : World} (h : RuBox pb rb xb c D D1 w W) (hpr : pb < rb) (hrx : rb < xb) (hp : w.heap.size ≤ pb) (hR : RefAt rb D2 W2) (hs : Sole rb W W2) : RuBox pb rb xb c D D2 w W2 :=
  ⟨h.drum.sole h.ref hs (by omega), hR, by rw [hs.block xb (lt_of_block h.box) (by omega), h.box], h.bel.trans (hs.below (by omega) h.bel.size)⟩

/-- The program's drum is turned. -/
theorem RuBox.kept {pb rb xb : Nat} {c : Ac} {D D1 D2 : Dr} {w W W2 : World} (h : RuBox pb rb xb c D D1 w W) (hpr : pb < rb) (hrx : rb < xb) (hp : w.heap.size ≤ pb) (hD : DrumAt pb D2 W2) (hk : Kept pb W W2) : RuBox pb rb xb c D2 D1 w W2 :=
  ⟨hD, h.ref.kept hk (by omega), hk.other xb _ h.box (by omega) (by intro cs fz e; injection e with _ e _; exact absurd e (by decide)), h.bel.trans (hk.below.mono hp)⟩

/-- What the checks read beside the drum: the document's drum, and the box. -/
structure RuRest (rb xb : Nat) (what area n : Int) (text : List UInt8) (kv : Value) (D : Dr) (w W : World) : Prop where
  ref : RefAt rb D W
  box : W.heap[xb]? = some (.cells #[.int .i64 what, .int .i64 area, .int .i64 n, .string (bs text), kv] 39 (0, 0))
  bel : Below w.heap.size w W

theorem RuRest.on {rb xb : Nat} {what area n : Int} {text : List UInt8} {kv : Value} {D : Dr} {w W W2 : World} (h : RuRest rb xb what area n text kv D w W) (hb : Below W.heap.size W W2) : RuRest rb xb what area n text kv D w W2 :=
  ⟨h.ref.on hb, by rw [hb.block xb (lt_of_block h.box), h.box], h.bel.trans (hb.mono h.bel.size)⟩
theorem RuRest.kept {pb rb xb : Nat} {what area n : Int} {text : List UInt8} {kv : Value} {D : Dr} {w W W2 : World} (h : RuRest rb xb what area n text kv D w W) (hpr : pb < rb) (hrx : rb < xb) (hp : w.heap.size ≤ pb) (hk : Kept pb W W2) : RuRest rb xb what area n text kv D w W2 :=
  ⟨h.ref.kept hk (by omega), hk.other xb _ h.box (by omega) (by intro cs fz e; injection e with _ e _; exact absurd e (by decide)), h.bel.trans (hk.below.mono hp)⟩
theorem RuRest.s {rb xb : Nat} {what area n : Int} {text : List UInt8} {kv : Value} {D : Dr} {w W : World} (h : RuRest rb xb what area n text kv D w W) :
    W.cell? ⟨xb, 0, none⟩ = some (.int .i64 what) ∧ W.cell? ⟨xb, 1, none⟩ = some (.int .i64 area) ∧ W.cell? ⟨xb, 2, none⟩ = some (.int .i64 n) ∧ W.cell? ⟨xb, 3, none⟩ = some (.string (bs text)) ∧ W.cell? ⟨xb, 4, none⟩ = some kv ∧ W.cell? ⟨rb, 2, none⟩ = some (.bool D.down) ∧ Hid (RuRest rb xb what area n text kv D w W) := by
  obtain ⟨h0, h1, h2, h3, h4⟩ := five_cells h.box
  exact ⟨h0, h1, h2, h3, h4, h.ref.down, h⟩

set_option maxHeartbeats 2000000 in
set_option maxRecDepth 100000 in
theorem runs3 (room : Int) (acts : List Ac) (ao : Option Addr) (b off cap : Nat) (w : World)
    (hao : 0 < acts.length → ao = some ⟨b, off, none⟩) (hcell : ∀ i, i < acts.length → AcAt w b off i (acts.getD i dflt) ∧ (acts.getD i dflt).ok) (htx : ∀ i, i < acts.length → (acts.getD i dflt).text.length ≤ 140737488355328) (hN : acts.length < 9223372036854775807) :
    Calls Try.prog 3 #[.int .i64 room, .slice ao acts.length cap] w fun e w' => e = .returned (.bool true) ∧ Below w.heap.size w w' := by
  have HC : Hid (∀ i, 1 = 1 → i < acts.length → AcAt w b off i (acts.getD i dflt) ∧ (acts.getD i dflt).ok ∧ (acts.getD i dflt).text.length ≤ 140737488355328) := fun i _ h => ⟨(hcell i h).1, (hcell i h).2, htx i h⟩
  have HA : Hid (1 = 1 → 0 < acts.length → ao = some ⟨b, off, none⟩) := fun _ => hao
  clear hcell hao htx
  by_cases hg : 0 ≤ room ∧ room ≤ 1048576
  · obtain ⟨hg0, hg1⟩ := hg
    go_enter Try.func3, Try.ntmps3
    go_wp2_with fail
    refine (awake7 _).mono ?_
    rintro e w1 ⟨rfl, k1⟩
    have K1 : Hid (Below w.heap.size w w1) := k1
    clear k1
    go_wp2_with fail
    refine (new8 room _ hg0 hg1).mono ?_
    rintro e w2 ⟨rfl, h2, k2⟩
    obtain ⟨pb, hpb⟩ : ∃ pb, pb = w1.heap.size := ⟨_, rfl⟩
    rw [← hpb] at h2 k2 ⊢
    have HP : Hid (w.heap.size ≤ pb) := by
      have := K1.out.size
      show _ ≤ _
      omega
    have H2 : Hid (DrumAt pb (Dr.new room) w2 ∧ Below w.heap.size w w2) := ⟨h2, K1.out.trans (k2.mono (by rw [hpb]; exact K1.out.size))⟩
    clear hpb h2 k2 K1
    go_wp2_with fail
    refine (rnew9 room _ hg0 hg1).mono ?_
    rintro e w3 ⟨rfl, h3, k3⟩
    obtain ⟨rb, hrb⟩ : ∃ rb, rb = w2.heap.size := ⟨_, rfl⟩
    have HPR : Hid (pb < rb) := by
      have := H2.out.1.lt
      show _ < _
      omega
    rw [← hrb] at h3 ⊢
    have H3 : Hid (DrumAt pb (Dr.new room) w3 ∧ RefAt rb (Dr.new room) w3 ∧ Below w.heap.size w w3) := ⟨H2.out.1.on k3, h3, H2.out.2.trans (k3.mono H2.out.2.size)⟩
    clear hrb h3 k3 H2
    go_wp2_with fail
    go_loopw [80] (fun i wr => ∃ (k : Nat) (D : Dr), k ≤ acts.length ∧ i = .int .i64 k ∧ DrumAt pb D wr ∧ RefAt rb D wr ∧ D.Ok ∧ Below w.heap.size w wr) (fun i _ => acts.length - (intOf i).toNat)
    case atStart => exact ⟨0, Dr.new room, Nat.zero_le _, rfl, H3.out.1, H3.out.2.1, Dr.Ok.new room hg0 hg1, H3.out.2.2⟩
    case round =>
      obtain ⟨k, D, hk, rfl, hD, hR, hOk, hbel⟩ := hrel
      have HW : Hid (DrumAt pb D wr ∧ RefAt rb D wr ∧ D.Ok ∧ Below w.heap.size w wr) := ⟨hD, hR, hOk, hbel⟩
      clear hD hR hOk hbel H3
      by_cases hkl : k < acts.length
      · obtain ⟨hat, hok, htx⟩ := HC.out k (by trivial) hkl
        obtain ⟨x, hx⟩ : ∃ x, x = acts.getD k dflt := ⟨_, rfl⟩
        rw [← hx] at hat hok htx
        clear hx
        obtain rfl : ao = some ⟨b, off, none⟩ := HA.out (by trivial) (by omega)
        obtain ⟨y0, y1, y2, y3, y4⟩ := hat.on HW.out.2.2.2
        have HX : Hid (ArgKeep w x.kv x.keep ∧ x.ok ∧ x.text.length ≤ 140737488355328) := ⟨hat.keep, hok, htx⟩
        clear hat hok htx
        obtain ⟨what, area, n, text, keep, kv⟩ := x
        dsimp only at y0 y1 y2 y3 y4
        obtain ⟨ka, kc, hkv, _⟩ := id HX.out.1
        dsimp only at hkv
        subst hkv
        obtain ⟨bk, hbk⟩ : ∃ bk : Bool, ((k : Int) == 150) = bk := ⟨_, rfl⟩
        cases bk
        · go_upto_region 15 with fail
          have HB : Hid (RuBox pb rb wr.heap.size ⟨what, area, n, text, keep, .slice ka keep.length kc⟩ D D w (wr.alloc (.cells #[.int .i64 what, .int .i64 area, .int .i64 n, .string (bs text), .slice ka keep.length kc] 39))) := RuBox.start (c := ⟨what, area, n, text, keep, .slice ka keep.length kc⟩) HW.out.1 HW.out.2.1 HW.out.2.2.2
          have hrx : rb < wr.heap.size := HW.out.2.1.lt
          generalize wr.alloc (.cells #[.int .i64 what, .int .i64 area, .int .i64 n, .string (bs text), .slice ka keep.length kc] 39) = W at HB ⊢
          obtain ⟨xb, hxb⟩ : ∃ xb, xb = wr.heap.size := ⟨_, rfl⟩
          rw [← hxb] at HB hrx ⊢
          clear hxb y0 y1 y2 y3 y4
          obtain ⟨z0, z1, z2, z3, z4⟩ := five_cells HB.out.box
          dsimp only at z0 z1 z2 z3 z4
          go_upto_block 2 with fail
          go_cut [13] (fun er wc => er = .int .i64 (D.act ⟨what, area, n, text, keep, .slice ka keep.length kc⟩).1 ∧ RuBox pb rb xb ⟨what, area, n, text, keep, .slice ka keep.length kc⟩ D (D.act ⟨what, area, n, text, keep, .slice ka keep.length kc⟩).2 w wc)
          case first =>
            by_cases h0 : what = 0
            · have HAct : Hid (D.act ⟨what, area, n, text, keep, .slice ka keep.length kc⟩ = D.lay area) := by
                show _ = _
                simp [Dr.act, h0]
              have hb0 : (what == 0) = true := by simp; omega
              clear h0
              go_wp2_with (go_at_call 16; refine (rlay16 rb D area _ HB.out.ref HW.out.2.2.1).mono ?_; rintro e W2 ⟨rfl, hr2, hs2⟩; have H2 : Hid _ := And.intro hr2 hs2; clear hr2 hs2)
              go_meet
              exact ⟨by rw [HAct.out], HB.out.sole HPR.out hrx HP.out (by rw [HAct.out]; exact H2.out.1) H2.out.2⟩
            by_cases h1 : what = 1
            · have HAct : Hid (D.act ⟨what, area, n, text, keep, .slice ka keep.length kc⟩ = D.cut area) := by
                show _ = _
                simp [Dr.act, h1]
              have hb0 : (what == 0) = false := by simp; omega
              have hb1 : (what == 1) = true := by simp; omega
              clear h0 h1
              go_wp2_with (go_at_call 17; refine (rcut17 rb D area _ HB.out.ref HW.out.2.2.1).mono ?_; rintro e W2 ⟨rfl, hr2, hs2⟩; have H2 : Hid _ := And.intro hr2 hs2; clear hr2 hs2)
              go_meet
              exact ⟨by rw [HAct.out], HB.out.sole HPR.out hrx HP.out (by rw [HAct.out]; exact H2.out.1) H2.out.2⟩
            by_cases h2 : what = 2
            · have HAct : Hid (D.act ⟨what, area, n, text, keep, .slice ka keep.length kc⟩ = D.trim area n) := by
                show _ = _
                simp [Dr.act, h2]
              have hb0 : (what == 0) = false := by simp; omega
              have hb1 : (what == 1) = false := by simp; omega
              have hb2 : (what == 2) = true := by simp; omega
              clear h0 h1 h2
              go_wp2_with (go_at_call 18; refine (rtrim18 rb D area n _ HB.out.ref HW.out.2.2.1).mono ?_; rintro e W2 ⟨rfl, hr2, hs2⟩; have H2 : Hid _ := And.intro hr2 hs2; clear hr2 hs2)
              go_meet
              exact ⟨by rw [HAct.out], HB.out.sole HPR.out hrx HP.out (by rw [HAct.out]; exact H2.out.1) H2.out.2⟩
            by_cases h3 : what = 3
            · have HAct : Hid (D.act ⟨what, area, n, text, keep, .slice ka keep.length kc⟩ = D.write area text) := by
                show _ = _
                simp [Dr.act, h3]
              have hb0 : (what == 0) = false := by simp; omega
              have hb1 : (what == 1) = false := by simp; omega
              have hb2 : (what == 2) = false := by simp; omega
              have hb3 : (what == 3) = true := by simp; omega
              clear h0 h1 h2 h3
              go_wp2_with (go_at_call 19; refine (rwrite19 rb D area text _ HB.out.ref HW.out.2.2.1 HX.out.2.2).mono ?_; rintro e W2 ⟨rfl, hr2, hs2⟩; have H2 : Hid _ := And.intro hr2 hs2; clear hr2 hs2)
              go_meet
              exact ⟨by rw [HAct.out], HB.out.sole HPR.out hrx HP.out (by rw [HAct.out]; exact H2.out.1) H2.out.2⟩
            by_cases h4 : what = 4
            · have HAct : Hid (D.act ⟨what, area, n, text, keep, .slice ka keep.length kc⟩ = D.sync area) := by
                show _ = _
                simp [Dr.act, h4]
              have hb0 : (what == 0) = false := by simp; omega
              have hb1 : (what == 1) = false := by simp; omega
              have hb2 : (what == 2) = false := by simp; omega
              have hb3 : (what == 3) = false := by simp; omega
              have hb4 : (what == 4) = true := by simp; omega
              clear h0 h1 h2 h3 h4
              go_wp2_with (go_at_call 20; refine (rsync20 rb D area _ HB.out.ref HW.out.2.2.1).mono ?_; rintro e W2 ⟨rfl, hr2, hs2⟩; have H2 : Hid _ := And.intro hr2 hs2; clear hr2 hs2)
              go_meet
              exact ⟨by rw [HAct.out], HB.out.sole HPR.out hrx HP.out (by rw [HAct.out]; exact H2.out.1) H2.out.2⟩
            by_cases h5 : what = 5
            · have HAct : Hid (D.act ⟨what, area, n, text, keep, .slice ka keep.length kc⟩ = (0, { D with fuel := n })) := by
                show _ = _
                simp [Dr.act, h5]
              have hb0 : (what == 0) = false := by simp; omega
              have hb1 : (what == 1) = false := by simp; omega
              have hb2 : (what == 2) = false := by simp; omega
              have hb3 : (what == 3) = false := by simp; omega
              have hb4 : (what == 4) = false := by simp; omega
              have hb5 : (what == 5) = true := by simp; omega
              clear h0 h1 h2 h3 h4 h5
              have zl := HB.out.ref.left
              have zf := HB.out.ref.free
              by_cases hn1 : n < -1
              · have HM : Hid (max n (-1) = -1) := (by omega : max n (-1) = -1)
                go_wp2
                go_meet
                have hR := HB.out.ref.set_left n
                rw [HM.out] at hR
                exact ⟨by rw [HAct.out], HB.out.sole HPR.out hrx HP.out (by rw [HAct.out]; exact hR) ((Sole.refl _ _).set _ _)⟩
              · have HM : Hid (max n (-1) = n) := (by omega : max n (-1) = n)
                go_wp2
                go_meet
                have hR := HB.out.ref.set_left n
                rw [HM.out] at hR
                exact ⟨by rw [HAct.out], HB.out.sole HPR.out hrx HP.out (by rw [HAct.out]; exact hR) ((Sole.refl _ _).set _ _)⟩
            by_cases h6 : what = 6
            · have HAct : Hid (D.act ⟨what, area, n, text, keep, .slice ka keep.length kc⟩ = (0, D.fall keep)) := by
                show _ = _
                simp [Dr.act, h6]
              have hb0 : (what == 0) = false := by simp; omega
              have hb1 : (what == 1) = false := by simp; omega
              have hb2 : (what == 2) = false := by simp; omega
              have hb3 : (what == 3) = false := by simp; omega
              have hb4 : (what == 4) = false := by simp; omega
              have hb5 : (what == 5) = false := by simp; omega
              have hb6 : (what == 6) = true := by simp; omega
              clear h0 h1 h2 h3 h4 h5 h6
              go_wp2_with (go_at_call 21; refine (rfall21 rb D _ keep _ HB.out.ref HW.out.2.2.1 (HX.out.1.at HB.out.bel (by have := HP.out; have := HPR.out; omega)) HX.out.2.1.keep0 HX.out.2.1.keep1).mono ?_; rintro e W2 ⟨rfl, hr2, hs2⟩; have H2 : Hid _ := And.intro hr2 hs2; clear hr2 hs2)
              go_meet
              exact ⟨by rw [HAct.out], HB.out.sole HPR.out hrx HP.out (by rw [HAct.out]; exact H2.out.1) H2.out.2⟩
            have HAct : Hid (D.act ⟨what, area, n, text, keep, .slice ka keep.length kc⟩ = (0, D)) := by
              show _ = _
              simp [Dr.act, h0, h1, h2, h3, h4, h5, h6]
            have hb0 : (what == 0) = false := by simp [h0]
            have hb1 : (what == 1) = false := by simp [h1]
            have hb2 : (what == 2) = false := by simp [h2]
            have hb3 : (what == 3) = false := by simp [h3]
            have hb4 : (what == 4) = false := by simp [h4]
            have hb5 : (what == 5) = false := by simp [h5]
            have hb6 : (what == 6) = false := by simp [h6]
            clear h0 h1 h2 h3 h4 h5 h6
            go_wp2
            go_meet
            exact ⟨by rw [HAct.out], by rw [HAct.out]; exact HB.out⟩
          case rest =>
            obtain ⟨rfl, hbx⟩ := hcut
            have HDo : Hid (1 = 1 → ∀ W1, DrumAt pb D W1 → KeepAt pb (.slice ka keep.length kc) keep W1 → Calls Try.prog 22 #[.pointer (some ⟨pb, 0, none⟩), .agg #[.int .i64 what, .int .i64 area, .int .i64 n, .string (bs text), .slice ka keep.length kc]] W1 fun e w' => e = .returned (.int .i64 (D.act ⟨what, area, n, text, keep, .slice ka keep.length kc⟩).1) ∧ DrumAt pb (D.act ⟨what, area, n, text, keep, .slice ka keep.length kc⟩).2 w' ∧ Kept pb W1 w') := fun _ W1 h1 h2 => do22 pb D ⟨what, area, n, text, keep, .slice ka keep.length kc⟩ W1 h1 HW.out.2.2.1 HX.out.2.1 h2
            have HO : Hid ((D.act ⟨what, area, n, text, keep, .slice ka keep.length kc⟩).2.Ok) := HW.out.2.2.1.act HX.out.2.1
            have HB2 : Hid (RuBox pb rb xb ⟨what, area, n, text, keep, .slice ka keep.length kc⟩ D (D.act ⟨what, area, n, text, keep, .slice ka keep.length kc⟩).2 w wc) := hbx
            clear hbx HB z0 z1 z2 z3 z4
            generalize D.act ⟨what, area, n, text, keep, .slice ka keep.length kc⟩ = r at *
            obtain ⟨r1, D2⟩ := r
            dsimp only at HDo HO HB2 ⊢
            obtain ⟨z0, z1, z2, z3, z4⟩ := five_cells HB2.out.box
            dsimp only at z0 z1 z2 z3 z4
            go_upto_region 30 with fail
            have hu2 : D2.used ≤ 1048576 := by have := HO.out.fits; have := HO.out.room1; omega
            go_cut [157] (fun t wc => t = .bool false ∧ DrumAt pb D2 wc ∧ RefAt rb D2 wc ∧ Below w.heap.size w wc)
            case first =>
              have HR2 : Hid (RuRest rb xb what area n text (.slice ka keep.length kc) D2 w wc) := ⟨HB2.out.ref, HB2.out.box, HB2.out.bel⟩
              clear z0 z1 z2 z3 z4
              go_region_held3 (fun w' => w'.cell? ⟨xb, 0, none⟩ = some (.int .i64 what) ∧ w'.cell? ⟨xb, 1, none⟩ = some (.int .i64 area) ∧ w'.cell? ⟨xb, 2, none⟩ = some (.int .i64 n) ∧ w'.cell? ⟨xb, 3, none⟩ = some (.string (bs text)) ∧ w'.cell? ⟨xb, 4, none⟩ = some (.slice ka keep.length kc) ∧ w'.cell? ⟨rb, 2, none⟩ = some (.bool D2.down) ∧ Hid (RuRest rb xb what area n text (.slice ka keep.length kc) D2 w w'))
                (first | exact (HR2.out.on (Below.refl _ _).drew).s | exact HR3.out.s | exact (HR3.out.on (below_drewN (Below.refl _ _) _)).s)
                (first
                | (go_at_call 22; refine (HDo.out (by trivial) _ (HB2.out.on (Below.refl _ _).drew).drum (HX.out.1.at (HB2.out.on (Below.refl _ _).drew).bel HP.out)).mono ?_; rintro e W1 ⟨rfl, h1, k1⟩; have HD3 : Hid (DrumAt pb D2 W1) := h1; have HR3 : Hid (RuRest rb xb what area n text (.slice ka keep.length kc) D2 w W1) := (HR2.out.on (Below.refl _ _).drew).kept HPR.out hrx HP.out k1; clear h1 k1)
                | (go_at_call 14; refine (used14 pb D2 _ HD3.out hu2).mono ?_; rintro e W3 ⟨rfl, rfl⟩)
                | (go_at_call 23; refine (rused23 rb D2 _ HR3.out.ref HO.out).mono ?_; rintro e W4 ⟨rfl, mq, rfl⟩; have HD4 : Hid (1 = 1 → Calls Try.prog 13 #[.pointer (some ⟨pb, 0, none⟩)] (W1.drewN mq) fun e w' => e = .returned (.bool D2.down) ∧ W1.drewN mq = w') := fun _ => down13d pb D2 _ (HD3.out.on (below_drewN (Below.refl _ _) mq)))
                | (go_at_call 13; refine (HD4.out (by trivial)).mono ?_; rintro e W5 ⟨rfl, rfl⟩))
              go_wp2_with fail
              go_meet
              exact ⟨rfl, HD3.out.on (below_drewN (Below.refl _ _) _), HR3.out.ref.on (below_drewN (Below.refl _ _) _), below_drewN HR3.out.bel _⟩
            case rest =>
              obtain ⟨rfl, hD2, hR2, hbel2⟩ := hcut
              have HZ : Hid (DrumAt pb D2 wc ∧ RefAt rb D2 wc ∧ Below w.heap.size w wc) := ⟨hD2, hR2, hbel2⟩
              clear hD2 hR2 hbel2 HB2 z0 z1 z2 z3 z4 HDo
              go_wp2_with fail
              go_loopw [14] (fun v wi => ∃ j : Int, -1 ≤ j ∧ j ≤ 5 ∧ v = .int .i64 j ∧ DrumAt pb D2 wi ∧ RefAt rb D2 wi ∧ Below w.heap.size w wi) (fun v _ => (5 - intOf v).toNat)
              case atStart => exact ⟨-1, by omega, by omega, rfl, HZ.out.1, HZ.out.2.1, HZ.out.2.2⟩
              case round =>
                obtain ⟨j, hj0, hj1, rfl, hD3, hR3, hbel3⟩ := hrel
                have HY : Hid (DrumAt pb D2 wr ∧ RefAt rb D2 wr ∧ Below w.heap.size w wr) := ⟨hD3, hR3, hbel3⟩
                clear hD3 hR3 hbel3 HZ
                by_cases hlt : j ≤ 4
                · have H10 : Hid (1 = 1 → Calls Try.prog 10 #[.pointer (some ⟨pb, 0, none⟩), .int .i64 j] wr fun e w' => e = .returned (.tuple #[.string (bs (D2.read j).1), .int .i64 (D2.read j).2]) ∧ wr = w') := fun _ => read10 pb D2 j wr HY.out.1
                  have H24 : Hid (1 = 1 → Calls Try.prog 24 #[.pointer (some ⟨rb, 0, none⟩), .int .i64 j] wr fun e w' => e = .returned (.tuple #[.string (bs (D2.read j).1), .int .i64 (D2.read j).2]) ∧ Below wr.heap.size wr w') := fun _ => rread24 rb D2 j wr HY.out.2.1 HO.out
                  have H15 : Hid (1 = 1 → ∀ wi, Below wr.heap.size wr wi → Calls Try.prog 15 #[.pointer (some ⟨pb, 0, none⟩), .int .i64 j] wi fun e w' => e = .returned (.bool (D2.has j)) ∧ wi = w') := fun _ wi hb => has15 pb D2 j wi (HY.out.1.on hb)
                  have H25 : Hid (1 = 1 → ∀ wi, Below wr.heap.size wr wi → Calls Try.prog 25 #[.pointer (some ⟨rb, 0, none⟩), .int .i64 j] wi fun e w' => e = .returned (.bool (D2.has j)) ∧ wi = w') := fun _ wi hb => rhas25 rb D2 j wi (HY.out.2.1.on hb)
                  generalize D2.read j = rd at H10 H24
                  generalize D2.has j = hj at H15 H25
                  obtain ⟨rl, re⟩ := rd
                  dsimp only at H10 H24
                  go_wp2_with fail
                  refine (H10.out (by trivial)).mono ?_
                  rintro e wq ⟨rfl, rfl⟩
                  go_wp2_with fail
                  refine (H24.out (by trivial)).mono ?_
                  rintro e wi ⟨rfl, hbi⟩
                  have HI : Hid (Below wr.heap.size wr wi) := hbi
                  clear hbi
                  go_wp2_with fail
                  refine (H15.out (by trivial) _ HI.out).mono ?_
                  rintro e wq ⟨rfl, rfl⟩
                  go_wp2_with fail
                  refine (H25.out (by trivial) _ HI.out).mono ?_
                  rintro e wq ⟨rfl, rfl⟩
                  go_wp2
                  go_roundw
                  case rel => exact ⟨j + 1, by omega, by omega, by go_num, HY.out.1.on HI.out, HY.out.2.1.on HI.out, HY.out.2.2.trans (HI.out.mono HY.out.2.2.size)⟩
                  case measure => simp [intOf]; omega
                · go_wp2
                  go_roundw
                  case rel => exact ⟨k + 1, D2, by omega, by go_num, HY.out.1, HY.out.2.1, HO.out, HY.out.2.2⟩
                  case measure => simp [intOf]; omega
        · go_wp2
          go_ret
          exact ⟨rfl, HW.out.2.2.2.alloc HW.out.2.2.2.size _⟩
      · go_wp2
        go_ret
        exact ⟨rfl, HW.out.2.2.2⟩
  · have hs0 : ((bs []).toList == []) = true := by decide +kernel
    go_enter Try.func3, Try.ntmps3
    go_wp2_with fail
    refine (awake7 _).mono ?_
    rintro e w1 ⟨rfl, k1⟩
    have K1 : Hid (Below w.heap.size w w1) := k1
    clear k1
    go_wp2_with fail
    refine (new8_no room _ hg).mono ?_
    rintro e w2 ⟨rfl, rfl⟩
    go_wp2_with fail
    refine (rnew9_no room _ hg).mono ?_
    rintro e w2 ⟨rfl, rfl⟩
    go_wp2_with fail
    refine (read10_nil 0 _).mono ?_
    rintro e w2 ⟨rfl, rfl⟩
    go_wp2_with fail
    refine (lay11_nil 0 _).mono ?_
    rintro e w2 ⟨rfl, rfl⟩
    go_wp2_with fail
    refine (write12_nil 0 _ _).mono ?_
    rintro e w2 ⟨rfl, k2⟩
    have K2 : Hid (Below w.heap.size w w2) := K1.out.trans (k2.mono K1.out.size)
    clear k2
    go_wp2_with fail
    refine (down13_nil _).mono ?_
    rintro e w3 ⟨rfl, rfl⟩
    go_wp2_with fail
    refine (used14_nil _).mono ?_
    rintro e w3 ⟨rfl, rfl⟩
    go_wp2_with fail
    refine (has15_nil 0 _).mono ?_
    rintro e w3 ⟨rfl, rfl⟩
    go_wp2
    go_ret
    exact ⟨rfl, K2.out⟩

end Go.Proofs.Ytlgmnjjjaplgcaa
