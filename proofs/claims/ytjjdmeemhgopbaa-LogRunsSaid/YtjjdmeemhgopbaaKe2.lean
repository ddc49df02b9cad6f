/-
  What an append and a renewal leave, whenever the fuel ends.
-/
import Derived.Test.YtjjdmeemhgopbaaKe
import Derived.Test.YtjjdmeemhgopbaaRenew
namespace Go.Proofs.Ytjjdmeemhgopbaa
open Drm (Dr Pt)

theorem fall_down (D : Dr) (b : Bool) (keep : List Int) : ({ D with down := b } : Dr).fall keep = D.fall keep := rfl

/-- A log that is sure, alone, on a drum that may be down. -/
theorem holds_opens {D : Dr} {a g G : Nat} {R : List (List UInt8)} (h : Holds D a g R) (hO : D.Ok) (hG : g ≤ G) (keep : List Int) : Opens (D.fall keep) R G :=
  fall_opens hO keep h.lt h.there h.log h.sure hG fun i hi hia ht => by rw [h.alone i hi hia] at ht; exact absurd ht (by decide)

theorem holds_at {D : Dr} {a g : Nat} {R : List (List UInt8)} (h : Holds D a g R) (hO : D.Ok) (keep : List Int) : OpensAt (D.fall keep) a g R :=
  fall_at hO keep h.lt h.there h.log h.sure fun i hi hia ht => by rw [h.alone i hi hia] at ht; exact absurd ht (by decide)

theorem append_keeps {D : Dr} {a g G : Nat} {R : List (List UInt8)} {r : List UInt8} (h : Holds D a g R) (hd : D.down = false) (hO : D.Ok) (hG : g ≤ G) :
    ((appendF D a r).1 = 0 ∧ r.length ≤ 16000 ∧ Holds (appendF D a r).2 a g (R ++ [r]) ∧ (appendF D a r).2.down = false ∧ (appendF D a r).2.room = D.room ∧ (D.fuel < 0 → (appendF D a r).2.fuel = D.fuel) ∧ ((appendF D a r).2.p a).l = (D.p a).l ++ frameOf (82 :: r)) ∨
    (((appendF D a r).1 = 3 ∧ 16000 < r.length ∨ (appendF D a r).1 = 10 ∧ r.length ≤ 16000 ∧ D.room - D.used < (frameOf (82 :: r)).length) ∧ (appendF D a r).2 = D) ∨
    ((appendF D a r).1 = 11 ∧ 0 ≤ D.fuel ∧ (appendF D a r).2.down = true ∧ ∀ keep, Opens ((appendF D a r).2.fall keep) R G ∨ Opens ((appendF D a r).2.fall keep) (R ++ [r]) G) := by
  have hOy := appendF_ok hO a r
  by_cases hr : 16000 < r.length
  · right; left
    unfold appendF
    rw [if_pos hr]
    exact ⟨.inl ⟨rfl, hr⟩, rfl⟩
  · have hr' : r.length ≤ 16000 := by omega
    have e : appendF D a r = putF D a (frameOf (82 :: r)) := by unfold appendF; rw [if_neg hr]
    rw [e] at hOy ⊢
    unfold putF at hOy ⊢
    rw [write_goes hd h.lt h.there] at hOy ⊢
    by_cases hf : D.room - D.used < (frameOf (82 :: r)).length
    · right; left
      rw [if_pos hf, if_pos (by simp)]
      exact ⟨.inr ⟨rfl, hr', hf⟩, rfl⟩
    · rw [if_neg hf] at hOy ⊢
      by_cases h0 : D.fuel = 0
      · right; right
        rw [if_pos h0, if_pos (by simp)]
        exact ⟨rfl, by omega, rfl, fun keep => .inl (holds_opens h hO hG keep)⟩
      · rw [if_neg h0] at hOy ⊢
        dsimp only at hOy ⊢
        rw [if_neg (by decide)] at hOy ⊢
        have hd1 : (D.burn.set a { D.p a with l := (D.p a).l ++ frameOf (82 :: r) }).down = false := hd
        have ht1 : ((D.burn.set a { D.p a with l := (D.p a).l ++ frameOf (82 :: r) }).p a).there = true := by rw [Drm.Dr.set_same]; exact h.there
        rw [sync_goes hd1 h.lt ht1] at hOy ⊢
        have hl2 : IsLog ((D.p a).l ++ frameOf (82 :: r)) g (R ++ [r]) := h.log.more r hr'
        by_cases h1 : (D.burn.set a { D.p a with l := (D.p a).l ++ frameOf (82 :: r) }).fuel = 0
        · right; right
          rw [if_pos h1] at hOy ⊢
          refine ⟨rfl, ?_, rfl, fun keep => ?_⟩
          · by_cases hn : D.fuel < 0
            · rw [set_fuel, burn_neg hn] at h1; omega
            · omega
          · dsimp only
            rw [fall_down]
            have hO1 : (D.burn.set a { D.p a with l := (D.p a).l ++ frameOf (82 :: r) }).Ok := ⟨hOy.room0, hOy.room1, hOy.fits, hOy.sure, hOy.gone, hOy.fuel0, hOy.fuel1⟩
            obtain ⟨n, hn, hb1, hb2⟩ : ∃ n, n = (D.burn.set a { D.p a with l := (D.p a).l ++ frameOf (82 :: r) }).left keep a ∧ (D.p a).l.length ≤ n ∧ n ≤ ((D.p a).l ++ frameOf (82 :: r)).length := by
              have := Drm.Dr.left_bound hO1 keep a
              rw [Drm.Dr.set_same] at this
              dsimp only at this
              exact ⟨_, rfl, Nat.le_trans (Nat.le_of_eq h.sure.symm) this.1, this.2⟩
            have hp : ((D.burn.set a { D.p a with l := (D.p a).l ++ frameOf (82 :: r) }).fall keep).p a = (⟨(D.p a).there, (D.p a).l ++ frameOf (82 :: r), (D.p a).sure⟩ : Pt).settle n := by
              rw [fall_p, ← hn, Drm.Dr.set_same]
            have hoth : ∀ i, i < 4 → i ≠ a → (((D.burn.set a { D.p a with l := (D.p a).l ++ frameOf (82 :: r) }).fall keep).p i).there = true → ∀ x, lgOf (((D.burn.set a { D.p a with l := (D.p a).l ++ frameOf (82 :: r) }).fall keep).p i).l = some x → x.1 < g := by
              intro i hi hia ht
              rw [fall_p, Drm.Dr.set_other _ _ _ _ hia] at ht
              rw [show ((D.burn.p i).settle _).there = (D.p i).there from rfl, h.alone i hi hia] at ht
              exact absurd ht (by decide)
            have hs := fall_sure (D.burn.set a { D.p a with l := (D.p a).l ++ frameOf (82 :: r) }) keep a
            have htk : ((D.p a).l ++ frameOf (82 :: r)).take n = (D.p a).l ++ (frameOf (82 :: r)).take (n - (D.p a).l.length) := by
              rw [List.take_append, List.take_of_length_le hb1]
            by_cases hfull : n = ((D.p a).l ++ frameOf (82 :: r)).length
            · right
              refine open_cand (a := a) (g := g) (fin := n) ⟨h.lt, ?_, ?_, ?_, ?_, hs, hoth⟩ rfl (by show (-1 : Int) < 0; decide) hG
              · rw [hp]; exact h.there
              · rw [hp]
                show lgOf (((D.p a).l ++ frameOf (82 :: r)).take n) = _
                rw [hfull, List.take_length, hl2.lg]
              · rw [hp]
                show IsLog ((((D.p a).l ++ frameOf (82 :: r)).take n).take n) g (R ++ [r])
                rw [hfull, List.take_length, List.take_length]
                exact hl2
              · rw [hp]
                show n ≤ (((D.p a).l ++ frameOf (82 :: r)).take n).length
                rw [List.length_take]
                omega
            · left
              have hc : n - (D.p a).l.length < (frameOf (82 :: r)).length := by rw [List.length_append] at hb2 hfull; omega
              refine open_cand (a := a) (g := g) (fin := (D.p a).l.length) ⟨h.lt, ?_, ?_, ?_, ?_, hs, hoth⟩ rfl (by show (-1 : Int) < 0; decide) hG
              · rw [hp]; exact h.there
              · rw [hp]
                show lgOf (((D.p a).l ++ frameOf (82 :: r)).take n) = _
                rw [htk]
                exact h.log.tail (torn r _ hr' hc)
              · rw [hp]
                show IsLog ((((D.p a).l ++ frameOf (82 :: r)).take n).take (D.p a).l.length) g R
                rw [htk, List.take_left]
                exact h.log
              · rw [hp]
                show (D.p a).l.length ≤ (((D.p a).l ++ frameOf (82 :: r)).take n).length
                rw [List.length_take]
                omega
        · left
          rw [if_neg h1]
          dsimp only
          refine ⟨rfl, hr', ⟨h.lt, ?_, ?_, ?_, fun i hi hia => ?_⟩, hd, rfl, fun hn => ?_, ?_⟩
          · rw [Drm.Dr.set_same]; exact ht1
          · rw [Drm.Dr.set_same, Drm.Dr.set_same]
            show IsLog (((D.p a).l ++ frameOf (82 :: r)).take _) g (R ++ [r])
            rw [List.take_length]
            exact hl2
          · rw [Drm.Dr.set_same, Drm.Dr.set_same]
            show min _ _ = (List.take _ _).length
            rw [List.length_take]
          · rw [Drm.Dr.set_other _ _ _ _ hia, burn_p, Drm.Dr.set_other _ _ _ _ hia, burn_p]
            exact h.alone i hi hia
          · have e1 : (D.burn.set a { D.p a with l := (D.p a).l ++ frameOf (82 :: r) }).fuel = D.fuel := by rw [set_fuel, burn_neg hn]
            rw [set_fuel, burn_neg (by rw [e1]; exact hn), e1]
          · rw [Drm.Dr.set_same, Drm.Dr.set_same]
            show ((D.p a).l ++ frameOf (82 :: r)).take _ = _
            rw [List.take_length]

theorem spare_other {D : Dr} {a g : Nat} {R : List (List UInt8)} (h : Holds D a g R) : spareF D < 4 ∧ spareF D ≠ a ∧ (D.p (spareF D)).there = false := by
  have ha := h.lt
  have ho := h.alone
  by_cases h0 : a = 0
  · subst h0
    have e : spareF D = 1 := by unfold spareF; rw [if_neg (by rw [h.there]; decide), if_pos (ho 1 (by omega) (by omega))]
    rw [e]
    exact ⟨by omega, by omega, ho 1 (by omega) (by omega)⟩
  · have e : spareF D = 0 := by unfold spareF; rw [if_pos (ho 0 (by omega) (by omega))]
    rw [e]
    exact ⟨by omega, by omega, ho 0 (by omega) (by omega)⟩

/-- What a renewal leaves: done; refused; down. -/
def RenKeeps (D : Dr) (a g : Nat) (R L : List (List UInt8)) (G : Nat) (y : Int × (Int × Nat) × Dr) : Prop :=
    (y.1 = 0 ∧ Fit L ∧ ∃ s : Nat, y.2.1 = ((s : Int), g + 1) ∧ Holds y.2.2 s (g + 1) L ∧ y.2.2.down = false ∧ y.2.2.room = D.room ∧ (D.fuel < 0 → y.2.2.fuel = D.fuel) ∧ (y.2.2.p s).l = headOf (g + 1) L) ∨
    ((y.1 = 3 ∧ ¬ Fit L ∨ y.1 = 10 ∧ Fit L ∧ D.room - D.used < (headOf (g + 1) L).length) ∧ y.2.1 = ((a : Int), g) ∧
      (Holds y.2.2 a g R ∧ y.2.2.down = false ∧ y.2.2.room = D.room ∧ (D.fuel < 0 → y.2.2.fuel = D.fuel) ∧ (y.2.2.p a).l = (D.p a).l ∨ 0 ≤ D.fuel ∧ y.2.2.down = true ∧ ∀ keep, Opens (y.2.2.fall keep) R G)) ∨
    (y.1 = 11 ∧ 0 ≤ D.fuel ∧ y.2.2.down = true ∧ ∀ keep, Opens (y.2.2.fall keep) R G ∨ Opens (y.2.2.fall keep) L G)

theorem Ok_of_down {D : Dr} {b : Bool} (h : ({ D with down := b } : Dr).Ok) : D.Ok := ⟨h.room0, h.room1, h.fits, h.sure, h.gone, h.fuel0, h.fuel1⟩

theorem fuel_burn {D : Dr} {n : Nat} {q : Pt} (h : (D.burn.set n q).fuel = 0) : 0 ≤ D.fuel := by
  by_cases hn : D.fuel < 0
  · rw [set_fuel, burn_neg hn] at h; omega
  · omega

theorem renew_keeps {D : Dr} {a g G : Nat} {R L : List (List UInt8)} (h : Holds D a g R) (hd : D.down = false) (hO : D.Ok) (hg : g + 1 < 18446744073709551616) (hG : g + 1 ≤ G) : RenKeeps D a g R L G (renewF D a g L) := by
  obtain ⟨hs4, hsa, hst⟩ := spare_other h
  have hgs : gsucc g = g + 1 := Nat.mod_eq_of_lt hg
  unfold renewF RenKeeps
  rw [hgs]
  by_cases hfit : fitB L = false
  · right; left
    rw [if_pos hfit]
    refine ⟨.inl ⟨rfl, fun hf => ?_⟩, rfl, .inl ⟨h, hd, rfl, fun _ => rfl, rfl⟩⟩
    rw [(fit_iff L).2 hf] at hfit
    exact absurd hfit (by decide)
  · have hF : Fit L := (fit_iff L).1 (by cases hb : fitB L with | true => rfl | false => exact absurd hb hfit)
    rw [if_neg hfit, if_neg (by rw [hd]; decide), if_neg (by omega)]
    generalize spareF D = s at *
    have hsl : (D.p s).l = [] := hO.gone s hst
    have hss : (D.p s).sure = 0 := by have := hO.sure s; rw [hsl] at this; simpa using this
    have hkeepR : ∀ keep, Opens (D.fall keep) R G := holds_opens h hO (by omega)
    by_cases h0 : D.fuel = 0
    · right; right
      have hl : layF D s (g + 1) L = (11, { D with down := true }) := by
        unfold layF
        rw [lay_goes hd hs4 hst, if_pos h0]
        simp
      rw [hl, if_pos (by simp)]
      refine ⟨rfl, by omega, ?_, fun keep => .inl ?_⟩
      · show ((({ D with down := true } : Dr).cut s).2).down = true
        unfold Drm.Dr.cut
        rw [step_down rfl]
      · show Opens ((({ D with down := true } : Dr).cut s).2.fall keep) R G
        unfold Drm.Dr.cut
        rw [step_down rfl]
        exact hkeepR keep
    · obtain ⟨D1, hD1⟩ : ∃ D1, D1 = D.burn.set s { D.p s with there := true } := ⟨_, rfl⟩
      have hl1 : layF D s (g + 1) L = putF D1 s (headOf (g + 1) L) := by
        unfold layF
        rw [lay_goes hd hs4 hst, if_neg h0, ← hD1]
        simp
      have hd1 : D1.down = false := by rw [hD1]; exact hd
      have hp1 : D1.p s = ⟨true, [], 0⟩ := by
        rw [hD1, Drm.Dr.set_same]
        show (⟨true, (D.p s).l, (D.p s).sure⟩ : Pt) = _
        rw [hsl, hss]
      have hq1 : ∀ i, i ≠ s → D1.p i = D.p i := fun i hi => by rw [hD1, Drm.Dr.set_other _ _ _ _ hi, burn_p]
      have hr1 : D1.room = D.room := by rw [hD1]; rfl
      have hf1 : D.fuel < 0 → D1.fuel = D.fuel := fun hn => by rw [hD1, set_fuel, burn_neg hn]
      have hO1 : D1.Ok := by
        have := hO.lay s
        rw [lay_goes hd hs4 hst, if_neg h0, ← hD1] at this
        exact this
      have hu1 : D1.used = D.used := by
        have := Drm.Dr.used_set D.burn s { D.p s with there := true } hs4
        rw [← hD1] at this
        have e2 : D.burn.used = D.used := rfl
        have e3 : (D.burn.p s).l = [] := hsl
        rw [e2, e3] at this
        simp only [hsl, List.length_nil, Nat.add_zero] at this
        exact this
      have hz : D1.fuel = 0 → 0 ≤ D.fuel := fun h => by rw [hD1] at h; exact fuel_burn h
      clear hD1
      have hR1 : ∀ keep, Opens (D1.fall keep) R G := fun keep => fall_opens hO1 keep h.lt (by rw [hq1 a (Ne.symm hsa)]; exact h.there) (by rw [hq1 a (Ne.symm hsa)]; exact h.log) (by rw [hq1 a (Ne.symm hsa)]; exact h.sure) (by omega) fun i hi hia ht x hx => by
        by_cases his : i = s
        · subst his
          rw [hp1] at hx
          dsimp only at hx
          rw [List.take_nil] at hx
          exact absurd hx (by rw [show lgOf [] = none from rfl]; simp)
        · rw [hq1 i his, h.alone i hi hia] at ht
          exact absurd ht (by decide)
      have hwr := write_goes hd1 hs4 (by rw [hp1]) (headOf (g + 1) L)
      rw [hr1, hu1] at hwr
      by_cases hfull : D.room - D.used < (headOf (g + 1) L).length
      · right; left
        have hl : layF D s (g + 1) L = (10, D1) := by
          rw [hl1]
          unfold putF
          rw [hwr, if_pos hfull]
          simp
        rw [hl, if_pos (by simp)]
        refine ⟨.inr ⟨rfl, hF, hfull⟩, rfl, ?_⟩
        dsimp only
        rw [cut_goes hd1 hs4 (by rw [hp1])]
        by_cases h1 : D1.fuel = 0
        · right
          rw [if_pos h1]
          exact ⟨hz h1, rfl, hR1⟩
        · left
          rw [if_neg h1]
          dsimp only
          refine ⟨⟨h.lt, ?_, ?_, ?_, fun i hi hia => ?_⟩, hd1, hr1, fun hn => ?_, ?_⟩
          · rw [Drm.Dr.set_other _ _ _ _ (Ne.symm hsa), burn_p, hq1 a (Ne.symm hsa)]; exact h.there
          · rw [Drm.Dr.set_other _ _ _ _ (Ne.symm hsa), burn_p, hq1 a (Ne.symm hsa)]; exact h.log
          · rw [Drm.Dr.set_other _ _ _ _ (Ne.symm hsa), burn_p, hq1 a (Ne.symm hsa)]; exact h.sure
          · by_cases his : i = s
            · subst his; rw [Drm.Dr.set_same]; rfl
            · rw [Drm.Dr.set_other _ _ _ _ his, burn_p, hq1 i his]; exact h.alone i hi hia
          · rw [set_fuel, burn_neg (by rw [hf1 hn]; exact hn), hf1 hn]
          · rw [Drm.Dr.set_other _ _ _ _ (Ne.symm hsa), burn_p, hq1 a (Ne.symm hsa)]
      · rw [if_neg hfull] at hwr
        by_cases h1 : D1.fuel = 0
        · right; right
          have hl : layF D s (g + 1) L = (11, { D1 with down := true }) := by
            rw [hl1]
            unfold putF
            rw [hwr, if_pos h1]
            simp [hr1]
          rw [hl, if_pos (by simp)]
          refine ⟨rfl, hz h1, ?_, fun keep => .inl ?_⟩
          · show ((({ D1 with down := true } : Dr).cut s).2).down = true
            unfold Drm.Dr.cut
            rw [step_down rfl]
          · show Opens ((({ D1 with down := true } : Dr).cut s).2.fall keep) R G
            unfold Drm.Dr.cut
            rw [step_down rfl]
            exact hR1 keep
        · obtain ⟨D2, hD2⟩ : ∃ D2, D2 = D1.burn.set s { D1.p s with l := (D1.p s).l ++ headOf (g + 1) L } := ⟨_, rfl⟩
          rw [if_neg h1, ← hD2] at hwr
          have hl2 : layF D s (g + 1) L = D2.sync s := by
            rw [hl1]
            unfold putF
            rw [hwr]
            simp
          have hd2 : D2.down = false := by rw [hD2]; exact hd1
          have hp2 : D2.p s = ⟨true, headOf (g + 1) L, 0⟩ := by
            rw [hD2, Drm.Dr.set_same, hp1]
            rfl
          have hq2 : ∀ i, i ≠ s → D2.p i = D.p i := fun i hi => by rw [hD2, Drm.Dr.set_other _ _ _ _ hi, burn_p, hq1 i hi]
          have hr2 : D2.room = D.room := by rw [hD2]; exact hr1
          have hf2 : D.fuel < 0 → D2.fuel = D.fuel := fun hn => by rw [hD2, set_fuel, burn_neg (by rw [hf1 hn]; exact hn), hf1 hn]
          have hO2 : D2.Ok := by
            have := hO1.write s (headOf (g + 1) L)
            rw [write_goes hd1 hs4 (by rw [hp1]), hr1, hu1, if_neg hfull, if_neg h1, ← hD2] at this
            exact this
          have hz2 : D2.fuel = 0 → 0 ≤ D.fuel := fun h => by
            rw [hD2] at h
            by_cases hn : D.fuel < 0
            · have := fuel_burn h; rw [hf1 hn] at this; exact this
            · omega
          clear hD2
          rw [sync_goes hd2 hs4 (by rw [hp2])] at hl2
          by_cases h2 : D2.fuel = 0
          · right; right
            rw [if_pos h2] at hl2
            rw [hl2, if_pos (by simp)]
            refine ⟨rfl, hz2 h2, ?_, fun keep => ?_⟩
            · show ((({ D2 with down := true } : Dr).cut s).2).down = true
              unfold Drm.Dr.cut
              rw [step_down rfl]
            · have hce : (({ D2 with down := true } : Dr).cut s).2.fall keep = D2.fall keep := by
                unfold Drm.Dr.cut
                rw [step_down rfl]
                rfl
              show Opens ((({ D2 with down := true } : Dr).cut s).2.fall keep) R G ∨ Opens ((({ D2 with down := true } : Dr).cut s).2.fall keep) L G
              rw [hce]
              have hb := (Drm.Dr.left_bound hO2 keep s).2
              rw [hp2] at hb
              by_cases hk : D2.left keep s = (headOf (g + 1) L).length
              · right
                have hpf : (D2.fall keep).p s = ⟨true, headOf (g + 1) L, (headOf (g + 1) L).length⟩ := by
                  rw [fall_p, hp2, hk]
                  show (⟨true, (headOf (g + 1) L).take _, min _ _⟩ : Pt) = _
                  rw [List.take_length, Nat.min_self]
                refine open_cand (a := s) (g := g + 1) (fin := (headOf (g + 1) L).length) ⟨hs4, by rw [hpf], ?_, ?_, by rw [hpf]; exact Nat.le_refl _, by rw [hpf], fun i hi his ht x hx => ?_⟩ rfl (by show (-1 : Int) < 0; decide) hG
                · rw [hpf]; exact (IsLog.head (g + 1) L hg hF).lg
                · rw [hpf]
                  dsimp only
                  rw [List.take_length]
                  exact IsLog.head (g + 1) L hg hF
                · by_cases hia : i = a
                  · subst hia
                    have e := fall_all hO2 keep i (by rw [hq2 i his]; exact h.sure)
                    rw [e, hq2 i his, h.log.lg] at hx
                    injection hx with hx
                    rw [← hx]
                    show g < g + 1
                    omega
                  · rw [fall_p] at ht
                    rw [show ((D2.p i).settle _).there = (D2.p i).there from rfl, hq2 i his, h.alone i hi hia] at ht
                    exact absurd ht (by decide)
              · left
                refine fall_opens hO2 keep h.lt (by rw [hq2 a (Ne.symm hsa)]; exact h.there) (by rw [hq2 a (Ne.symm hsa)]; exact h.log) (by rw [hq2 a (Ne.symm hsa)]; exact h.sure) (by omega) fun i hi hia ht x hx => ?_
                by_cases his : i = s
                · subst his
                  rw [hp2] at hx
                  dsimp only at hx
                  rw [lg_cut (g + 1) L _ hg hF (by dsimp only at hb; omega)] at hx
                  exact absurd hx (by simp)
                · rw [hq2 i his, h.alone i hi hia] at ht
                  exact absurd ht (by decide)
          · obtain ⟨D3, hD3⟩ : ∃ D3, D3 = D2.burn.set s ((D2.p s).settle (D2.p s).l.length) := ⟨_, rfl⟩
            rw [if_neg h2, ← hD3] at hl2
            rw [hl2, if_neg (by simp)]
            have hd3 : D3.down = false := by rw [hD3]; exact hd2
            have hp3 : D3.p s = ⟨true, headOf (g + 1) L, (headOf (g + 1) L).length⟩ := by
              rw [hD3, Drm.Dr.set_same, hp2]
              show (⟨true, (headOf (g + 1) L).take _, min _ _⟩ : Pt) = _
              rw [List.take_length, Nat.min_self]
            have hq3 : ∀ i, i ≠ s → D3.p i = D.p i := fun i hi => by rw [hD3, Drm.Dr.set_other _ _ _ _ hi, burn_p, hq2 i hi]
            have hr3 : D3.room = D.room := by rw [hD3]; exact hr2
            have hf3 : D.fuel < 0 → D3.fuel = D.fuel := fun hn => by rw [hD3, set_fuel, burn_neg (by rw [hf2 hn]; exact hn), hf2 hn]
            have hO3 : D3.Ok := by
              have := hO2.sync s
              rw [sync_goes hd2 hs4 (by rw [hp2]), if_neg h2, ← hD3] at this
              exact this
            have hz3 : D3.fuel = 0 → 0 ≤ D.fuel := fun h => by
              rw [hD3] at h
              by_cases hn : D.fuel < 0
              · have := fuel_burn h; rw [hf2 hn] at this; exact this
              · omega
            clear hD3
            have hct := cut_goes hd3 h.lt (by rw [hq3 a (Ne.symm hsa)]; exact h.there)
            dsimp only
            by_cases h3 : D3.fuel = 0
            · right; right
              rw [if_pos h3] at hct
              rw [hct]
              refine ⟨rfl, hz3 h3, rfl, fun keep => .inr ?_⟩
              dsimp only
              rw [fall_down]
              refine fall_opens hO3 keep hs4 (by rw [hp3]) (by rw [hp3]; exact IsLog.head (g + 1) L hg hF) (by rw [hp3]) hG fun i hi his ht x hx => ?_
              by_cases hia : i = a
              · subst hia
                have e := fall_all hO3 keep i (by rw [hq3 i his]; exact h.sure)
                rw [fall_p] at e
                rw [show (D3.p i).l.take (D3.left keep i) = ((D3.p i).settle (D3.left keep i)).l from rfl, e, hq3 i his, h.log.lg] at hx
                injection hx with hx
                rw [← hx]
                show g < g + 1
                omega
              · rw [hq3 i his, h.alone i hi hia] at ht
                exact absurd ht (by decide)
            · left
              rw [if_neg h3] at hct
              rw [hct]
              dsimp only
              refine ⟨rfl, hF, s, rfl, ⟨hs4, ?_, ?_, ?_, fun i hi his => ?_⟩, hd3, hr3, fun hn => ?_, ?_⟩
              · rw [Drm.Dr.set_other _ _ _ _ hsa, burn_p, hp3]
              · rw [Drm.Dr.set_other _ _ _ _ hsa, burn_p, hp3]; exact IsLog.head (g + 1) L hg hF
              · rw [Drm.Dr.set_other _ _ _ _ hsa, burn_p, hp3]
              · by_cases hia : i = a
                · subst hia; rw [Drm.Dr.set_same]; rfl
                · rw [Drm.Dr.set_other _ _ _ _ hia, burn_p, hq3 i his]; exact h.alone i hi hia
              · rw [set_fuel, burn_neg (by rw [hf3 hn]; exact hn), hf3 hn]
              · rw [Drm.Dr.set_other _ _ _ _ hsa, burn_p, hp3]

end Go.Proofs.Ytjjdmeemhgopbaa
