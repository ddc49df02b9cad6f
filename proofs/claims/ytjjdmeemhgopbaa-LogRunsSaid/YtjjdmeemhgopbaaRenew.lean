/-
  Contract of the log's Renew.
-/
import Derived.Test.YtjjdmeemhgopbaaCalls
namespace Go.Proofs.Ytjjdmeemhgopbaa
open Go.RowKit Go.Sort
open Drm (Dr Pt DrumAt DrumIn)

theorem LbAt.set1 {lb pb g : Nat} {a : Int} {w : World} (h : LbAt lb pb a g w) (s : Int) : LbAt lb pb s g (w.setCell ⟨lb, 1, none⟩ (.int .i64 s)) := Drm.blk_setCell h
theorem LbAt.set2 {lb pb g : Nat} {a : Int} {w : World} (h : LbAt lb pb a g w) (s : Nat) : LbAt lb pb a s (w.setCell ⟨lb, 2, none⟩ (.int .u64 s)) := Drm.blk_setCell h

theorem renewF_ok {D : Dr} (h : D.Ok) (a : Int) (g : Nat) (L : List (List UInt8)) : (renewF D a g L).2.2.Ok := by
  unfold renewF
  split
  · exact h
  split
  · exact h
  split
  · exact h
  split
  · exact (layF_ok h _ _ _).cut _
  · exact (layF_ok h _ _ _).cut _

theorem not_fit {L : List (List UInt8)} {k : Nat} (hk : k < L.length) (h : 16000 < (L.getD k []).length) : fitB L = false := by
  cases hf : fitB L with
  | false => rfl
  | true =>
    have := (fit_iff L).1 hf (L.getD k []) (by simp [List.getD, List.getElem?_eq_getElem hk])
    omega
theorem is_fit {L : List (List UInt8)} (h : ∀ i, i < L.length → (L.getD i []).length ≤ 16000) : Fit L := by
  intro r hr
  obtain ⟨i, hi, rfl⟩ := List.getElem_of_mem hr
  have := h i hi
  simpa [List.getD, List.getElem?_eq_getElem hi] using this

set_option maxHeartbeats 400000 in
theorem renew20_nil (v : Value) (w : World) : Calls Try.prog 20 #[.pointer none, v] w fun e w' => e = .returned (.int .i64 11) ∧ w = w' := by
  go_enter Try.func20, Try.ntmps20
  go_wp2
  go_ret
  exact ⟨rfl, rfl⟩

/-- What Renew leaves. -/
def RenPost (lb pb : Nat) (w : World) (y : Int × (Int × Nat) × Dr) (e : Ending) (w' : World) : Prop :=
  e = .returned (.int .i64 y.1) ∧ LgAt lb pb y.2.1.1 y.2.1.2 y.2.2 w' ∧ Keep2 lb pb w w'

set_option maxHeartbeats 1600000 in
theorem renew20 (lb pb g : Nat) (a : Int) (D : Dr) (L : List (List UInt8)) (v : Value) (w : World) (h : LgAt lb pb a g D w) (hOk : D.Ok) (hv : StrsAt pb v L w) (hn : L.length ≤ 1000) :
    Calls Try.prog 20 #[.pointer (some ⟨lb, 0, none⟩), v] w (RenPost lb pb w (renewF D a g L)) := by
  obtain ⟨y, hy⟩ : ∃ y, renewF D a g L = y := ⟨_, rfl⟩
  rw [hy]
  have HY : Hid _ := hy
  obtain ⟨c0, c1, c2, cf⟩ := h.blk.cells
  have H : Hid (LgAt lb pb a g D w ∧ D.Ok ∧ StrsAt pb v L w) := ⟨h, hOk, hv⟩
  obtain ⟨ao, cap, rfl, hvx⟩ := hv
  have HV : Hid _ := hvx
  clear h hOk hy hvx
  have HQ : Hid (∀ e w', RenPost lb pb w y e w' → RenPost lb pb w y e w') := fun _ _ h => h
  generalize hQ : RenPost lb pb w y = Q at *
  have HQE : Hid _ := hQ
  clear hQ
  go_enter Try.func20, Try.ntmps20
  go_wp2_with fail
  go_loop [15] (fun i => ∃ k : Nat, k ≤ L.length ∧ i = .int .i64 k ∧ ∀ j, j < k → (L.getD j []).length ≤ 16000) (fun i => L.length - (intOf i).toNat)
  case atStart => exact ⟨0, by omega, rfl, fun j hj => absurd hj (by omega)⟩
  case round =>
    obtain ⟨k, hk, rfl, hall⟩ := hrel
    have HA : Hid (∀ j, j < k → (L.getD j []).length ≤ 16000) := hall
    clear hall
    by_cases hlt : k < L.length
    · obtain ⟨b, o, rfl, hne, hc, hor⟩ := HV.out (by omega)
      have hck := hc k hlt
      have hsz : (bs (L.getD k [])).size = (L.getD k []).length := bs_size _
      have hnf := fun h => not_fit (L := L) hlt h
      have hle : (L.getD k []).length ≤ 16000 → ∀ j, j < k + 1 → (L.getD j []).length ≤ 16000 := fun h j hj => by
        by_cases hjk : j = k
        · subst hjk; exact h
        · exact HA.out j (by omega)
      clear hc hor
      have HNF : Hid _ := And.intro hnf hle
      clear hnf hle
      generalize L.getD k [] = r at *
      by_cases hr : 16000 < r.length
      · have hr' : (16000 : Int) < r.length := by omega
        have hf := HNF.out.1 hr
        have HY2 : Hid (y = (3, (a, g), D)) := by
          show _ = _
          rw [← HY.out]
          unfold renewF
          rw [if_pos hf]
        clear hf
        go_wp2_with fail
        rw [← HQE.out, HY2.out]
        exact ⟨rfl, H.out.1, Keep2.refl _ _ _⟩
      · have hr' : ¬ (16000 : Int) < r.length := by omega
        have HLE : Hid _ := HNF.out.2 (by omega)
        go_wp2_with fail
        go_round
        case rel => exact ⟨k + 1, by omega, by go_num, HLE.out⟩
        case measure => simp [intOf]; omega
    · have hfit : Fit L := is_fit fun i hi => HA.out i (by omega)
      have hfb : fitB L = true := (fit_iff L).2 hfit
      have HF : Hid (Fit L ∧ fitB L = true) := ⟨hfit, hfb⟩
      clear hfit hfb
      have hS := spare44 pb D w H.out.1.drum
      by_cases hdn : D.down = true
      · have HY2 : Hid (y = (11, (a, g), D)) := by
          show _ = _
          rw [← HY.out]
          unfold renewF
          rw [if_neg (by rw [HF.out.2]; decide), if_pos hdn]
        have hsv : spareV D = .tuple #[.int .i64 (-1), .int .i64 11] := by unfold spareV; rw [if_pos hdn]
        rw [hsv] at hS
        have HS : Hid (1 = 1 → Calls Try.prog 44 #[.pointer (some ⟨pb, 0, none⟩)] w fun e w' => e = .returned (.tuple #[.int .i64 (-1), .int .i64 11]) ∧ w = w') := fun _ => hS
        clear hS hsv hdn
        go_wp2_with (go_at_call 44; refine (HS.out (by trivial)).mono ?_; rintro e w1 ⟨rfl, rfl⟩)
        rw [← HQE.out, HY2.out]
        exact ⟨rfl, H.out.1, Keep2.refl _ _ _⟩
      · by_cases hs4 : spareF D = 4
        · have HY2 : Hid (y = (10, (a, g), D)) := by
            show _ = _
            rw [← HY.out]
            unfold renewF
            rw [if_neg (by rw [HF.out.2]; decide), if_neg hdn, if_pos hs4]
          have hsv : spareV D = .tuple #[.int .i64 (-1), .int .i64 10] := by unfold spareV; rw [if_neg hdn, if_pos hs4]
          rw [hsv] at hS
          have HS : Hid (1 = 1 → Calls Try.prog 44 #[.pointer (some ⟨pb, 0, none⟩)] w fun e w' => e = .returned (.tuple #[.int .i64 (-1), .int .i64 10]) ∧ w = w') := fun _ => hS
          clear hS hsv hdn hs4
          go_wp2_with (go_at_call 44; refine (HS.out (by trivial)).mono ?_; rintro e w1 ⟨rfl, rfl⟩)
          rw [← HQE.out, HY2.out]
          exact ⟨rfl, H.out.1, Keep2.refl _ _ _⟩
        · obtain ⟨x, D1, hx⟩ : ∃ x D1, layF D (spareF D) (gsucc g) L = (x, D1) := ⟨_, _, rfl⟩
          have hok1 : D1.Ok := by have := layF_ok H.out.2.1 (spareF D) (gsucc g) L; rw [hx] at this; exact this
          have hyy : y = if x ≠ 0 then (x, (a, g), (D1.cut (spareF D)).2) else ((D1.cut a).1, ((spareF D : Int), gsucc g), (D1.cut a).2) := by
            rw [← HY.out]
            unfold renewF
            rw [if_neg (by rw [HF.out.2]; decide), if_neg hdn, if_neg hs4, hx]
          have hsv : spareV D = .tuple #[.int .i64 (spareF D), .int .i64 0] := by unfold spareV; rw [if_neg hdn, if_neg hs4]
          rw [hsv] at hS
          have HLy : Hid (∀ w1, LgAt lb pb a g D w1 → StrsAt pb (.slice ao L.length cap) L w1 → Calls Try.prog 28 #[.pointer (some ⟨pb, 0, none⟩), .int .i64 (spareF D), .int .u64 (gsucc g : Int), .slice ao L.length cap] w1 fun e w' => e = .returned (.int .i64 x) ∧ DrumAt pb D1 w' ∧ Drm.Kept pb w1 w') := fun w1 h1 h2 => by
            have := lay28 pb D (spareF D) (gsucc g) L (.slice ao L.length cap) w1 h1.drum H.out.2.1 (Nat.mod_lt _ (by decide)) HF.out.1 hn h2
            rw [hx] at this
            exact this
          have HCt : Hid (∀ (i : Int) (w1 : World), DrumAt pb D1 w1 → Calls Try.prog 45 #[.pointer (some ⟨pb, 0, none⟩), .int .i64 i] w1 fun e w' => e = .returned (.int .i64 (D1.cut i).1) ∧ DrumAt pb (D1.cut i).2 w' ∧ Drm.Kept pb w1 w') := fun i w1 h1 => Drm.cut38 pb D1 i w1 h1 hok1
          have hadd : IntKind.u64.wrap ((g : Int) + 1) = (gsucc g : Int) := by
            simp [IntKind.wrap, IntKind.bits, IntKind.signed, gsucc]
          clear hx hok1 hdn hs4 hsv
          generalize spareF D = s at *
          have HS : Hid (1 = 1 → Calls Try.prog 44 #[.pointer (some ⟨pb, 0, none⟩)] w fun e w' => e = .returned (.tuple #[.int .i64 s, .int .i64 0]) ∧ w = w') := fun _ => hS
          clear hS
          obtain ⟨g1, hg1⟩ : ∃ g1, g1 = gsucc g := ⟨_, rfl⟩
          rw [← hg1] at hyy HLy hadd
          clear hg1
          have HYY : Hid _ := hyy
          clear hyy
          go_wp2_with (go_at_call 44; refine (HS.out (by trivial)).mono ?_; rintro e w1 ⟨rfl, rfl⟩)
          clear cf
          go_region_held3 (fun w' => w'.cell? ⟨lb, 0, none⟩ = some (.pointer (some ⟨pb, 0, none⟩)) ∧ w'.cell? ⟨lb, 2, none⟩ = some (.int .u64 g) ∧ Hid (LbAt lb pb a g w'))
            (first | exact ⟨c0, c2, H.out.1.blk⟩ | exact ⟨(H.out.1.blk.on (Below.refl _ _).drew).cells.1, (H.out.1.blk.on (Below.refl _ _).drew).cells.2.2.1, H.out.1.blk.on (Below.refl _ _).drew⟩ | exact ⟨H2.out.1.blk.cells.1, H2.out.1.blk.cells.2.2.1, H2.out.1.blk⟩)
            (first | (go_at_call 28; refine (HLy.out _ (H.out.1.on (Below.refl _ _).drew) (H.out.2.2.on (Below.refl _ _).drew)).mono ?_; rintro e W2 ⟨rfl, h2, k2⟩; have H2 : Hid (LgAt lb pb a g D1 W2 ∧ Drm.Kept pb w W2) := ⟨(H.out.1.on (Below.refl _ _).drew).kept h2 k2, (Drm.Kept.refl pb w).drew.trans k2⟩; clear h2 k2))
          obtain ⟨d0, d1, d2, df⟩ := H2.out.1.blk.cells
          by_cases hx0 : x = 0
          · subst hx0
            have hyy : y = ((D1.cut a).1, ((s : Int), g1), (D1.cut a).2) := by rw [HYY.out]; simp
            have HY3 : Hid _ := hyy
            clear hyy
            have hl3 : LbAt lb pb s g (W2.setCell ⟨lb, 1, none⟩ (.int .i64 s)) := H2.out.1.blk.set1 s
            obtain ⟨e0, e1, e2, ef⟩ := hl3.cells
            have hl4 : LbAt lb pb s g1 ((W2.setCell ⟨lb, 1, none⟩ (.int .i64 s)).setCell ⟨lb, 2, none⟩ (.int .u64 g1)) := hl3.set2 g1
            obtain ⟨f0, f1, f2, ff⟩ := hl4.cells
            have hd3 : DrumAt pb D1 (W2.setCell ⟨lb, 1, none⟩ (.int .i64 s)) := H2.out.1.drum.store H2.out.1.blk (by have := H2.out.1.ne; omega) (by decide) _ _
            have hd4 : DrumAt pb D1 ((W2.setCell ⟨lb, 1, none⟩ (.int .i64 s)).setCell ⟨lb, 2, none⟩ (.int .u64 g1)) := hd3.store hl3 (by have := H2.out.1.ne; omega) (by decide) _ _
            have H4 : Hid (LgAt lb pb s g1 D1 ((W2.setCell ⟨lb, 1, none⟩ (.int .i64 s)).setCell ⟨lb, 2, none⟩ (.int .u64 g1)) ∧ Keep2 lb pb w ((W2.setCell ⟨lb, 1, none⟩ (.int .i64 s)).setCell ⟨lb, 2, none⟩ (.int .u64 g1))) := ⟨⟨hl4, hd4, H2.out.1.ne⟩, ((Keep2.of H2.out.2).set H2.out.1.ne _ _).set H2.out.1.ne _ _⟩
            clear hl3 hl4 hd3 hd4
            go_wp2_with (first | (go_at_call 45; refine (HCt.out a _ H4.out.1.drum).mono ?_; rintro e W5 ⟨rfl, h5, k5⟩; have H5 : Hid _ := And.intro (H4.out.1.kept h5 k5) (H4.out.2.trans (Keep2.of k5)); clear h5 k5))
            rw [← HQE.out, HY3.out]
            exact ⟨rfl, H5.out⟩
          · have hx' : (x != 0) = true := by simp [hx0]
            have hyy : y = (x, (a, g), (D1.cut s).2) := by rw [HYY.out, if_pos hx0]
            have HY3 : Hid _ := hyy
            clear hyy hx0
            go_wp2_with (first | (go_at_call 45; refine (HCt.out s _ H2.out.1.drum).mono ?_; rintro e W5 ⟨rfl, h5, k5⟩; have H5 : Hid _ := And.intro (H2.out.1.kept h5 k5) ((Keep2.of (lb := lb) H2.out.2).trans (Keep2.of k5)); clear h5 k5))
            rw [← HQE.out, HY3.out]
            exact ⟨rfl, H5.out⟩

end Go.Proofs.Ytjjdmeemhgopbaa
