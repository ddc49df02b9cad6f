/-
  Contract of Fall: of each area so many pending bytes are kept.
-/
import Derived.Test.YtjjdmeemhgopbaaDSteps
namespace Go.Proofs.Ytjjdmeemhgopbaa.Drm
open Go.RowKit

/-- The list keep lies at the slice kv, apart from the drum in block pb. -/
def KeepAt (pb : Nat) (kv : Value) (keep : List Int) (w : World) : Prop :=
  ∃ ao cap, kv = .slice ao keep.length cap ∧ (0 < keep.length → ∃ kb ko, ao = some ⟨kb, ko, none⟩ ∧ kb ≠ pb ∧ (∀ i, i < keep.length → w.cell? ⟨kb, ko + i, none⟩ = some (.int .i64 (keep.getD i 0))) ∧ (kb < pb ∨ ∃ cs fz, w.heap[kb]? = some (.cells cs 3 fz)))

theorem KeepAt.kept {pb : Nat} {kv : Value} {keep : List Int} {w w' : World} (h : KeepAt pb kv keep w) (hk : Kept pb w w') : KeepAt pb kv keep w' := by
  obtain ⟨ao, cap, rfl, h⟩ := h
  refine ⟨ao, cap, rfl, fun h0 => ?_⟩
  obtain ⟨kb, ko, rfl, hne, hc, hb⟩ := h h0
  refine ⟨kb, ko, rfl, hne, ?_, ?_⟩
  · intro i hi
    rw [← hc i hi]
    refine World.cell?_of_block ?_
    rcases hb with hb | ⟨cs, fz, hb⟩
    · exact hk.below.block kb hb
    · show w'.heap[kb]? = w.heap[kb]?
      rw [hb, hk.other kb _ hb hne (by intro cs' fz' e; injection e with _ e _; exact absurd e (by decide))]
  · rcases hb with hb | ⟨cs, fz, hb⟩
    · exact .inl hb
    · exact .inr ⟨cs, fz, hk.other kb _ hb hne (by intro cs' fz' e; injection e with _ e _; exact absurd e (by decide))⟩

theorem KeepAt.nil (pb : Nat) (w : World) : KeepAt pb (.slice none 0 0) [] w := ⟨none, 0, rfl, fun h => absurd h (by simp)⟩

set_option maxHeartbeats 400000 in
theorem fall26_nil (v : Value) (w : World) : Calls Try.prog 15 #[.pointer none, v] w fun e w' => e = .returned (.tuple #[]) ∧ w = w' := by
  go_enter Try.func15, Try.ntmps15
  go_wp2
  (try simp only [Exit.inBlock, Exit.then]); refine bodyPost_ret (results_none rfl _ _ _) rfl ?_
  exact ⟨rfl, rfl⟩

theorem settle40i (pb : Nat) (D : Dr) (a : Nat) (n : Int) (w : World) (hD : DrumAt pb D w) (ha : a < 4) (hn : 0 ≤ n) :
    Calls Try.prog 38 #[.pointer (some ⟨pb, a * 3, none⟩), .int .i64 n] w fun e w' => e = .returned (.tuple #[]) ∧ DrumAt pb (D.set a ((D.p a).settle n.toNat)) w' ∧ Kept pb w w' := by
  obtain ⟨m, rfl⟩ := Int.eq_ofNat_of_zero_le hn
  exact settle40 pb D a m w hD ha

theorem fallTo_self (D : Dr) (keep : List Int) (k : Nat) : (D.fallTo keep k).p k = D.p k := by simp [Dr.fallTo]

theorem DrumIn.same {pb : Nat} {D D' : Dr} {vs : Nat → Value} {w : World} (h : DrumIn pb D vs w) (hp : ∀ i, i < 4 → D'.p i = D.p i) (h1 : D'.room = D.room) (h2 : D'.fuel = D.fuel) (h3 : D'.down = D.down) : DrumIn pb D' vs w := by
  refine ⟨?_, fun i hi => by rw [hp i hi]; exact h.own i hi, h.apart⟩
  have e : dcells D' vs = dcells D vs := by
    unfold dcells
    rw [hp 0 (by omega), hp 1 (by omega), hp 2 (by omega), hp 3 (by omega), h1, h2, h3]
  rw [e]
  exact h.blk

/-- One round's end. -/
theorem fall_round {pb : Nat} {D : Dr} {keep : List Int} {k : Nat} {n : Int} {w wr w1 : World} (hl : n.toNat = D.left keep k) (h : DrumAt pb ((D.fallTo keep k).set k (((D.fallTo keep k).p k).settle n.toNat)) w1 ∧ Kept pb wr w1) (hk : Kept pb w wr) : DrumAt pb (D.fallTo keep (k + 1)) w1 ∧ Kept pb w w1 := by
  rw [fallTo_self, hl, Dr.fallTo_succ] at h
  exact ⟨h.1, hk.trans h.2⟩

set_option maxHeartbeats 1000000 in
theorem fall26 (pb : Nat) (D : Dr) (kv : Value) (keep : List Int) (w : World) (hD : DrumAt pb D w) (hOk : D.Ok) (hK : KeepAt pb kv keep w) (hk0 : ∀ i, -9223372036854775808 ≤ keep.getD i 0 ∧ keep.getD i 0 ≤ 9223372036854775807) (hkl : keep.length ≤ 9223372036854775807) :
    Calls Try.prog 15 #[.pointer (some ⟨pb, 0, none⟩), kv] w fun e w' => e = .returned (.tuple #[]) ∧ DrumAt pb (D.fall keep) w' ∧ Kept pb w w' := by
  have HS : Hid (DrumAt pb D w ∧ KeepAt pb kv keep w ∧ D.Ok) := ⟨hD, hK, hOk⟩
  obtain ⟨ao, cap, rfl, hKx⟩ := hK
  clear hKx
  clear hD hOk
  go_enter Try.func15, Try.ntmps15
  go_wp2_with fail
  go_loopw [9] (fun i wr => ∃ k : Nat, k ≤ 4 ∧ i = .int .i64 k ∧ DrumAt pb (D.fallTo keep k) wr ∧ Kept pb w wr) (fun i _ => 4 - (intOf i).toNat)
  case atStart => exact ⟨0, by omega, rfl, by rw [Dr.fallTo_zero]; exact HS.out.1, Kept.refl _ _⟩
  case round =>
    obtain ⟨k, hk, rfl, hwr, hkept⟩ := hrel
    have HW : Hid (DrumAt pb (D.fallTo keep k) wr ∧ Kept pb w wr ∧ KeepAt pb (.slice ao keep.length cap) keep wr) := ⟨hwr, hkept, HS.out.2.1.kept hkept⟩
    clear hwr hkept
    by_cases hlt : k < 4
    · obtain ⟨vs, hDi⟩ := HW.out.1
      have hr := hDi.row k hlt
      have hsu := hDi.sure k hlt
      have hfz := hDi.free
      obtain ⟨ar, cr, hv, hcr⟩ := own_shape (hDi.own k hlt)
      rw [hv] at hr
      clear hv hDi
      rw [fallTo_self] at hr hsu hcr
      have hs1 := HS.out.2.2.sure k
      have hs2 := D.len_le_used k hlt
      have hs3 := HS.out.2.2.fits
      have hs4 := HS.out.2.2.room1
      have hln : (D.p k).l.length ≤ 1048576 := by omega
      have hle : ∀ x, keep.getD k 0 = x → D.left keep k = (D.p k).sure + (min (max x 0) (((D.p k).l.length : Int) - (D.p k).sure)).toNat := fun x hx => by rw [Dr.left, hx]
      have HC : Hid (1 = 1 → ∀ (n : Int) (w0 : World), Below wr.heap.size wr w0 → 0 ≤ n → Calls Try.prog 38 #[.pointer (some ⟨pb, k * 3, none⟩), .int .i64 n] w0 fun e w' => e = .returned (.tuple #[]) ∧ DrumAt pb ((D.fallTo keep k).set k (((D.fallTo keep k).p k).settle n.toNat)) w' ∧ Kept pb w0 w') := fun _ n w0 hb hn => settle40i pb _ k n w0 (HW.out.1.on hb) hlt hn
      clear hs2 hs3 hs4
      generalize (D.p k).l.length = len at *
      generalize (D.p k).sure = su at *
      by_cases hkk : k < keep.length
      · obtain ⟨_, _, hsl, hKb⟩ := HW.out.2.2
        injection hsl with e1 _ e3
        subst e1
        subst e3
        obtain ⟨kb, ko, hao, _, hcell, _⟩ := hKb (by omega)
        subst hao
        have hck := hcell k hkk
        have hxb := hk0 k
        have hle := hle _ rfl
        clear hKb hcell
        generalize keep.getD k 0 = x at *
        rcases (by omega : x < 0 ∨ (0 ≤ x ∧ x ≤ (len : Int) - su) ∨ (0 ≤ x ∧ (len : Int) - su < x)) with hx | ⟨hx0, hx1⟩ | ⟨hx0, hx1⟩
        · have HL : Hid (D.left keep k = su) := by
            show _ = _
            rw [hle]
            omega
          clear hle
          go_wp2_with fail
          go_region
          go_wp2_with (go_at_call 38; refine (HC.out (by trivial) _ _ ((Below.refl _ _).drew) (by omega)).mono ?_; rintro e w1 ⟨rfl, h1, h2⟩; have H1 : Hid _ := And.intro h1 h2; clear h1 h2)
          go_roundw
          case rel => exact ⟨k + 1, by omega, by go_num, fall_round (by rw [HL.out]; omega) H1.out HW.out.2.1.drew⟩
          case measure => simp [intOf]; omega
        · have HL : Hid (D.left keep k = su + x.toNat) := by
            show _ = _
            rw [hle]
            omega
          clear hle
          go_wp2_with fail
          go_region
          go_wp2_with (go_at_call 38; refine (HC.out (by trivial) _ _ ((Below.refl _ _).drew) (by omega)).mono ?_; rintro e w1 ⟨rfl, h1, h2⟩; have H1 : Hid _ := And.intro h1 h2; clear h1 h2)
          go_roundw
          case rel => exact ⟨k + 1, by omega, by go_num, fall_round (by rw [HL.out]; omega) H1.out HW.out.2.1.drew⟩
          case measure => simp [intOf]; omega
        · have HL : Hid (D.left keep k = len) := by
            show _ = _
            rw [hle]
            omega
          clear hle
          go_wp2_with fail
          go_region
          go_wp2_with (go_at_call 38; refine (HC.out (by trivial) _ _ ((Below.refl _ _).drew) (by omega)).mono ?_; rintro e w1 ⟨rfl, h1, h2⟩; have H1 : Hid _ := And.intro h1 h2; clear h1 h2)
          go_roundw
          case rel => exact ⟨k + 1, by omega, by go_num, fall_round (by rw [HL.out]; omega) H1.out HW.out.2.1.drew⟩
          case measure => simp [intOf]; omega
      · have hx : keep.getD k 0 = 0 := by simp [List.getD, List.getElem?_eq_none (by omega : keep.length ≤ k)]
        have HL : Hid (D.left keep k = su) := by
          show _ = _
          rw [hle 0 hx]
          omega
        clear hle hx
        go_wp2_with (go_at_call 38; refine (HC.out (by trivial) _ _ (Below.refl _ _) (by omega)).mono ?_; rintro e w1 ⟨rfl, h1, h2⟩; have H1 : Hid _ := And.intro h1 h2; clear h1 h2)
        go_roundw
        case rel => exact ⟨k + 1, by omega, by go_num, fall_round (by rw [HL.out]; omega) H1.out HW.out.2.1⟩
        case measure => simp [intOf]; omega
    · have HE : Hid (k = 4) := (by omega : k = 4)
      obtain ⟨vs, hDi⟩ := HW.out.1
      have HI : Hid (DrumIn pb (D.fallTo keep k) vs wr) := hDi
      have hdn := hDi.down
      have hfu := hDi.fuel
      have hfz := hDi.free
      have hfu2 := (hDi.set_down false).fuel
      have hfz2 := (hDi.set_down false).free
      clear hDi
      go_wp2
      go_end0
      have hR := (HI.out.set_down false).set_fuel (-1)
      rw [HE.out] at hR
      exact ⟨rfl, ⟨vs, hR.same (fun i hi => by simp [Dr.fall, Dr.fallTo, hi]) rfl rfl rfl⟩, (HW.out.2.1.set _ _).set _ _⟩

end Go.Proofs.Ytjjdmeemhgopbaa.Drm
