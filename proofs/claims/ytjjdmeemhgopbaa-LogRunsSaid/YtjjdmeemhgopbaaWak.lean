/-
  Two records, there behind a fall: what the statements look at first.
-/
import Derived.Test.YtjjdmeemhgopbaaKe2
import Derived.Test.YtjjdmeemhgopbaaOpn
import Derived.Test.YtjjdmeemhgopbaaSam
namespace Go.Proofs.Ytjjdmeemhgopbaa
open Go.RowKit Go.Sort
open Drm (Dr Pt DrumAt DrumIn)

/-- Open, where it is known what it finds. -/
theorem open_ok {D D' : Dr} {a : Int} {g : Nat} {R : List (List UInt8)} (pb : Nat) (w : World) (hD : DrumAt pb D w) (hOk : D.Ok) (hdn : D.down = false) (ho : openF D = (0, (a, g, R), D')) :
    Calls Try.prog 11 #[.pointer (some ⟨pb, 0, none⟩)] w fun e w' => ∃ lb V, e = .returned (.tuple #[.pointer (some ⟨lb, 0, none⟩), V, .int .i64 0]) ∧ LgAt lb pb a g D' w' ∧ TxAt w.heap.size V R w' ∧ w.heap.size ≤ lb ∧ Drm.Kept pb w w' := by
  refine (open11 pb D w hD hOk hdn).mono ?_
  rintro e w' (⟨h1, _⟩ | ⟨h1, lb, V, h2⟩)
  · rw [ho] at h1; exact absurd rfl h1
  · rw [ho] at h2; exact ⟨lb, V, h2⟩

theorem ok_open {D D' : Dr} {x : Int × Nat × List (List UInt8)} (hO : D.Ok) (ho : openF D = (0, x, D')) : D'.Ok := by
  have := openF_ok hO
  rw [ho] at this
  exact this

/-- An append that fits, where fuel has no limit. -/
theorem append_ok {D : Dr} {a g : Nat} {R : List (List UInt8)} {r : List UInt8} (h : Holds D a g R) (hd : D.down = false) (hO : D.Ok) (hf : D.fuel < 0) (hr : r.length ≤ 16000) (hfit : ¬ D.room - D.used < (frameOf (82 :: r)).length) :
    ∃ D', appendF D a r = (0, D') ∧ Holds D' a g (R ++ [r]) ∧ D'.down = false ∧ D'.Ok ∧ D'.room = D.room ∧ D'.fuel = D.fuel ∧ (D'.p a).l = (D.p a).l ++ frameOf (82 :: r) := by
  have hOy := appendF_ok hO a r
  rcases append_keeps (r := r) h hd hO (Nat.le_refl g) with ⟨h1, _, h3, h4, h5, h6, h7⟩ | ⟨⟨_, h2⟩ | ⟨_, _, h2⟩, _⟩ | ⟨_, h2, _⟩
  · refine ⟨(appendF D a r).2, ?_, h3, h4, hOy, h5, h6 hf, h7⟩
    rw [← h1]
  · omega
  · exact absurd h2 hfit
  · omega

theorem tx_two {B : Nat} {V : Value} {s t : List UInt8} {w : World} (h : TxAt B V [s, t] w) : ∃ b o cp, V = .slice (some ⟨b, o, none⟩) 2 cp ∧ w.cell? ⟨b, o, none⟩ = some (.string (bs s)) ∧ w.cell? ⟨b, o + 1, none⟩ = some (.string (bs t)) := by
  obtain ⟨ao, b, o, cp, h1, h2, h3⟩ := h.cells
  have e := h2 (by simp)
  subst e
  exact ⟨b, o, cp, h1, h3 0 (by simp), h3 1 (by simp)⟩

set_option maxHeartbeats 1600000 in
theorem awake7 (w : World) : Calls Try.prog 7 #[] w fun e w' => e = .returned (.bool true) ∧ Below w.heap.size w w' := by
  obtain ⟨D1, ho1, hh1, hd1, hf1, hr1, hl1⟩ := open_new (room := 1000) (by decide)
  have hO0 : (Dr.new 1000).Ok := Drm.Dr.Ok.new 1000 (by decide) (by decide)
  have hO1 := ok_open hO0 ho1
  have hu1 := hh1.used hO1
  have hlen : (headOf 1 []).length = 15 := by rw [head_len 1 [] (by decide)]; rfl
  have hfa : (frameOf (82 :: [97])).length = 8 := frame_small _ (by decide)
  have hfb : (frameOf (82 :: [98])).length = 8 := frame_small _ (by decide)
  obtain ⟨D2, ha2, hh2, hd2, hO2, hr2, hf2, hl2⟩ := append_ok (r := [97]) hh1 hd1 hO1 (by rw [hf1]; decide) (by decide) (by rw [hr1, hu1, hl1, hlen, hfa]; decide)
  have hu2 := hh2.used hO2
  obtain ⟨D3, ha3, hh3, hd3, hO3, hr3, hf3, hl3⟩ := append_ok (r := [98]) hh2 hd2 hO2 (by rw [hf2, hf1]; decide) (by decide) (by rw [hr2, hr1, hu2, hl2, hl1, List.length_append, hlen, hfa, hfb]; decide)
  obtain ⟨D4, ho4, hh4, hd4, _, _⟩ := holds_at hh3 hO3 []
  have hO4 := ok_open (hO3.fall []) ho4
  have hr4 : ([] : List (List UInt8)) ++ [[97]] ++ [[98]] = [[97], [98]] := rfl
  rw [hr4] at ho4
  have C1 : Hid (∀ pb w, DrumAt pb (Dr.new 1000) w → Calls Try.prog 11 #[.pointer (some ⟨pb, 0, none⟩)] w fun e w' => ∃ lb V, e = .returned (.tuple #[.pointer (some ⟨lb, 0, none⟩), V, .int .i64 0]) ∧ LgAt lb pb 0 1 D1 w' ∧ TxAt w.heap.size V [] w' ∧ w.heap.size ≤ lb ∧ Drm.Kept pb w w') := fun pb w h => open_ok pb w h hO0 rfl ho1
  have C2 : Hid (∀ lb pb w, LgAt lb pb 0 1 D1 w → Calls Try.prog 18 #[.pointer (some ⟨lb, 0, none⟩), .string ⟨#[97]⟩] w fun e w' => e = .returned (.int .i64 0) ∧ LgAt lb pb 0 1 D2 w' ∧ Drm.Kept pb w w') := fun lb pb w h => by
    have := append18 lb pb 1 0 D1 [97] w h hO1
    rw [show appendF D1 0 [97] = (0, D2) from ha2] at this
    exact this
  have C3 : Hid (∀ lb pb w, LgAt lb pb 0 1 D2 w → Calls Try.prog 18 #[.pointer (some ⟨lb, 0, none⟩), .string ⟨#[98]⟩] w fun e w' => e = .returned (.int .i64 0) ∧ LgAt lb pb 0 1 D3 w' ∧ Drm.Kept pb w w') := fun lb pb w h => by
    have := append18 lb pb 1 0 D2 [98] w h hO2
    rw [show appendF D2 0 [98] = (0, D3) from ha3] at this
    exact this
  have C4 : Hid (∀ pb w, DrumAt pb D3 w → Calls Try.prog 15 #[.pointer (some ⟨pb, 0, none⟩), .slice none 0 0] w fun e w' => e = .returned (.tuple #[]) ∧ DrumAt pb (D3.fall []) w' ∧ Drm.Kept pb w w') := fun pb w h => Drm.fall26 pb D3 (.slice none 0 0) [] w h hO3 (Drm.KeepAt.nil _ _) (fun i => by simp) (by simp)
  have C5 : Hid (∀ pb w, DrumAt pb (D3.fall []) w → Calls Try.prog 11 #[.pointer (some ⟨pb, 0, none⟩)] w fun e w' => ∃ lb V, e = .returned (.tuple #[.pointer (some ⟨lb, 0, none⟩), V, .int .i64 0]) ∧ LgAt lb pb 0 1 D4 w' ∧ TxAt w.heap.size V [[97], [98]] w' ∧ w.heap.size ≤ lb ∧ Drm.Kept pb w w') := fun pb w h => open_ok pb w h (hO3.fall []) rfl ho4
  clear ho1 hh1 hd1 hf1 hr1 hl1 hO0 hO1 hu1 hlen hfa hfb ha2 hh2 hd2 hO2 hr2 hf2 hl2 hu2 ha3 hh3 hd3 hO3 hr3 hf3 hl3 ho4 hh4 hd4 hO4 hr4
  go_enter Try.func7, Try.ntmps7
  go_wp2_with fail
  refine (Drm.new8 1000 _ (by omega) (by omega)).mono ?_
  obtain ⟨pb, hpb⟩ : ∃ pb, pb = w.heap.size := ⟨_, rfl⟩
  rw [← hpb]
  rintro e w1 ⟨rfl, hD1, hb1⟩
  have H1 : Hid (DrumAt pb (Dr.new 1000) w1 ∧ Below pb w w1 ∧ pb = w.heap.size) := ⟨hD1, hb1, hpb⟩
  clear hD1 hb1 hpb
  go_wp2_with fail
  refine (C1.out pb _ H1.out.1).mono ?_
  rintro e w2 ⟨lb, V, rfl, hL2, hV2, hlb, k2⟩
  obtain ⟨ao, cp, rfl⟩ := tx_shape hV2
  have H2 : Hid (LgAt lb pb 0 1 D1 w2 ∧ Below pb w w2) := ⟨hL2, H1.out.2.1.trans k2.below⟩
  clear hL2 hV2 hlb k2
  go_wp2_with fail
  refine (C2.out lb pb _ H2.out.1).mono ?_
  rintro e w3 ⟨rfl, hL3, k3⟩
  have H3 : Hid (LgAt lb pb 0 1 D2 w3 ∧ Below pb w w3) := ⟨hL3, H2.out.2.trans k3.below⟩
  clear hL3 k3
  go_wp2_with fail
  refine (C3.out lb pb _ H3.out.1).mono ?_
  rintro e w4 ⟨rfl, hL4, k4⟩
  have H4 : Hid (LgAt lb pb 0 1 D3 w4 ∧ Below pb w w4) := ⟨hL4, H3.out.2.trans k4.below⟩
  clear hL4 k4
  go_wp2_with fail
  refine (C4.out pb _ H4.out.1.drum).mono ?_
  rintro e w5 ⟨rfl, hD5, k5⟩
  have H5 : Hid (DrumAt pb (D3.fall []) w5 ∧ Below pb w w5) := ⟨hD5, H4.out.2.trans k5.below⟩
  clear hD5 k5
  go_wp2_with fail
  refine (C5.out pb _ H5.out.1).mono ?_
  rintro e w6 ⟨lb2, V2, rfl, hL6, hV6, hlb6, k6⟩
  obtain ⟨vb, vo, vc, rfl, v0, v1⟩ := tx_two hV6
  have H6 : Hid (LgAt lb2 pb 0 1 D4 w6 ∧ Below pb w w6 ∧ pb = w.heap.size) := ⟨hL6, H5.out.2.trans k6.below, H1.out.2.2⟩
  clear hL6 hV6 hlb6 k6
  have v0' : w6.cell? ⟨vb, vo, none⟩ = some (.string ⟨#[97]⟩) := v0
  have v1' : w6.cell? ⟨vb, vo + 1, none⟩ = some (.string ⟨#[98]⟩) := v1
  clear v0 v1
  have G : Hid (1 = 1 → Calls Try.prog 22 #[.pointer (some ⟨lb2, 0, none⟩)] w6 fun e w' => e = .returned (.int .u64 1) ∧ w6 = w') := fun _ => gen22 lb2 pb 1 0 w6 H6.out.1.blk
  go_wp2_with (go_at_call 22; refine (G.out (by trivial)).mono ?_; rintro e w7 ⟨rfl, rfl⟩)
  go_ret
  rw [← H6.out.2.2]
  exact ⟨rfl, H6.out.2.1⟩

end Go.Proofs.Ytjjdmeemhgopbaa
