/-
  Logs on drums, plain: what a log holds behind an append, a renewal, a fall; what Open finds.
-/
import Derived.Test.YtjjdmeemhgopbaaLo
namespace Go.Proofs.Ytjjdmeemhgopbaa
open Drm (Dr Pt)

/-- Area a of the drum holds the log, all of it sure; no other area is there. -/
structure Holds (D : Dr) (a g : Nat) (R : List (List UInt8)) : Prop where
  lt : a < 4
  there : (D.p a).there = true
  log : IsLog (D.p a).l g R
  sure : (D.p a).sure = (D.p a).l.length
  alone : ∀ i, i < 4 → i ≠ a → (D.p i).there = false

/-- Area a holds the newest log, perhaps with bytes behind it. -/
structure Cand (D : Dr) (a g : Nat) (R : List (List UInt8)) (fin : Nat) : Prop where
  lt : a < 4
  there : (D.p a).there = true
  tells : lgOf (D.p a).l = some (g, R, fin)
  log : IsLog ((D.p a).l.take fin) g R
  le : fin ≤ (D.p a).l.length
  sure : (D.p a).sure = (D.p a).l.length
  others : ∀ i, i < 4 → i ≠ a → (D.p i).there = true → ∀ x, lgOf (D.p i).l = some x → x.1 < g

theorem step_goes {D : Dr} {n : Nat} (r : Pt → Int) (f : Pt → Pt) (hd : D.down = false) (hn : n < 4) : D.step n r f = if r (D.p n) ≠ 0 then (r (D.p n), D) else if D.fuel = 0 then (11, { D with down := true }) else (0, D.burn.set n (f (D.p n))) := by
  rw [Drm.Dr.step, hd, if_neg (by decide), if_neg (by omega), Int.toNat_natCast]
theorem step_down {D : Dr} (h : D.down = true) (a : Int) (r : Pt → Int) (f : Pt → Pt) : D.step a r f = (11, D) := by rw [Drm.Dr.step, if_pos h]

section
variable {D : Dr} {n : Nat}
theorem lay_goes (hd : D.down = false) (hn : n < 4) (ht : (D.p n).there = false) : D.lay n = if D.fuel = 0 then (11, { D with down := true }) else (0, D.burn.set n { D.p n with there := true }) := by
  unfold Drm.Dr.lay
  rw [step_goes _ _ hd hn, if_neg (by simp [ht])]
theorem cut_goes (hd : D.down = false) (hn : n < 4) (ht : (D.p n).there = true) : D.cut n = if D.fuel = 0 then (11, { D with down := true }) else (0, D.burn.set n Pt.none) := by
  unfold Drm.Dr.cut
  rw [step_goes _ _ hd hn, if_neg (by simp [Drm.missing, ht])]
theorem sync_goes (hd : D.down = false) (hn : n < 4) (ht : (D.p n).there = true) : D.sync n = if D.fuel = 0 then (11, { D with down := true }) else (0, D.burn.set n ((D.p n).settle (D.p n).l.length)) := by
  unfold Drm.Dr.sync
  rw [step_goes _ _ hd hn, if_neg (by simp [Drm.missing, ht])]
theorem trim_goes (hd : D.down = false) (hn : n < 4) (ht : (D.p n).there = true) (m : Nat) : D.trim n m = if D.fuel = 0 then (11, { D with down := true }) else (0, D.burn.set n ((D.p n).settle m)) := by
  unfold Drm.Dr.trim
  rw [step_goes _ _ hd hn, if_neg (by simp [ht])]
  rfl
theorem write_goes (hd : D.down = false) (hn : n < 4) (ht : (D.p n).there = true) (s : List UInt8) : D.write n s = if D.room - D.used < s.length then (10, D) else if D.fuel = 0 then (11, { D with down := true }) else (0, D.burn.set n { D.p n with l := (D.p n).l ++ s }) := by
  unfold Drm.Dr.write
  rw [step_goes _ _ hd hn]
  by_cases h : D.room - D.used < s.length
  · simp [ht, h]
  · simp [ht, h]
end

theorem burn_p (D : Dr) : D.burn.p = D.p := rfl
theorem burn_room (D : Dr) : D.burn.room = D.room := rfl
theorem burn_down (D : Dr) : D.burn.down = D.down := rfl
theorem burn_neg {D : Dr} (h : D.fuel < 0) : D.burn.fuel = D.fuel := by show (if 0 < D.fuel then D.fuel - 1 else D.fuel) = _; rw [if_neg (by omega)]
theorem set_room (D : Dr) (a : Nat) (q : Pt) : (D.set a q).room = D.room := rfl
theorem set_fuel (D : Dr) (a : Nat) (q : Pt) : (D.set a q).fuel = D.fuel := rfl
theorem set_down (D : Dr) (a : Nat) (q : Pt) : (D.set a q).down = D.down := rfl

/-! ### Open -/

theorem scan_of {l : List UInt8} {g fin : Nat} {R : List (List UInt8)} (h : lgOf l = some (g, R, fin)) : scanOf l = (⟨g, R, fin, l.length - fin⟩, true) := scan_some h

theorem newest_cand {D : Dr} {a g fin : Nat} {R : List (List UInt8)} (h : Cand D a g R fin) : ∀ k, k ≤ 4 → (a < k → newestTo D k = ((a : Int), ⟨g, R, fin, (D.p a).l.length - fin⟩)) ∧ (k ≤ a → (newestTo D k).1 = -1 ∨ (newestTo D k).2.gen < g) := by
  intro k
  induction k with
  | zero => exact fun _ => ⟨fun h => absurd h (by omega), fun _ => .inl rfl⟩
  | succ k ih =>
    intro hk
    obtain ⟨ih1, ih2⟩ := ih (by omega)
    by_cases hka : k = a
    · subst hka
      refine ⟨fun _ => ?_, fun h => absurd h (by omega)⟩
      rw [newestTo, scan_of h.tells, if_pos ⟨h.there, rfl, ih2 (Nat.le_refl _)⟩]
    · by_cases hlt : a < k
      · refine ⟨fun _ => ?_, fun h => absurd h (by omega)⟩
        have e := ih1 hlt
        rw [newestTo, e, if_neg]
        rintro ⟨h1, h2, h3⟩
        rcases h3 with h3 | h3
        · exact absurd h3 (by show (a : Int) ≠ -1; omega)
        · cases hl : lgOf (D.p k).l with
          | none => rw [scan_none hl] at h2; exact absurd h2 (by decide)
          | some x =>
            have := h.others k (by omega) hka h1 x hl
            rw [scan_some hl] at h3
            dsimp only at h3
            omega
      · refine ⟨fun h => absurd h (by omega), fun _ => ?_⟩
        have e := ih2 (by omega)
        rw [newestTo]
        split
        · next hh =>
          right
          cases hl : lgOf (D.p k).l with
          | none => rw [scan_none hl] at hh; exact absurd hh.2.1 (by decide)
          | some x =>
            have := h.others k (by omega) hka hh.1 x hl
            rw [scan_some hl]
            exact this
        · exact e

theorem has_eq (D : Dr) (k : Nat) (hk : k < 4) : D.has k = (D.p k).there := by
  unfold Drm.Dr.has
  simp
  omega

/-- Where fuel has no limit all areas but one are cut. -/
theorem cut_all {D : Dr} (a : Nat) (hd : D.down = false) (hf : D.fuel < 0) : ∀ k, k ≤ 4 → (cutTo D a k).1 = 0 ∧ (cutTo D a k).2.down = false ∧ (cutTo D a k).2.fuel = D.fuel ∧ (cutTo D a k).2.room = D.room ∧ (cutTo D a k).2.p a = D.p a ∧ (∀ i, i < k → i ≠ a → ((cutTo D a k).2.p i).there = false) ∧ (∀ i, k ≤ i → (cutTo D a k).2.p i = D.p i) := by
  intro k
  induction k with
  | zero => exact fun _ => ⟨rfl, hd, rfl, rfl, rfl, fun i hi => absurd hi (by omega), fun _ _ => rfl⟩
  | succ k ih =>
    intro hk
    obtain ⟨h1, h2, h3, h4, h5, h6, h7⟩ := ih (by omega)
    have hs : cutTo D a (k + 1) = if (k : Int) = a ∨ (cutTo D a k).2.has k = false then cutTo D a k else (cutTo D a k).2.cut k := by
      rw [cutTo, if_neg (by rw [h1]; simp)]
    by_cases hka : k = a
    · rw [hs, if_pos (.inl (by rw [hka]))]
      refine ⟨h1, h2, h3, h4, h5, fun i hi hia => h6 i (by omega) hia, fun i hi => h7 i (by omega)⟩
    · cases hh : (cutTo D a k).2.has k with
      | false =>
        rw [hs, if_pos (.inr hh)]
        refine ⟨h1, h2, h3, h4, h5, fun i hi hia => ?_, fun i hi => h7 i (by omega)⟩
        by_cases hik : i = k
        · subst hik
          rw [has_eq _ _ (by omega)] at hh
          exact hh
        · exact h6 i (by omega) hia
      | true =>
        rw [hs, if_neg (by rw [hh]; simp; omega)]
        have ht : ((cutTo D a k).2.p k).there = true := by rw [has_eq _ _ (by omega)] at hh; exact hh
        rw [cut_goes h2 (by omega) ht, if_neg (by rw [h3]; omega)]
        refine ⟨rfl, h2, ?_, h4, ?_, fun i hi hia => ?_, fun i hi => ?_⟩
        · show (cutTo D a k).2.burn.fuel = _
          rw [burn_neg (by rw [h3]; exact hf), h3]
        · rw [Drm.Dr.set_other _ _ _ _ (fun e => hka e.symm)]
          exact h5
        · by_cases hik : i = k
          · subst hik
            rw [Drm.Dr.set_same]
            rfl
          · rw [Drm.Dr.set_other _ _ _ _ hik]
            exact h6 i (by omega) hia
        · rw [Drm.Dr.set_other _ _ _ _ (by omega)]
          exact h7 i (by omega)

/-- Open finds the log in area a, and then the drum holds just that. -/
def OpensAt (D : Dr) (a g : Nat) (R : List (List UInt8)) : Prop := ∃ D' : Dr, openF D = (0, ((a : Int), g, R), D') ∧ Holds D' a g R ∧ D'.down = false ∧ D'.fuel = D.fuel ∧ D'.room = D.room
/-- Open finds a log with these records. -/
def Opens (D : Dr) (R : List (List UInt8)) (G : Nat) : Prop := ∃ a g : Nat, g ≤ G ∧ OpensAt D a g R

theorem open_at {D : Dr} {a g fin : Nat} {R : List (List UInt8)} (h : Cand D a g R fin) (hd : D.down = false) (hf : D.fuel < 0) : OpensAt D a g R := by
  have hn := (newest_cand h 4 (Nat.le_refl _)).1 h.lt
  obtain ⟨h1, h2, h3, h4, h5, h6, _⟩ := cut_all a hd hf 4 (Nat.le_refl _)
  unfold OpensAt openF
  rw [hn]
  dsimp only
  rw [if_neg (by rw [h1]; simp), if_neg (by omega)]
  have hset : ∀ q : Pt, q.there = true → IsLog q.l g R → q.sure = q.l.length → Holds ((cutTo D a 4).2.burn.set a q) a g R := fun q q1 q2 q3 =>
    ⟨h.lt, by rw [Drm.Dr.set_same]; exact q1, by rw [Drm.Dr.set_same]; exact q2, by rw [Drm.Dr.set_same]; exact q3, fun i hi hia => by rw [Drm.Dr.set_other _ _ _ _ hia]; exact h6 i hi hia⟩
  by_cases hb : 0 < (D.p a).l.length - fin
  · have h3' : ¬ (cutTo D a 4).2.fuel = 0 := by rw [h3]; omega
    rw [if_pos hb, trim_goes h2 h.lt (by rw [h5]; exact h.there), if_neg h3']
    dsimp only
    rw [if_neg (by decide)]
    refine ⟨_, rfl, hset _ ?_ ?_ ?_, h2, ?_, h4⟩
    · rw [h5]; exact h.there
    · rw [h5]; exact h.log
    · rw [h5]
      show min fin (D.p a).l.length = ((D.p a).l.take fin).length
      rw [List.length_take]
    · show (cutTo D a 4).2.burn.fuel = _
      rw [burn_neg (by rw [h3]; exact hf), h3]
  · rw [if_neg hb]
    refine ⟨_, rfl, ⟨h.lt, by rw [h5]; exact h.there, ?_, by rw [h5]; exact h.sure, fun i hi hia => h6 i hi hia⟩, h2, h3, h4⟩
    rw [h5]
    have := h.log
    rwa [List.take_of_length_le (by omega)] at this

theorem open_cand {D : Dr} {a g fin G : Nat} {R : List (List UInt8)} (h : Cand D a g R fin) (hd : D.down = false) (hf : D.fuel < 0) (hG : g ≤ G) : Opens D R G := ⟨a, g, hG, open_at h hd hf⟩

/-! ### Falls -/

theorem fall_p (D : Dr) (keep : List Int) (i : Nat) : (D.fall keep).p i = (D.p i).settle (D.left keep i) := rfl
theorem fall_sure (D : Dr) (keep : List Int) (i : Nat) : ((D.fall keep).p i).sure = ((D.fall keep).p i).l.length := by
  rw [fall_p]
  show min (D.left keep i) (D.p i).l.length = ((D.p i).l.take (D.left keep i)).length
  rw [List.length_take]
theorem fall_all {D : Dr} (h : D.Ok) (keep : List Int) (i : Nat) (hs : (D.p i).sure = (D.p i).l.length) : ((D.fall keep).p i).l = (D.p i).l := by
  rw [fall_p]
  show (D.p i).l.take (D.left keep i) = _
  rw [List.take_of_length_le]
  have := (Drm.Dr.left_bound h keep i).1
  omega

/-- A fall of a drum whose log is sure: where the others that are there hold none, or an elder one. -/
theorem fall_at {D : Dr} {a g : Nat} {R : List (List UInt8)} (hO : D.Ok) (keep : List Int) (ha : a < 4) (ht : (D.p a).there = true) (hl : IsLog (D.p a).l g R) (hs : (D.p a).sure = (D.p a).l.length)
    (ho : ∀ i, i < 4 → i ≠ a → (D.p i).there = true → ∀ x, lgOf ((D.p i).l.take (D.left keep i)) = some x → x.1 < g) : OpensAt (D.fall keep) a g R := by
  have e := fall_all hO keep a hs
  refine open_at (a := a) (fin := (D.p a).l.length) ⟨ha, ht, ?_, ?_, ?_, fall_sure D keep a, fun i hi hia h1 x hx => ho i hi hia h1 x hx⟩ rfl (by show (-1 : Int) < 0; decide)
  · rw [e]; exact hl.lg
  · rw [e, List.take_length]; exact hl
  · rw [e]; exact Nat.le_refl _

theorem fall_opens {D : Dr} {a g G : Nat} {R : List (List UInt8)} (hO : D.Ok) (keep : List Int) (ha : a < 4) (ht : (D.p a).there = true) (hl : IsLog (D.p a).l g R) (hs : (D.p a).sure = (D.p a).l.length) (hG : g ≤ G)
    (ho : ∀ i, i < 4 → i ≠ a → (D.p i).there = true → ∀ x, lgOf ((D.p i).l.take (D.left keep i)) = some x → x.1 < g) : Opens (D.fall keep) R G := ⟨a, g, hG, fall_at hO keep ha ht hl hs ho⟩

/-- The bytes of a drum that holds a log are the log's. -/
theorem Holds.used {D : Dr} {a g : Nat} {R : List (List UInt8)} (h : Holds D a g R) (hO : D.Ok) : D.used = (D.p a).l.length := by
  have ho : ∀ i, i < 4 → i ≠ a → (D.p i).l.length = 0 := fun i hi hia => by rw [hO.gone i (h.alone i hi hia)]; rfl
  have ha := h.lt
  unfold Drm.Dr.used
  rcases (by omega : a = 0 ∨ a = 1 ∨ a = 2 ∨ a = 3) with rfl | rfl | rfl | rfl
  · rw [ho 1 (by omega) (by omega), ho 2 (by omega) (by omega), ho 3 (by omega) (by omega)]
    omega
  · rw [ho 0 (by omega) (by omega), ho 2 (by omega) (by omega), ho 3 (by omega) (by omega)]
    omega
  · rw [ho 0 (by omega) (by omega), ho 1 (by omega) (by omega), ho 3 (by omega) (by omega)]
    omega
  · rw [ho 0 (by omega) (by omega), ho 1 (by omega) (by omega), ho 2 (by omega) (by omega)]
    omega
theorem Holds.read {D : Dr} {a g : Nat} {R : List (List UInt8)} (h : Holds D a g R) (hd : D.down = false) : D.read a = ((D.p a).l, 0) := by
  have := h.lt
  rw [Drm.Dr.read, hd, if_neg (by decide), if_neg (by omega), Int.toNat_natCast, if_pos h.there]

/-- A form's length, of small numbers. -/
theorem frame_small (p : List UInt8) (h : p.length ≤ 247) : (frameOf p).length = p.length + 6 := by
  rw [frameOf_len]
  unfold sz
  rw [if_pos h]
  omega
theorem num_small (g : Nat) (h : g ≤ 247) : (numForm g).length = 1 := by
  rw [numForm_length]
  unfold sz
  rw [if_pos h]
theorem head_len (g : Nat) (C : List (List UInt8)) (hg : g ≤ 247) : (headOf g C).length = 15 + (copies C).length := by
  unfold headOf
  rw [List.length_append, List.length_append, frame_small _ (by rw [List.length_cons, num_small g hg]; omega), frame_small [69] (by decide), List.length_cons, num_small g hg]
  simp
  omega

theorem open_new {room : Int} (h0 : 15 ≤ room) : ∃ D' : Dr, openF (Dr.new room) = (0, ((0 : Int), 1, []), D') ∧ Holds D' 0 1 [] ∧ D'.down = false ∧ D'.fuel = -1 ∧ D'.room = room ∧ (D'.p 0).l = headOf 1 [] := by
  have hn : newestTo (Dr.new room) 4 = (-1, Ct.zero) := by simp [newestTo, Drm.Dr.new, Pt.none]
  have hh : ∀ i : Int, (Dr.new room).has i = false := fun i => by simp [Drm.Dr.has, Drm.Dr.new, Pt.none]
  have hc : cutTo (Dr.new room) (-1) 4 = (0, Dr.new room) := by simp [cutTo, hh]
  have hl : layF (Dr.new room) 0 1 [] = (0, ((Dr.new room).set 0 ⟨true, headOf 1 [], (headOf 1 []).length⟩)) := by
    have hlay := lay_goes (D := Dr.new room) (n := 0) rfl (by decide) rfl
    rw [if_neg (by show ¬ (-1 : Int) = 0; decide)] at hlay
    have e1 : (Dr.new room).lay 0 = (0, (Dr.new room).set 0 ⟨true, [], 0⟩) := hlay
    have hw := write_goes (D := (Dr.new room).set 0 ⟨true, [], 0⟩) (n := 0) rfl (by decide) rfl (headOf 1 [])
    have hu : ((Dr.new room).set 0 ⟨true, [], 0⟩).used = 0 := by simp [Drm.Dr.used, Drm.Dr.set, Drm.Dr.new, Pt.none]
    have hlen : (headOf 1 []).length = 15 := by rw [head_len 1 [] (by decide)]; rfl
    rw [if_neg (by rw [hu, hlen]; show ¬ (room - ((0 : Nat) : Int) < ((15 : Nat) : Int)); omega), if_neg (by show ¬ (-1 : Int) = 0; decide)] at hw
    have e2 : ((Dr.new room).set 0 ⟨true, [], 0⟩).write 0 (headOf 1 []) = (0, ((Dr.new room).set 0 ⟨true, [], 0⟩).set 0 ⟨true, headOf 1 [], 0⟩) := hw
    have hs := sync_goes (D := ((Dr.new room).set 0 ⟨true, [], 0⟩).set 0 ⟨true, headOf 1 [], 0⟩) (n := 0) rfl (by decide) rfl
    rw [if_neg (by show ¬ (-1 : Int) = 0; decide)] at hs
    have e3 : (((Dr.new room).set 0 ⟨true, [], 0⟩).set 0 ⟨true, headOf 1 [], 0⟩).sync 0 = (0, (((Dr.new room).set 0 ⟨true, [], 0⟩).set 0 ⟨true, headOf 1 [], 0⟩).set 0 ((⟨true, headOf 1 [], 0⟩ : Pt).settle (headOf 1 []).length)) := hs
    unfold layF putF
    rw [e1]
    dsimp only
    rw [if_neg (by decide), e2]
    dsimp only
    rw [if_neg (by decide), e3]
    congr 1
    unfold Drm.Dr.set Pt.settle
    congr 1
    funext i
    by_cases hi : i = 0
    · simp [hi]
    · simp [hi]
  unfold openF
  rw [hn]
  dsimp only
  rw [hc]
  dsimp only
  rw [if_neg (by decide), if_pos rfl, hl]
  dsimp only
  rw [if_neg (by decide)]
  have hp : ((Dr.new room).set 0 ⟨true, headOf 1 [], (headOf 1 []).length⟩).p 0 = ⟨true, headOf 1 [], (headOf 1 []).length⟩ := Drm.Dr.set_same _ _ _
  refine ⟨_, rfl, ⟨by decide, by rw [hp], by rw [hp]; exact IsLog.head 1 [] (by decide) fit_nil, by rw [hp], fun i hi hi0 => ?_⟩, rfl, rfl, rfl, by rw [hp]⟩
  rw [Drm.Dr.set_other _ _ _ _ hi0]
  rfl

end Go.Proofs.Ytjjdmeemhgopbaa
