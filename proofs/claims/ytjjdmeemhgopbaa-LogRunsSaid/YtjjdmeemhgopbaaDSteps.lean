/-
  Contracts of the steps: Lay, Cut, Trim, Write, Sync.
-/
import Derived.Test.YtjjdmeemhgopbaaDStep
namespace Go.Proofs.Ytjjdmeemhgopbaa.Drm
open Go.RowKit

set_option maxHeartbeats 400000 in
theorem lay11_nil (a : Int) (w : World) : Calls Try.prog 47 #[.pointer none, .int .i64 a] w fun e w' => e = .returned (.int .i64 11) ∧ w = w' := by
  go_enter Try.func47, Try.ntmps47
  go_wp2_with (go_at_call 49; refine (step31_nil _ _ _ _).mono ?_; rintro e w1 ⟨rfl, rfl⟩)
  go_ret
  exact ⟨rfl, rfl⟩

set_option maxHeartbeats 400000 in
theorem lay11 (pb : Nat) (D : Dr) (a : Int) (w : World) (hD : DrumAt pb D w) (hOk : D.Ok) : Calls Try.prog 47 #[.pointer (some ⟨pb, 0, none⟩), .int .i64 a] w fun e w' => e = .returned (.int .i64 (D.lay a).1) ∧ DrumAt pb (D.lay a).2 w' ∧ Kept pb w w' := by
  have HC : Hid (1 = 1 → Calls Try.prog 49 #[.pointer (some ⟨pb, 0, none⟩), .int .i64 a, .func (.func 70) #[] #[], .func (.func 71) #[] #[]] w fun e w' => e = .returned (.int .i64 (D.lay a).1) ∧ DrumAt pb (D.lay a).2 w' ∧ Kept pb w w') := fun _ => by
    obtain ⟨vs, hDi⟩ := id hD
    refine step31 pb D a 70 71 #[] #[] _ _ w hD hOk ent32 ent33 ?_ ?_
    · exact fun _ n hn => (lay32 pb (n * 3) _ w (hDi.there n hn)).mono fun e w' h => ⟨h.1, by rw [← h.2]; exact Below.refl _ _⟩
    · exact fun _ n hn _ w2 D2 h2 _ _ => lay33 pb D2 n w2 h2 hn
  clear hD hOk
  generalize D.lay a = r at *
  go_enter Try.func47, Try.ntmps47
  go_wp2_with (go_at_call 49; refine (HC.out (by trivial)).mono ?_; rintro e w1 ⟨rfl, h1, h2⟩; have H1 : Hid _ := And.intro h1 h2; clear h1 h2)
  go_ret
  exact ⟨rfl, H1.out⟩

set_option maxHeartbeats 400000 in
theorem cut38 (pb : Nat) (D : Dr) (a : Int) (w : World) (hD : DrumAt pb D w) (hOk : D.Ok) : Calls Try.prog 45 #[.pointer (some ⟨pb, 0, none⟩), .int .i64 a] w fun e w' => e = .returned (.int .i64 (D.cut a).1) ∧ DrumAt pb (D.cut a).2 w' ∧ Kept pb w w' := by
  have HC : Hid (1 = 1 → Calls Try.prog 49 #[.pointer (some ⟨pb, 0, none⟩), .int .i64 a, .func (.func 66) #[] #[], .func (.func 67) #[] #[]] w fun e w' => e = .returned (.int .i64 (D.cut a).1) ∧ DrumAt pb (D.cut a).2 w' ∧ Kept pb w w') := fun _ => by
    obtain ⟨vs, hDi⟩ := id hD
    refine step31 pb D a 66 67 #[] #[] _ _ w hD hOk ent43 ent44 ?_ ?_
    · exact fun _ n hn => (cut43 pb (n * 3) _ w (hDi.there n hn)).mono fun e w' h => ⟨h.1, by rw [← h.2]; exact Below.refl _ _⟩
    · exact fun _ n hn _ w2 D2 h2 _ _ => cut44 pb D2 n w2 h2 hn
  clear hD hOk
  generalize D.cut a = r at *
  go_enter Try.func45, Try.ntmps45
  go_wp2_with (go_at_call 49; refine (HC.out (by trivial)).mono ?_; rintro e w1 ⟨rfl, h1, h2⟩; have H1 : Hid _ := And.intro h1 h2; clear h1 h2)
  go_ret
  exact ⟨rfl, H1.out⟩

set_option maxHeartbeats 400000 in
theorem sync28 (pb : Nat) (D : Dr) (a : Int) (w : World) (hD : DrumAt pb D w) (hOk : D.Ok) : Calls Try.prog 62 #[.pointer (some ⟨pb, 0, none⟩), .int .i64 a] w fun e w' => e = .returned (.int .i64 (D.sync a).1) ∧ DrumAt pb (D.sync a).2 w' ∧ Kept pb w w' := by
  have HC : Hid (1 = 1 → Calls Try.prog 49 #[.pointer (some ⟨pb, 0, none⟩), .int .i64 a, .func (.func 79) #[] #[], .func (.func 80) #[] #[]] w fun e w' => e = .returned (.int .i64 (D.sync a).1) ∧ DrumAt pb (D.sync a).2 w' ∧ Kept pb w w') := fun _ => by
    obtain ⟨vs, hDi⟩ := id hD
    refine step31 pb D a 79 80 #[] #[] _ _ w hD hOk ent41 ent42 ?_ ?_
    · exact fun _ n hn => (sync41 pb (n * 3) _ w (hDi.there n hn)).mono fun e w' h => ⟨h.1, by rw [← h.2]; exact Below.refl _ _⟩
    · exact fun _ n hn _ w2 D2 h2 _ _ => sync42 pb D2 n w2 h2 hn
  clear hD hOk
  generalize D.sync a = r at *
  go_enter Try.func62, Try.ntmps62
  go_wp2_with (go_at_call 49; refine (HC.out (by trivial)).mono ?_; rintro e w1 ⟨rfl, h1, h2⟩; have H1 : Hid _ := And.intro h1 h2; clear h1 h2)
  go_ret
  exact ⟨rfl, H1.out⟩

/-- A block behind a new one. -/
theorem kept_new {pb : Nat} {w w' : World} {o : Obj} (hp : pb < w.heap.size) (h : Kept pb (w.alloc o) w') : Kept pb w w' :=
  ((Kept.refl pb w).alloc (Nat.le_of_lt hp) o).trans h

set_option maxHeartbeats 400000 in
theorem trim39 (pb : Nat) (D : Dr) (a n : Int) (w : World) (hD : DrumAt pb D w) (hOk : D.Ok) : Calls Try.prog 29 #[.pointer (some ⟨pb, 0, none⟩), .int .i64 a, .int .i64 n] w fun e w' => e = .returned (.int .i64 (D.trim a n).1) ∧ DrumAt pb (D.trim a n).2 w' ∧ Kept pb w w' := by
  have hlt := hD.lt
  have HC : Hid (1 = 1 → Calls Try.prog 49 #[.pointer (some ⟨pb, 0, none⟩), .int .i64 a, .func (.func 50) #[] #[.pointer (some ⟨w.heap.size, 0, none⟩)], .func (.func 52) #[] #[.pointer (some ⟨w.heap.size, 0, none⟩)]] (w.alloc (.cells #[.int .i64 n] 3)) fun e w' => e = .returned (.int .i64 (D.trim a n).1) ∧ DrumAt pb (D.trim a n).2 w' ∧ Kept pb w w') := fun _ => by
    have hD1 := hD.alloc (.cells #[.int .i64 n] 3)
    obtain ⟨vs, hDi⟩ := id hD1
    have hb : (w.alloc (.cells #[.int .i64 n] 3)).heap[w.heap.size]? = some (.cells #[.int .i64 n] 3 (0, 0)) := heap_alloc_new w _
    refine (step31 pb D a 50 52 _ _ _ _ _ hD1 hOk ent45 ent46 ?_ ?_).mono fun e w' h => ⟨h.1, h.2.1, kept_new hlt h.2.2⟩
    · exact fun _ k hk => (trim45 pb (k * 3) w.heap.size _ n _ (hDi.there k hk) (cell_of_one hb)).mono fun e w' h => ⟨h.1, by rw [← h.2]; exact Below.refl _ _⟩
    · intro _ k hk hr w2 D2 h2 _ hw
      have hn : 0 ≤ n := by
        rcases Int.lt_or_le n 0 with h | h
        · simp only [h, if_true] at hr
          split at hr <;> simp at hr
        · exact h
      obtain ⟨m, rfl⟩ := Int.eq_ofNat_of_zero_le hn
      exact trim46 pb D2 k w.heap.size m w2 h2 hk (cell_of_one (hw _ _ (by omega) hb))
  clear hD hOk
  generalize D.trim a n = r at *
  go_enter Try.func29, Try.ntmps29
  go_wp2_with (go_at_call 49; refine (HC.out (by trivial)).mono ?_; rintro e w1 ⟨rfl, h1, h2⟩; have H1 : Hid _ := And.intro h1 h2; clear h1 h2)
  go_ret
  exact ⟨rfl, H1.out⟩

set_option maxHeartbeats 400000 in
theorem write12_nil (a : Int) (s : ByteArray) (w : World) : Calls Try.prog 61 #[.pointer none, .int .i64 a, .string s] w fun e w' => e = .returned (.int .i64 11) ∧ Below w.heap.size w w' := by
  go_enter Try.func61, Try.ntmps61
  go_wp2_with (go_at_call 49; refine (step31_nil _ _ _ _).mono ?_; rintro e w1 ⟨rfl, rfl⟩)
  go_ret
  exact ⟨rfl, ((Below.refl _ _).alloc (Nat.le_refl _) _).alloc (by simp) _⟩

set_option maxHeartbeats 400000 in
theorem write12 (pb : Nat) (D : Dr) (a : Int) (s : List UInt8) (w : World) (hD : DrumAt pb D w) (hOk : D.Ok) : Calls Try.prog 61 #[.pointer (some ⟨pb, 0, none⟩), .int .i64 a, .string (bs s)] w fun e w' => e = .returned (.int .i64 (D.write a s).1) ∧ DrumAt pb (D.write a s).2 w' ∧ Kept pb w w' := by
  have hlt := hD.lt
  have HC : Hid (1 = 1 → Calls Try.prog 49 #[.pointer (some ⟨pb, 0, none⟩), .int .i64 a, .func (.func 77) #[] #[.pointer (some ⟨w.heap.size + 1, 0, none⟩), .pointer (some ⟨w.heap.size, 0, none⟩)], .func (.func 78) #[] #[.pointer (some ⟨w.heap.size + 1, 0, none⟩)]] ((w.alloc (.cells #[.pointer (some ⟨pb, 0, none⟩)] 24)).alloc (.cells #[.string (bs s)] 9)) fun e w' => e = .returned (.int .i64 (D.write a s).1) ∧ DrumAt pb (D.write a s).2 w' ∧ Kept pb w w') := fun _ => by
    have hD1 := (hD.alloc (.cells #[.pointer (some ⟨pb, 0, none⟩)] 24)).alloc (.cells #[.string (bs s)] 9)
    have hb : ((w.alloc (.cells #[.pointer (some ⟨pb, 0, none⟩)] 24)).alloc (.cells #[.string (bs s)] 9)).heap[w.heap.size]? = some (.cells #[.pointer (some ⟨pb, 0, none⟩)] 24 (0, 0)) := by
      rw [Below.heap_alloc _ _ _ (by simp)]
      exact heap_alloc_new w _
    have hs : ((w.alloc (.cells #[.pointer (some ⟨pb, 0, none⟩)] 24)).alloc (.cells #[.string (bs s)] 9)).heap[w.heap.size + 1]? = some (.cells #[.string (bs s)] 9 (0, 0)) := by
      have := heap_alloc_new (w.alloc (.cells #[.pointer (some ⟨pb, 0, none⟩)] 24)) (.cells #[.string (bs s)] 9)
      simpa using this
    refine (step31 pb D a 77 78 _ _ _ _ _ hD1 hOk ent34 ent35 ?_ ?_).mono fun e w' h => ⟨h.1, h.2.1, kept_new hlt (kept_new (by simp; omega) h.2.2)⟩
    · exact fun _ k hk => write34 pb D k (w.heap.size + 1) w.heap.size s _ hD1 hk hOk (cell_of_one hs) (cell_of_one hb)
    · intro _ k hk hr w2 D2 h2 hp hw
      have h1 := hOk.fits
      have h3 := hOk.room1
      have h4 := D.len_le_used k hk
      have h5 : ¬ (D.room - D.used < s.length) := by
        intro h
        rw [if_pos h] at hr
        split at hr <;> simp at hr
      exact write35 pb D2 k (w.heap.size + 1) s w2 h2 hk (cell_of_one (hw _ _ (by omega) hs)) (by rw [hp]; omega)
  clear hD hOk
  generalize D.write a s = r at *
  go_enter Try.func61, Try.ntmps61
  go_wp2_with (go_at_call 49; refine (HC.out (by trivial)).mono ?_; rintro e w1 ⟨rfl, h1, h2⟩; have H1 : Hid _ := And.intro h1 h2; clear h1 h2)
  go_ret
  exact ⟨rfl, H1.out⟩

end Go.Proofs.Ytjjdmeemhgopbaa.Drm
