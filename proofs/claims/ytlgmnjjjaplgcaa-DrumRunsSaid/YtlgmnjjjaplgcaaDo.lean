/-
  An act, by the program: the laws' own 'do'.
-/
import Derived.Test.YtlgmnjjjaplgcaaFuel
namespace Go.Proofs.Ytlgmnjjjaplgcaa
open Go.RowKit

/-- An act: what, of which area, a number, a text, a list. -/
structure Ac where
  what : Int
  area : Int
  n : Int
  text : List UInt8
  keep : List Int
  kv : Value

/-- What an act makes of a drum, and what it is answered. -/
def Dr.act (D : Dr) (c : Ac) : Int × Dr :=
  if c.what = 0 then D.lay c.area
  else if c.what = 1 then D.cut c.area
  else if c.what = 2 then D.trim c.area c.n
  else if c.what = 3 then D.write c.area c.text
  else if c.what = 4 then D.sync c.area
  else if c.what = 5 then (0, { D with fuel := c.n })
  else if c.what = 6 then (0, D.fall c.keep)
  else (0, D)

/-- An act whose numbers are a machine's. -/
structure Ac.ok (c : Ac) : Prop where
  n0 : -9223372036854775808 ≤ c.n
  n1 : c.n ≤ 9223372036854775807
  keep0 : ∀ i, -9223372036854775808 ≤ c.keep.getD i 0 ∧ c.keep.getD i 0 ≤ 9223372036854775807
  keep1 : c.keep.length ≤ 9223372036854775807

theorem Dr.Ok.act {D : Dr} (h : D.Ok) {c : Ac} (hc : c.ok) : (D.act c).2.Ok := by
  unfold Dr.act
  split
  · exact h.lay _
  split
  · exact h.cut _
  split
  · exact h.trim _ _
  split
  · exact h.write _ _
  split
  · exact h.sync _
  split
  · exact h.fuelled _ hc.n0 hc.n1
  split
  · exact h.fall _
  · exact h

/-- An act as a value. -/
def Ac.val (c : Ac) : Value := .agg #[.int .i64 c.what, .int .i64 c.area, .int .i64 c.n, .string (bs c.text), c.kv]
def Ac.cells (c : Ac) : Array Value := #[.int .i64 c.what, .int .i64 c.area, .int .i64 c.n, .string (bs c.text), c.kv]

set_option maxHeartbeats 1000000 in
theorem do22 (pb : Nat) (D : Dr) (c : Ac) (w : World) (hD : DrumAt pb D w) (hOk : D.Ok) (hc : c.ok) (hk : KeepAt pb c.kv c.keep w) :
    Calls Try.prog 22 #[.pointer (some ⟨pb, 0, none⟩), .agg #[.int .i64 c.what, .int .i64 c.area, .int .i64 c.n, .string (bs c.text), c.kv]] w fun e w' => e = .returned (.int .i64 (D.act c).1) ∧ DrumAt pb (D.act c).2 w' ∧ Kept pb w w' := by
  have hlt := hD.lt
  obtain ⟨what, area, n, text, keep, kv⟩ := c
  dsimp only at *
  obtain ⟨ao, cap, rfl, hkx⟩ := id hk
  clear hkx
  have HS : Hid (DrumAt pb D w ∧ D.Ok ∧ Ac.ok ⟨what, area, n, text, keep, .slice ao keep.length cap⟩ ∧ KeepAt pb (.slice ao keep.length cap) keep w) := ⟨hD, hOk, hc, hk⟩
  clear hD hOk hc hk
  by_cases h0 : what = 0
  · subst h0
    rw [show D.act ⟨0, area, n, text, keep, .slice ao keep.length cap⟩ = D.lay area from by simp [Dr.act]]
    go_enter Try.func22, Try.ntmps22
    go_wp2_with (go_at_call 11; refine (lay11 pb D area _ (HS.out.1.alloc _) HS.out.2.1).mono ?_; rintro e w1 ⟨rfl, h1, h2⟩; have H1 : Hid _ := And.intro h1 h2; clear h1 h2)
    go_ret
    exact ⟨rfl, H1.out.1, kept_new hlt H1.out.2⟩
  by_cases h1 : what = 1
  · subst h1
    rw [show D.act ⟨1, area, n, text, keep, .slice ao keep.length cap⟩ = D.cut area from by simp [Dr.act]]
    go_enter Try.func22, Try.ntmps22
    go_wp2_with (go_at_call 38; refine (cut38 pb D area _ (HS.out.1.alloc _) HS.out.2.1).mono ?_; rintro e w1 ⟨rfl, h1, h2⟩; have H1 : Hid _ := And.intro h1 h2; clear h1 h2)
    go_ret
    exact ⟨rfl, H1.out.1, kept_new hlt H1.out.2⟩
  by_cases h2 : what = 2
  · subst h2
    rw [show D.act ⟨2, area, n, text, keep, .slice ao keep.length cap⟩ = D.trim area n from by simp [Dr.act]]
    go_enter Try.func22, Try.ntmps22
    go_wp2_with (go_at_call 39; refine (trim39 pb D area n _ (HS.out.1.alloc _) HS.out.2.1).mono ?_; rintro e w1 ⟨rfl, h1, h2⟩; have H1 : Hid _ := And.intro h1 h2; clear h1 h2)
    go_ret
    exact ⟨rfl, H1.out.1, kept_new hlt H1.out.2⟩
  by_cases h3 : what = 3
  · subst h3
    rw [show D.act ⟨3, area, n, text, keep, .slice ao keep.length cap⟩ = D.write area text from by simp [Dr.act]]
    go_enter Try.func22, Try.ntmps22
    go_wp2_with (go_at_call 12; refine (write12 pb D area text _ (HS.out.1.alloc _) HS.out.2.1).mono ?_; rintro e w1 ⟨rfl, h1, h2⟩; have H1 : Hid _ := And.intro h1 h2; clear h1 h2)
    go_ret
    exact ⟨rfl, H1.out.1, kept_new hlt H1.out.2⟩
  by_cases h4 : what = 4
  · subst h4
    rw [show D.act ⟨4, area, n, text, keep, .slice ao keep.length cap⟩ = D.sync area from by simp [Dr.act]]
    go_enter Try.func22, Try.ntmps22
    go_wp2_with (go_at_call 28; refine (sync28 pb D area _ (HS.out.1.alloc _) HS.out.2.1).mono ?_; rintro e w1 ⟨rfl, h1, h2⟩; have H1 : Hid _ := And.intro h1 h2; clear h1 h2)
    go_ret
    exact ⟨rfl, H1.out.1, kept_new hlt H1.out.2⟩
  by_cases h5 : what = 5
  · subst h5
    rw [show D.act ⟨5, area, n, text, keep, .slice ao keep.length cap⟩ = (0, { D with fuel := n }) from by simp [Dr.act]]
    go_enter Try.func22, Try.ntmps22
    go_wp2_with (go_at_call 27; refine (fuel27 pb D n _ (HS.out.1.alloc _)).mono ?_; rintro e w1 ⟨rfl, h1, h2⟩; have H1 : Hid _ := And.intro h1 h2; clear h1 h2)
    go_ret
    exact ⟨rfl, H1.out.1, kept_new hlt H1.out.2⟩
  by_cases h6 : what = 6
  · subst h6
    rw [show D.act ⟨6, area, n, text, keep, .slice ao keep.length cap⟩ = (0, D.fall keep) from by simp [Dr.act]]
    go_enter Try.func22, Try.ntmps22
    go_wp2_with (go_at_call 26; refine (fall26 pb D _ keep _ (HS.out.1.alloc _) HS.out.2.1 (HS.out.2.2.2.kept ((Kept.refl _ _).alloc (Nat.le_of_lt hlt) _)) HS.out.2.2.1.keep0 HS.out.2.2.1.keep1).mono ?_; rintro e w1 ⟨rfl, h1, h2⟩; have H1 : Hid _ := And.intro h1 h2; clear h1 h2)
    go_ret
    exact ⟨rfl, H1.out.1, kept_new hlt H1.out.2⟩
  have HD : Hid (D.act ⟨what, area, n, text, keep, .slice ao keep.length cap⟩ = (0, D)) := by
    show _ = _
    simp [Dr.act, h0, h1, h2, h3, h4, h5, h6]
  rw [HD.out]
  have b0 : (what == 0) = false := by simp [h0]
  have b1 : (what == 1) = false := by simp [h1]
  have b2 : (what == 2) = false := by simp [h2]
  have b3 : (what == 3) = false := by simp [h3]
  have b4 : (what == 4) = false := by simp [h4]
  have b5 : (what == 5) = false := by simp [h5]
  have b6 : (what == 6) = false := by simp [h6]
  clear h0 h1 h2 h3 h4 h5 h6
  go_enter Try.func22, Try.ntmps22
  go_wp2
  go_ret
  exact ⟨rfl, HS.out.1.alloc _, (Kept.refl _ _).alloc (Nat.le_of_lt hlt) _⟩

end Go.Proofs.Ytlgmnjjjaplgcaa
