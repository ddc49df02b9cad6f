/-
  The laws' acts: a slice of acts among the arguments; are they small?
-/
import Derived.Test.YtjjdmeemhgopbaaApnd
namespace Go.Proofs.Ytjjdmeemhgopbaa
open Go.RowKit Go.Sort
open Drm (Dr Pt DrumAt DrumIn)

/-- An act: what is done, its number, its text, its list (and the slice that holds it), its keeps (and the slice that holds them). -/
structure Ac where
  what : Int
  n : Int
  text : List UInt8
  list : List (List UInt8)
  lv : Value
  keep : List Int
  kv : Value

def dflt : Ac := ⟨0, 0, [], [], .slice none 0 0, [], .slice none 0 0⟩

/-- A list of numbers among the arguments. -/
def ArgKeep (w : World) (kv : Value) (keep : List Int) : Prop :=
  ∃ ao cap, kv = .slice ao keep.length cap ∧ (0 < keep.length → ∃ kb ko, ao = some ⟨kb, ko, none⟩ ∧ ∀ i, i < keep.length → w.cell? ⟨kb, ko + i, none⟩ = some (.int .i64 (keep.getD i 0)))
theorem ArgKeep.at {w w' : World} {kv : Value} {keep : List Int} {pb : Nat} (h : ArgKeep w kv keep) (hb : Below w.heap.size w w') (hp : w.heap.size ≤ pb) : Drm.KeepAt pb kv keep w' := by
  obtain ⟨ao, cap, rfl, h⟩ := h
  refine ⟨ao, cap, rfl, fun h0 => ?_⟩
  obtain ⟨kb, ko, rfl, hc⟩ := h h0
  have hlt : kb < w.heap.size := World.block_lt_of_cell? _ _ (hc 0 h0)
  exact ⟨kb, ko, rfl, by omega, fun i hi => cell_below (hc i hi) hb hlt, .inl (by omega)⟩

/-- What an act's numbers keep to. -/
structure Ac.ok (c : Ac) : Prop where
  n0 : -9223372036854775808 ≤ c.n
  n1 : c.n ≤ 9223372036854775807
  keep : ∀ i, -9223372036854775808 ≤ c.keep.getD i 0 ∧ c.keep.getD i 0 ≤ 9223372036854775807
  len : c.keep.length ≤ 9223372036854775807

/-- Act i of the slice at b, off. -/
structure AcAt (w : World) (b off i : Nat) (c : Ac) : Prop where
  what : w.cell? ⟨b, off + i * 5, none⟩ = some (.int .i64 c.what)
  n : w.cell? ⟨b, off + i * 5 + 1, none⟩ = some (.int .i64 c.n)
  text : w.cell? ⟨b, off + i * 5 + 2, none⟩ = some (.string (bs c.text))
  list : w.cell? ⟨b, off + i * 5 + 3, none⟩ = some c.lv
  keep : w.cell? ⟨b, off + i * 5 + 4, none⟩ = some c.kv
  strs : ArgStrs c.lv c.list w
  keeps : ArgKeep w c.kv c.keep
theorem AcAt.on {w w' : World} {b off i : Nat} {c : Ac} (h : AcAt w b off i c) (hb : Below w.heap.size w w') : w'.cell? ⟨b, off + i * 5, none⟩ = some (.int .i64 c.what) ∧ w'.cell? ⟨b, off + i * 5 + 1, none⟩ = some (.int .i64 c.n) ∧ w'.cell? ⟨b, off + i * 5 + 2, none⟩ = some (.string (bs c.text)) ∧ w'.cell? ⟨b, off + i * 5 + 3, none⟩ = some c.lv ∧ w'.cell? ⟨b, off + i * 5 + 4, none⟩ = some c.kv := by
  have hlt : b < w.heap.size := World.block_lt_of_cell? _ _ h.what
  exact ⟨cell_below h.what hb hlt, cell_below h.n hb hlt, cell_below h.text hb hlt, cell_below h.list hb hlt, cell_below h.keep hb hlt⟩

theorem ArgKeep.on {w w' : World} {kv : Value} {keep : List Int} (h : ArgKeep w kv keep) (hb : Below w.heap.size w w') : ArgKeep w' kv keep := by
  obtain ⟨ao, cap, rfl, h⟩ := h
  refine ⟨ao, cap, rfl, fun h0 => ?_⟩
  obtain ⟨kb, ko, rfl, hc⟩ := h h0
  exact ⟨kb, ko, rfl, fun i hi => cell_below (hc i hi) hb (World.block_lt_of_cell? _ _ (hc i hi))⟩
theorem AcAt.later {w w' : World} {b off i : Nat} {c : Ac} (h : AcAt w b off i c) (hb : Below w.heap.size w w') : AcAt w' b off i c := by
  obtain ⟨h1, h2, h3, h4, h5⟩ := h.on hb
  exact ⟨h1, h2, h3, h4, h5, h.strs.on hb, h.keeps.on hb⟩

theorem five_cells {w : World} {b : Nat} {v0 v1 v2 v3 v4 : Value} {t : TypeId} (h : w.heap[b]? = some (.cells #[v0, v1, v2, v3, v4] t (0, 0))) :
    w.cell? ⟨b, 0, none⟩ = some v0 ∧ w.cell? ⟨b, 1, none⟩ = some v1 ∧ w.cell? ⟨b, 2, none⟩ = some v2 ∧ w.cell? ⟨b, 3, none⟩ = some v3 ∧ w.cell? ⟨b, 4, none⟩ = some v4 := by
  refine ⟨?_, ?_, ?_, ?_, ?_⟩ <;> simp [World.cell?, h]

set_option maxHeartbeats 1600000 in
set_option maxRecDepth 100000 in
theorem small10 (acts : List Ac) (ao : Option Addr) (b off cap : Nat) (w : World) (hao : 0 < acts.length → ao = some ⟨b, off, none⟩) (hcell : ∀ i, i < acts.length → AcAt w b off i (acts.getD i dflt)) (hn : acts.length < 9223372036854775807) :
    Calls Try.prog 10 #[.slice ao acts.length cap] w fun e w' => (∃ r, e = .returned (.bool r) ∧ (r = true → ∀ i, i < acts.length → (acts.getD i dflt).list.length ≤ 50)) ∧ Below w.heap.size w w' := by
  have HO : Hid (0 < acts.length → ao = some ⟨b, off, none⟩) := hao
  have HC : Hid (∀ i, i < acts.length → AcAt w b off i (acts.getD i dflt)) := hcell
  clear hao hcell
  obtain ⟨Q, hQ⟩ : ∃ Q : Ending → World → Prop, Q = fun e w' => (∃ r, e = .returned (.bool r) ∧ (r = true → ∀ i, i < acts.length → (acts.getD i dflt).list.length ≤ 50)) ∧ Below w.heap.size w w' := ⟨_, rfl⟩
  rw [← hQ]
  have HQ : Hid (∀ r w', (r = true → ∀ i, i < acts.length → (acts.getD i dflt).list.length ≤ 50) → Below w.heap.size w w' → Q (.returned (.bool r)) w') := fun r w' h1 h2 => by rw [hQ]; exact ⟨⟨r, rfl, h1⟩, h2⟩
  clear hQ
  go_enter Try.func10, Try.ntmps10
  go_wp2_with fail
  go_loopw [3, 10] (fun n i wr => ∃ (k : Nat) (m : Int), k ≤ acts.length ∧ i = .int .i64 k ∧ n = .int .i64 m ∧ (∀ j, j < k → (acts.getD j dflt).list.length ≤ 50) ∧ Below w.heap.size w wr) (fun _ i _ => acts.length - (intOf i).toNat)
  case atStart => exact ⟨0, 0, by omega, rfl, rfl, fun j hj => absurd hj (by omega), Below.refl _ _⟩
  case round =>
    obtain ⟨k, m, hk, rfl, rfl, hall, hB⟩ := hrel
    have HA : Hid (∀ j, j < k → (acts.getD j dflt).list.length ≤ 50) := hall
    have HB : Hid (Below w.heap.size w wr) := hB
    clear hall hB
    by_cases hlt : k < acts.length
    · obtain rfl := HO.out (by omega)
      obtain ⟨z0, z1, z2, z3, z4⟩ := (HC.out k hlt).on HB.out
      have HS : Hid (ArgStrs (acts.getD k dflt).lv (acts.getD k dflt).list w) := (HC.out k hlt).strs
      have HKp : Hid (ArgKeep w (acts.getD k dflt).kv (acts.getD k dflt).keep) := (HC.out k hlt).keeps
      have HK : Hid ((acts.getD k dflt).list.length ≤ 50 → ∀ j, j < k + 1 → (acts.getD j dflt).list.length ≤ 50) := fun h j hj => by
        by_cases hjk : j = k
        · subst hjk; exact h
        · exact HA.out j (by omega)
      have HKn : Hid (50 < (acts.getD k dflt).list.length → ¬ ∀ i, i < acts.length → (acts.getD i dflt).list.length ≤ 50) := fun h h2 => by have := h2 k hlt; omega
      generalize acts.getD k dflt = c at *
      obtain ⟨what, nn, text, list, lv, keep, kv⟩ := c
      dsimp only at z0 z1 z2 z3 z4 HS HK HKn HKp
      obtain ⟨al, cl1, rfl, _⟩ := HS.out
      obtain ⟨ka, kc, rfl, _⟩ := HKp.out
      have hts : (bs text).size = text.length := bs_size _
      have hbx : (wr.alloc (.cells #[.int .i64 what, .int .i64 nn, .string (bs text), .slice al list.length cl1, .slice ka keep.length kc] 43)).heap[wr.heap.size]? = some (.cells #[.int .i64 what, .int .i64 nn, .string (bs text), .slice al list.length cl1, .slice ka keep.length kc] 43 (0, 0)) := heap_alloc_new wr _
      obtain ⟨y0, y1, y2, y3, y4⟩ := five_cells hbx
      have HB2 : Hid (Below w.heap.size w (wr.alloc (.cells #[.int .i64 what, .int .i64 nn, .string (bs text), .slice al list.length cl1, .slice ka keep.length kc] 43))) := HB.out.alloc HB.out.size _
      clear hbx
      obtain ⟨m2, hm2⟩ : ∃ m2, IntKind.i64.wrap (m + text.length) = m2 := ⟨_, rfl⟩
      by_cases h1 : 60000 < m2
      · go_wp2_with fail
        exact HQ.out _ _ (fun h => absurd h (by decide)) HB2.out
      · by_cases h2 : 50 < list.length
        · have h2' : (50 : Int) < list.length := by omega
          go_wp2_with fail
          exact HQ.out _ _ (fun h => absurd h (by decide)) HB2.out
        · have h2' : ¬ (50 : Int) < list.length := by omega
          have HX : Hid _ := HK.out (by omega)
          go_wp2_with fail
          go_loop [3, 30] (fun n j => ∃ (q : Nat) (m3 : Int), q ≤ list.length ∧ j = .int .i64 q ∧ n = .int .i64 m3) (fun _ j => list.length - (intOf j).toNat)
          case atStart => exact ⟨0, m2, by omega, rfl, rfl⟩
          case round =>
            obtain ⟨q, m3, hq, rfl, rfl⟩ := hrel
            by_cases hql : q < list.length
            · obtain ⟨_, _, hsl, hx⟩ := HS.out.on HB2.out
              injection hsl with e1 _ e3
              subst e1
              subst e3
              obtain ⟨b2, o2, rfl, hc2⟩ := hx (by omega)
              have hcq := hc2 q hql
              have hsz : (bs (list.getD q [])).size = (list.getD q []).length := bs_size _
              clear hc2 hx
              generalize list.getD q [] = r at *
              go_wp2_with fail
              go_round
              case rel => exact ⟨q + 1, _, by omega, by go_num, rfl⟩
              case measure => simp [intOf]; omega
            · go_wp2_with fail
              go_roundw
              case rel => exact ⟨k + 1, _, by omega, by go_num, rfl, HX.out, HB2.out⟩
              case measure => simp [intOf]; omega
    · have HE : Hid (∀ i, i < acts.length → (acts.getD i dflt).list.length ≤ 50) := fun i hi => HA.out i (by omega)
      obtain ⟨r, hr⟩ : ∃ r, decide (m ≤ 60000) = r := ⟨_, rfl⟩
      go_wp2_with fail
      exact HQ.out _ _ (fun _ => HE.out) HB.out

end Go.Proofs.Ytjjdmeemhgopbaa
