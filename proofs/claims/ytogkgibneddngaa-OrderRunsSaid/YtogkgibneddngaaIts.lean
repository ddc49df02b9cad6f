/-
  Items and texts in rows; the document's map in memory; where a key has its place.
-/
import Derived.Test.YtogkgibneddngaaProg
import Derived.Test.YtogkgibneddngaaMany
import Derived.Test.YtogkgibneddngaaRw
namespace Go.Proofs.Ytogkgibneddngaa
open Go.RowKit

def itc : Kv → List Value
  | [] => []
  | x :: r => [Value.string (bs x.1), .int .i64 x.2] ++ itc r
theorem itc_append (L R : Kv) : itc (L ++ R) = itc L ++ itc R := by
  induction L with
  | nil => rfl
  | cons a L ih => simp [itc, ih]
theorem itc_length (L : Kv) : (itc L).length = L.length * 2 := by
  induction L with
  | nil => rfl
  | cons a L ih => simp [itc, ih]; omega
theorem itc_one (L : Kv) : ∀ u ∈ itc L, u.oneCell' = true := by
  induction L with
  | nil => intro u hu; simp [itc] at hu
  | cons a L ih =>
    intro u hu
    simp only [itc, List.cons_append, List.nil_append, List.mem_cons] at hu
    rcases hu with rfl | rfl | hu
    · rfl
    · rfl
    · exact ih u hu
theorem itc_key : ∀ (L : Kv) (i : Nat), i < L.length → (itc L)[i * 2]? = some (.string (bs (L.getD i dk).1)) ∧ (itc L)[i * 2 + 1]? = some (.int .i64 (L.getD i dk).2)
  | [], i, h => absurd h (by simp)
  | x :: r, 0, _ => ⟨rfl, rfl⟩
  | x :: r, i + 1, h => by
    have := itc_key r i (by simpa using h)
    simp only [itc, List.cons_append, List.nil_append]
    rw [show (i + 1) * 2 = i * 2 + 1 + 1 from by omega]
    simpa using this
theorem itc_take : ∀ (L : Kv) (k : Nat), (itc L).take (k * 2) = itc (L.take k)
  | [], k => by simp [itc]
  | x :: r, 0 => by simp [itc]
  | x :: r, k + 1 => by
    have := itc_take r k
    rw [show (k + 1) * 2 = k * 2 + 1 + 1 from by omega]
    simp only [itc, List.cons_append, List.nil_append, List.take_succ_cons, this]
theorem itc_drop : ∀ (L : Kv) (k : Nat), (itc L).drop (k * 2) = itc (L.drop k)
  | [], k => by simp [itc]
  | x :: r, 0 => by simp
  | x :: r, k + 1 => by
    have := itc_drop r k
    rw [show (k + 1) * 2 = k * 2 + 1 + 1 from by omega]
    simp only [itc, List.cons_append, List.nil_append, List.drop_succ_cons, this]
theorem itc_set : ∀ (L : Kv) (i : Nat) (k : List UInt8) (v : Int), i < L.length → (L.getD i dk).1 = k → (itc L).set (i * 2 + 1) (.int .i64 v) = itc (L.set i (k, v))
  | [], i, _, _, h, _ => absurd h (by simp)
  | x :: r, 0, k, v, _, e => by
    have e' : x.1 = k := by simpa using e
    subst e'
    rfl
  | x :: r, i + 1, k, v, h, e => by
    have := itc_set r i k v (by simpa using h) (by simpa using e)
    rw [show (i + 1) * 2 + 1 = i * 2 + 1 + 1 + 1 from by omega]
    simp only [itc, List.cons_append, List.nil_append, List.set_cons_succ, this]

/-- The document's map: its box rb holds the slice sl, whose row is its own. -/
structure RefAt (B rb : Nat) (sl : Value) (L : Kv) (w : World) : Prop where
  box : w.heap[rb]? = some (.cells #[sl] 29 (0, 0))
  row : w.ownsRow B 56 2 sl L.length (itc L)
  lo : B ≤ rb
  ne : sl.ownBlock ≠ some rb
  srt : Srt L
def foot (rb : Nat) (sl : Value) : Nat → Prop := fun k => k = rb ∨ sl.ownBlock = some k
theorem RefAt.lt {B rb : Nat} {sl : Value} {L : Kv} {w : World} (h : RefAt B rb sl L w) {k : Nat} (hk : foot rb sl k) : B ≤ k ∧ k < w.heap.size := by
  rcases hk with rfl | hk
  · exact ⟨h.lo, (Array.getElem?_eq_some_iff.1 h.box).1⟩
  · exact World.ownsRow.lt h.row k hk
theorem RefAt.kept {B rb : Nat} {sl : Value} {L : Kv} {w w' : World} {F : Nat → Prop} (h : RefAt B rb sl L w) (hk : Kept F w w') (hF : ∀ k, foot rb sl k → ¬ F k) : RefAt B rb sl L w' :=
  ⟨by rw [hk.block rb (h.lt (.inl rfl)).2 (hF rb (.inl rfl))]; exact h.box, own_kept h.row hk (fun k e => hF k (.inr e)), h.lo, h.ne, h.srt⟩
theorem RefAt.on {B rb : Nat} {sl : Value} {L : Kv} {w w' : World} (h : RefAt B rb sl L w) (hb : Below w.heap.size w w') : RefAt B rb sl L w' := h.kept (F := fun _ => False) (Kept.of_below hb) (fun _ _ h => h)
theorem RefAt.cell {B rb : Nat} {sl : Value} {L : Kv} {w : World} (h : RefAt B rb sl L w) : w.cell? ⟨rb, 0, none⟩ = some sl := by
  unfold World.cell?
  rw [h.box]
  rfl
theorem RefAt.frozen {B rb : Nat} {sl : Value} {L : Kv} {w : World} (h : RefAt B rb sl L w) : w.frozen? ⟨rb, 0, none⟩ = false := by
  unfold World.frozen?
  rw [h.box]
  rfl
theorem RefAt.el {B rb : Nat} {ao : Option Addr} {cap : Nat} {L : Kv} {w : World} (h : RefAt B rb (.slice ao L.length cap) L w) {i : Nat} (hi : i < L.length) : ∃ g, ao = some ⟨g, 0, none⟩ ∧ w.cell? ⟨g, i * 2, none⟩ = some (.string (bs (L.getD i dk).1)) ∧ w.cell? ⟨g, i * 2 + 1, none⟩ = some (.int .i64 (L.getD i dk).2) := by
  rcases h.row.2 with ⟨_, h0⟩ | ⟨g, cap', cur, e, _, hg, _⟩
  · omega
  · simp only [Value.slice.injEq] at e
    obtain ⟨rfl, _, rfl⟩ := e
    obtain ⟨h1, h2⟩ := itc_key L i hi
    have c1 := World.ownsRow.cells h.row (g := g) rfl _ _ h1
    have c2 := World.ownsRow.cells h.row (g := g) rfl _ _ h2
    rw [Addr.add_lit, Nat.zero_add] at c1 c2
    exact ⟨g, rfl, c1, c2⟩
theorem RefAt.shape {B rb : Nat} {sl : Value} {L : Kv} {w : World} (h : RefAt B rb sl L w) : ∃ ao cap, sl = .slice ao L.length cap ∧ L.length ≤ cap ∧ cap ≤ 9223372036854775807 := by
  obtain ⟨ao, cap, e, _, h1, h2, _⟩ := rw_own h.row
  exact ⟨ao, cap, e, h1, h2⟩
theorem bl (a b : List UInt8) : Op.bytesLess (bs a).toList (bs b).toList = ltK a b := by rw [bs_list, bs_list]; rfl
theorem getD_some {L : Kv} {i : Nat} (h : i < L.length) : L[i]? = some (L.getD i dk) := by simp [List.getD, h]

set_option maxHeartbeats 1600000 in
set_option maxRecDepth 100000 in
theorem place21 (B rb : Nat) (sl : Value) (L : Kv) (k : List UInt8) (w : World) (h : RefAt B rb sl L w) :
    Calls Try.prog 22 #[.pointer (some ⟨rb, 0, none⟩), .string (bs k)] w fun e w' => e = .returned (.tuple #[.int .i64 (placeN k L), .bool (thereB k L)]) ∧ Below w.heap.size w w' := by
  obtain ⟨ao, cap, rfl, hlc, hcm⟩ := h.shape
  have H : Hid (RefAt B rb (.slice ao L.length cap) L w) := h
  have c0 := h.cell
  have HM : Hid (L.length ≤ 9223372036854775807) := Nat.le_trans hlc hcm
  have HE : Hid (∀ i, i < L.length → ∃ g, ao = some ⟨g, 0, none⟩ ∧ w.cell? ⟨g, i * 2, none⟩ = some (.string (bs (L.getD i dk).1)) ∧ w.cell? ⟨g, i * 2 + 1, none⟩ = some (.int .i64 (L.getD i dk).2)) := fun i hi => h.el hi
  have HP : Hid (∀ m, m ≤ L.length → (∀ j, j < m → ltK (L.getD j dk).1 k = true) → (m < L.length → ltK (L.getD m dk).1 k = false) → placeN k L = m ∧ thereB k L = if m < L.length then (L.getD m dk).1 == k else false) := fun m hm h1 h2 => by
    have e : placeN k L = m := placeN_eq hm (fun j x hj hx => by rw [getD_some (by omega)] at hx; injection hx with hx; subst hx; exact h1 j hj) (fun x hx => by
      by_cases hml : m < L.length
      · rw [getD_some hml] at hx; injection hx with hx; subst hx; exact h2 hml
      · rw [List.getElem?_eq_none (by omega)] at hx; cases hx)
    refine ⟨e, ?_⟩
    unfold thereB
    rw [e]
    by_cases hml : m < L.length
    · rw [getD_some hml, if_pos hml]
    · rw [List.getElem?_eq_none (by omega), if_neg hml]
  clear h hlc hcm
  generalize placeN k L = pn at *
  generalize thereB k L = pb at *
  generalize hn : L.length = n at *
  clear hn
  go_enter Try.func22, Try.ntmps22
  go_wp2_with fail
  go_loopw [6] (fun i wr => ∃ m : Nat, m ≤ n ∧ i = .int .i64 m ∧ (∀ j, j < m → ltK (L.getD j dk).1 k = true) ∧ w = wr) (fun i _ => n - (intOf i).toNat)
  case atStart => exact ⟨0, Nat.zero_le _, rfl, fun j hj => absurd hj (by omega), rfl⟩
  case round =>
    obtain ⟨m, hm, rfl, hall, rfl⟩ := hrel
    have HA : Hid _ := hall
    clear hall
    by_cases hml : m < n
    · obtain ⟨g, rfl, e0, e1⟩ := HE.out m hml
      have HK : Hid (ltK (L.getD m dk).1 k = true → ∀ j, j < m + 1 → ltK (L.getD j dk).1 k = true) := fun h j hj => by
        by_cases hjm : j = m
        · subst hjm; exact h
        · exact HA.out j (by omega)
      have HQ : Hid (ltK (L.getD m dk).1 k = false → pn = m ∧ pb = ((L.getD m dk).1 == k)) := fun h => by
        obtain ⟨h1, h2⟩ := HP.out m hm HA.out (fun _ => h)
        rw [if_pos hml] at h2
        exact ⟨h1, h2⟩
      have h63 := HM.out
      generalize (L.getD m dk).1 = a at *
      have hbl := bl a k
      have hbe := bs_beq a k
      have hml' : (m : Int) < n := by omega
      obtain ⟨z, hz⟩ : ∃ z, ltK a k = z := ⟨_, rfl⟩
      rw [hz] at hbl
      have HZ : Hid _ := hz
      clear hz
      cases z
      · obtain ⟨q1, q2⟩ := HQ.out HZ.out
        obtain ⟨q, hq⟩ : ∃ q, (a == k) = q := ⟨_, rfl⟩
        rw [hq] at hbe q2
        have HP1 : Hid _ := q1
        have HP2 : Hid _ := q2
        clear q1 q2 hq HQ HK HA
        cases q
        all_goals
          go_wp2_with fail
          go_quiet (fail)
          go_wp2_with fail
          rw [HP1.out, HP2.out]
          refine bodyPost_ret (by simp [results, Try.results22, go_sem]; rfl) rfl ?_
          exact ⟨rfl, below_drewN (Below.refl _ _) _⟩
      · have HX : Hid _ := HK.out HZ.out
        clear HQ HK HA
        go_wp2_with fail
        go_roundw
        case rel => exact ⟨m + 1, by omega, by go_num, HX.out, by trivial⟩
        case measure => simp [intOf]; omega
    · obtain ⟨q1, q2⟩ := HP.out m hm HA.out (fun h => absurd h hml)
      rw [if_neg hml] at q2
      have HP1 : Hid _ := q1
      have HP2 : Hid _ := q2
      clear q1 q2 HA
      have hml' : ¬ (m : Int) < n := by omega
      go_wp2_with fail
      go_quiet (fail)
      go_wp2_with fail
      rw [HP1.out, HP2.out]
      refine bodyPost_ret (by simp [results, Try.results22, go_sem]; rfl) rfl ?_
      exact ⟨rfl, below_drewN (Below.refl _ _) _⟩
end Go.Proofs.Ytogkgibneddngaa
