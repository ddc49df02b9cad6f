/-
  Items in rows; the document's store in memory; chains behind items.
-/
import Derived.Test.YtcfhkggijdjagaaOAa
import Derived.Test.YtcfhkggijdjagaaCSame
import Derived.Test.YtcfhkggijdjagaaSt
namespace Go.Proofs.Ytcfhkggijdjagaa
open Go.RowKit

def dk : List UInt8 × Sv := ([], none, 0, 0)
def itc : Kv Sv → List Value
  | [] => []
  | x :: r => [Value.string (bs x.1), .slice x.2.1 x.2.2.1 x.2.2.2] ++ itc r
theorem itc_append (L R : Kv Sv) : itc (L ++ R) = itc L ++ itc R := by
  induction L with
  | nil => rfl
  | cons a L ih => simp [itc, ih]
theorem itc_length (L : Kv Sv) : (itc L).length = L.length * 2 := by
  induction L with
  | nil => rfl
  | cons a L ih => simp [itc, ih]; omega
theorem itc_one (L : Kv Sv) : ∀ u ∈ itc L, u.oneCell' = true := by
  induction L with
  | nil => intro u hu; simp [itc] at hu
  | cons a L ih =>
    intro u hu
    simp only [itc, List.cons_append, List.nil_append, List.mem_cons] at hu
    rcases hu with rfl | rfl | hu
    · rfl
    · rfl
    · exact ih u hu
theorem itc_key : ∀ (L : Kv Sv) (i : Nat), i < L.length → (itc L)[i * 2]? = some (.string (bs (L.getD i dk).1)) ∧ (itc L)[i * 2 + 1]? = some (.slice (L.getD i dk).2.1 (L.getD i dk).2.2.1 (L.getD i dk).2.2.2)
  | [], i, h => absurd h (by simp)
  | x :: r, 0, _ => ⟨rfl, rfl⟩
  | x :: r, i + 1, h => by
    have := itc_key r i (by simpa using h)
    simp only [itc, List.cons_append, List.nil_append]
    rw [show (i + 1) * 2 = i * 2 + 1 + 1 from by omega]
    simpa using this
theorem itc_take : ∀ (L : Kv Sv) (k : Nat), (itc L).take (k * 2) = itc (L.take k)
  | [], k => by simp [itc]
  | x :: r, 0 => by simp [itc]
  | x :: r, k + 1 => by
    have := itc_take r k
    rw [show (k + 1) * 2 = k * 2 + 1 + 1 from by omega]
    simp only [itc, List.cons_append, List.nil_append, List.take_succ_cons, this]
theorem itc_drop : ∀ (L : Kv Sv) (k : Nat), (itc L).drop (k * 2) = itc (L.drop k)
  | [], k => by simp [itc]
  | x :: r, 0 => by simp
  | x :: r, k + 1 => by
    have := itc_drop r k
    rw [show (k + 1) * 2 = k * 2 + 1 + 1 from by omega]
    simp only [itc, List.cons_append, List.nil_append, List.drop_succ_cons, this]
/-- The document's map: its box rb holds the slice sl, whose row is its own. -/
structure RefAt (B rb : Nat) (sl : Value) (L : Kv Sv) (w : World) : Prop where
  box : w.heap[rb]? = some (.cells #[sl] 29 (0, 0))
  row : w.ownsRow B 57 2 sl L.length (itc L)
  lo : B ≤ rb
  ne : sl.ownBlock ≠ some rb
  srt : Srt L
def foot (rb : Nat) (sl : Value) : Nat → Prop := fun k => k = rb ∨ sl.ownBlock = some k
theorem RefAt.lt {B rb : Nat} {sl : Value} {L : Kv Sv} {w : World} (h : RefAt B rb sl L w) {k : Nat} (hk : foot rb sl k) : B ≤ k ∧ k < w.heap.size := by
  rcases hk with rfl | hk
  · exact ⟨h.lo, (Array.getElem?_eq_some_iff.1 h.box).1⟩
  · exact World.ownsRow.lt h.row k hk
theorem RefAt.kept {B rb : Nat} {sl : Value} {L : Kv Sv} {w w' : World} {F : Nat → Prop} (h : RefAt B rb sl L w) (hk : Kept F w w') (hF : ∀ k, foot rb sl k → ¬ F k) : RefAt B rb sl L w' :=
  ⟨by rw [hk.block rb (h.lt (.inl rfl)).2 (hF rb (.inl rfl))]; exact h.box, own_kept h.row hk (fun k e => hF k (.inr e)), h.lo, h.ne, h.srt⟩
theorem RefAt.on {B rb : Nat} {sl : Value} {L : Kv Sv} {w w' : World} (h : RefAt B rb sl L w) (hb : Below w.heap.size w w') : RefAt B rb sl L w' := h.kept (F := fun _ => False) (Kept.of_below hb) (fun _ _ h => h)
theorem RefAt.cell {B rb : Nat} {sl : Value} {L : Kv Sv} {w : World} (h : RefAt B rb sl L w) : w.cell? ⟨rb, 0, none⟩ = some sl := by
  unfold World.cell?
  rw [h.box]
  rfl
theorem RefAt.frozen {B rb : Nat} {sl : Value} {L : Kv Sv} {w : World} (h : RefAt B rb sl L w) : w.frozen? ⟨rb, 0, none⟩ = false := by
  unfold World.frozen?
  rw [h.box]
  rfl
theorem RefAt.el {B rb : Nat} {ao : Option Addr} {cap : Nat} {L : Kv Sv} {w : World} (h : RefAt B rb (.slice ao L.length cap) L w) {i : Nat} (hi : i < L.length) : ∃ g, ao = some ⟨g, 0, none⟩ ∧ w.cell? ⟨g, i * 2, none⟩ = some (.string (bs (L.getD i dk).1)) ∧ w.cell? ⟨g, i * 2 + 1, none⟩ = some (.slice (L.getD i dk).2.1 (L.getD i dk).2.2.1 (L.getD i dk).2.2.2) := by
  rcases h.row.2 with ⟨_, h0⟩ | ⟨g, cap', cur, e, _, hg, _⟩
  · omega
  · simp only [Value.slice.injEq] at e
    obtain ⟨rfl, _, rfl⟩ := e
    obtain ⟨h1, h2⟩ := itc_key L i hi
    have c1 := World.ownsRow.cells h.row (g := g) rfl _ _ h1
    have c2 := World.ownsRow.cells h.row (g := g) rfl _ _ h2
    rw [Addr.add_lit, Nat.zero_add] at c1 c2
    exact ⟨g, rfl, c1, c2⟩
theorem RefAt.shape {B rb : Nat} {sl : Value} {L : Kv Sv} {w : World} (h : RefAt B rb sl L w) : ∃ ao cap, sl = .slice ao L.length cap ∧ L.length ≤ cap ∧ cap ≤ 9223372036854775807 := by
  obtain ⟨ao, cap, e, _, h1, h2, _⟩ := rw_own h.row
  exact ⟨ao, cap, e, h1, h2⟩
theorem getD_somek {L : Kv Sv} {i : Nat} (h : i < L.length) : L[i]? = some (L.getD i dk) := by simp [List.getD, h]


def svV (s : Sv) : Value := .slice s.1 s.2.1 s.2.2
/-- The chains of S lie at the slices of L. -/
def Chs (w : World) : Kv Sv → Sk → Prop
  | [], [] => True
  | (k, s) :: L, (q, c) :: S => k = q ∧ VsAt w.heap.size (svV s) c w ∧ Chs w L S
  | _, _ => False
/-- No version lies in the block. -/
def NoVe (w : World) (b : Nat) : Prop := ∀ off x, ¬ VeAt w b off x
theorem VeAt.kept {w w' : World} {G : Nat → Prop} {b off : Nat} {x : Ve} (h : VeAt w b off x) (hk : Kept G w w') (hG : ¬ G b) : VeAt w' b off x :=
  ⟨hk.cell h.c0 hG, hk.cell h.c1 hG, hk.cell h.c2 hG, hk.cell h.c3 hG, hk.cell h.c4 hG, hk.cell h.c5 hG⟩
/-- A chain stays where no block with a version is written. -/
theorem VsAt.kept {w w' : World} {G : Nat → Prop} {B : Nat} {v : Value} {C : List Ve} (h : VsAt B v C w) (hk : Kept G w w') (hG : ∀ k, G k → NoVe w k) : VsAt B v C w' := by
  obtain ⟨ao, cap, rfl, h1, h2, h3⟩ := h
  refine ⟨ao, cap, rfl, h1, h2, fun h0 => ?_⟩
  obtain ⟨b, off, rfl, hb, hc⟩ := h3 h0
  exact ⟨b, off, rfl, hb, fun i hi => (hc i hi).kept hk (fun hg => hG b hg _ _ (hc i hi))⟩
theorem Chs.kept {w w' : World} {G : Nat → Prop} (hk : Kept G w w') (hG : ∀ k, G k → NoVe w k) : ∀ {L : Kv Sv} {S : Sk}, Chs w L S → Chs w' L S
  | [], [], _ => trivial
  | (_, _) :: _, (_, _) :: _, h => ⟨h.1, (VsAt.kept h.2.1 hk hG).le hk.size, Chs.kept hk hG h.2.2⟩
theorem Chs.on {w w' : World} {L : Kv Sv} {S : Sk} (h : Chs w L S) (hb : Below w.heap.size w w') : Chs w' L S := Chs.kept (G := fun _ => False) (Kept.of_below hb) (fun _ h => h.elim) h
theorem Chs.len {w : World} : ∀ {L : Kv Sv} {S : Sk}, Chs w L S → L.length = S.length
  | [], [], _ => rfl
  | (_, _) :: _, (_, _) :: _, h => by simp [Chs.len h.2.2]
theorem Chs.map {w : World} : ∀ {L : Kv Sv} {S : Sk}, Chs w L S → L.map (·.1) = S.map (·.1)
  | [], [], _ => rfl
  | (_, _) :: _, (_, _) :: _, h => by simp [Chs.map h.2.2, h.1]
theorem Chs.at {w : World} : ∀ {L : Kv Sv} {S : Sk}, Chs w L S → ∀ (i : Nat), i < L.length → (L.getD i dk).1 = (S.getD i ([], [])).1 ∧ VsAt w.heap.size (svV (L.getD i dk).2) (S.getD i ([], [])).2 w
  | (k, s) :: L, (q, c) :: S, h, 0, _ => ⟨h.1, h.2.1⟩
  | (k, s) :: L, (q, c) :: S, h, i + 1, hi => by
    have := Chs.at h.2.2 i (by simpa using hi)
    simpa using this
theorem Chs.srt {w : World} {L : Kv Sv} {S : Sk} (h : Chs w L S) (hS : Srt S) : Srt L := by
  have h1 : (S.map (·.1)).Pairwise (fun a b => ltK a b = true) := List.pairwise_map.2 hS
  rw [← h.map] at h1
  exact List.pairwise_map.1 h1
/-- A block of fewer than six cells holds no version. -/
theorem noVe_small {w : World} {b : Nat} {cs : Array Value} {ty : TypeId} (h : w.heap[b]? = some (.cells cs ty (0, 0))) (hs : cs.size < 6) : NoVe w b := by
  intro off x hv
  have := hv.c5
  unfold World.cell? at this
  rw [h] at this
  have h2 : cs[off + 5]? = some (.bool x.dead) := this
  rw [Array.getElem?_eq_none (by omega)] at h2
  cases h2
end Go.Proofs.Ytcfhkggijdjagaa
