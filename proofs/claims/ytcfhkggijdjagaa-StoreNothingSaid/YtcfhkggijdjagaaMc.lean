/-
  Order's map of chains: what a store made of it has in memory.
-/
import Derived.Test.YtcfhkggijdjagaaOAc
import Derived.Test.YtcfhkggijdjagaaIfs
namespace Go.Proofs.Ytcfhkggijdjagaa
open Go.RowKit

/-- A tree's blocks hold no version: they are too small. -/
theorem TrAt.noVe {w : World} {t : Tr} : TrAt nl t w → ∀ b ∈ t.blocks, NoVe w b := by
  induction t using Tr.ind with
  | nil =>
    intro _ b hb
    simp [Tr.blocks] at hb
  | node c l k v x r ihl ihr =>
    intro h b hb
    obtain ⟨h1, h2, h3⟩ := h
    simp only [Tr.blocks, List.mem_cons, List.mem_append] at hb
    rcases hb with rfl | hb | hb
    · exact noVe_small h1 (by simp [nl])
    · exact ihl h2 b hb
    · exact ihr h3 b hb
/-- The map behind q has the chains S. -/
structure Mc (B q : Nat) (t : Tr) (S : Sk) (w : World) : Prop where
  mp : Mp B q t w
  chs : Chs w t.toL S
  sok : SOk S
theorem Mc.noVe {B q : Nat} {t : Tr} {S : Sk} {w : World} (h : Mc B q t S w) : ∀ i, foot8 q t i → NoVe w i
  | i, .inl e => e ▸ noVe_small h.mp.box (by simp)
  | i, .inr e => TrAt.noVe h.mp.ok i e
theorem Mc.lt {B q : Nat} {t : Tr} {S : Sk} {w : World} (h : Mc B q t S w) : ∀ i, foot8 q t i → B ≤ i ∧ i < w.heap.size
  | _, .inl e => e ▸ ⟨h.mp.low.1, (Array.getElem?_eq_some_iff.1 h.mp.box).1⟩
  | i, .inr e => ⟨h.mp.low.2 i e, h.mp.ok.lt i e⟩
theorem Mc.kept {B q : Nat} {t : Tr} {S : Sk} {w w' : World} {G : Nat → Prop} (h : Mc B q t S w) (hk : Kept G w w') (h1 : ∀ i, foot8 q t i → ¬ G i) (hG : ∀ i, G i → NoVe w i) : Mc B q t S w' :=
  ⟨h.mp.kept hk (h1 q (.inl rfl)) (fun i hi => h1 i (.inr hi)), Chs.kept hk hG h.chs, h.sok⟩
theorem Mc.on {B q : Nat} {t : Tr} {S : Sk} {w w' : World} (h : Mc B q t S w) (hb : Below w.heap.size w w') : Mc B q t S w' := h.kept (G := fun _ => False) (Kept.of_below hb) (fun _ _ h => h) (fun _ h => h.elim)
theorem Mc.len {B q : Nat} {t : Tr} {S : Sk} {w : World} (h : Mc B q t S w) (ht : totS S < 10000) : t.toL.length = S.length ∧ S.length < 10000 := by
  have := len_tot h.sok.all
  exact ⟨h.chs.len, by omega⟩
theorem getF_isSome {w : World} (k : List UInt8) : ∀ {L : Kv Sv} {S : Sk}, Chs w L S → (getF k L).isSome = (getF k S).isSome
  | [], [], _ => rfl
  | (a, s) :: L, (b, c) :: S, h => by
    obtain ⟨rfl, h1, h2⟩ := h
    unfold getF
    by_cases e : (a == k) = true
    · rw [if_pos e, if_pos e]; rfl
    · rw [if_neg e, if_neg e]; exact getF_isSome k h2
theorem keysF_chs {w : World} {L : Kv Sv} {S : Sk} (h : Chs w L S) (lo hi : List UInt8) (limit : Int) : keysF lo hi limit L = keysF lo hi limit S := by
  unfold keysF rangeF
  rw [h.map]
theorem sok_set {S : Sk} {k : List UInt8} {c : List Ve} (h : SOk S) (hc : Ch c) (hne : c ≠ []) : SOk (setF k c S) := by
  refine ⟨setF_srt h.srt, fun x hx => ?_⟩
  rcases setF_keys hx with rfl | hx
  · exact ⟨hc, hne⟩
  · exact h.all x hx
theorem sok_cut {S : Sk} (h : SOk S) (k : List UInt8) : SOk (cutF k S) := ⟨cutF_srt h.srt, fun x hx => h.all x (cutF_sub hx)⟩
/-- What stands for a key: its chain's slice. -/
theorem mc_get {B q : Nat} {t : Tr} {S : Sk} {w : World} (k : List UInt8) (h : Mc B q t S w) : Calls Try.prog 54 #[.pointer (some ⟨q, 0, none⟩), .string (bs k)] w fun e w' => ∃ ao cap, e = .returned (.tuple #[.slice ao (chainF k S).length cap, .bool (getF k S).isSome]) ∧ VsAt w'.heap.size (.slice ao (chainF k S).length cap) (chainF k S) w' ∧ Below w.heap.size w w' := by
  refine (get13 k h.mp).mono ?_
  rintro e w' ⟨rfl, hb⟩
  have hv := Chs.get k h.chs
  obtain ⟨s, hs⟩ : ∃ s, (getF k t.toL).getD (none, 0, 0) = s := ⟨_, rfl⟩
  rw [hs] at hv ⊢
  have hl : s.2.1 = (chainF k S).length := by
    obtain ⟨ao, cap, e, _⟩ := hv
    simp only [svV, Value.slice.injEq] at e
    exact e.2.1
  rw [svV, hl] at hv
  rw [hl]
  exact ⟨_, _, by rw [getF_isSome k h.chs], (hv.on hb).le hb.size, hb⟩
theorem mc_len {B q : Nat} {t : Tr} {S : Sk} {w : World} (h : Mc B q t S w) : Calls Try.prog 60 #[.pointer (some ⟨q, 0, none⟩)] w fun e w' => e = .returned (.int .i64 S.length) ∧ Below w.heap.size w w' := by
  have := len15 h.mp
  rw [h.chs.len] at this
  exact this
theorem mc_keys {B q : Nat} {t : Tr} {S : Sk} {w : World} (lo hi : List UInt8) (limit : Int) (h : Mc B q t S w) (ht : totS S < 10000) : Calls Try.prog 44 #[.pointer (some ⟨q, 0, none⟩), .string (bs lo), .string (bs hi), .int .i64 limit] w fun e w' => ∃ v', e = .returned v' ∧ w'.ownsRow w.heap.size 9 1 v' (keysF lo hi limit S).length (kc (keysF lo hi limit S)) ∧ Below w.heap.size w w' := by
  have := keys17 lo hi limit h.mp (by have := h.len ht; omega)
  rw [keysF_chs h.chs] at this
  exact this
/-- What is left of the map when it has turned. -/
def McPost (B q : Nat) (t : Tr) (S : Sk) (w w' : World) : Prop := ∃ t', Mc B q t' S w' ∧ Kept (foot8 q t) w w' ∧ ∀ i, foot8 q t' i → foot8 q t i ∨ w.heap.size ≤ i
theorem mc_set {B q : Nat} {t : Tr} {S : Sk} {w : World} (k : List UInt8) {ao : Option Addr} {n cap : Nat} {c : List Ve} (h : Mc B q t S w) (ht : totS S < 10000) (hv : VsAt w.heap.size (.slice ao n cap) c w) (hc : Ch c) (hne : c ≠ []) : Calls Try.prog 31 #[.pointer (some ⟨q, 0, none⟩), .string (bs k), .slice ao n cap] w fun e w' => e = .returned (.tuple #[]) ∧ McPost B q t (setF k c S) w w' := by
  refine (set9 k (ao, n, cap) h.mp (by have := h.len ht; omega)).mono ?_
  rintro e w' ⟨rfl, F', ⟨t', h1, h2, rfl⟩, hk, hn⟩
  refine ⟨rfl, t', ⟨h1, ?_, sok_set h.sok hc hne⟩, hk, hn⟩
  have hG : ∀ i, foot8 q t i → NoVe w i := h.noVe
  rw [h2]
  exact Chs.set ((VsAt.kept hv hk hG).le hk.size) (Chs.kept hk hG h.chs)
theorem mc_cut {B q : Nat} {t : Tr} {S : Sk} {w : World} (k : List UInt8) (h : Mc B q t S w) (ht : totS S < 10000) : Calls Try.prog 38 #[.pointer (some ⟨q, 0, none⟩), .string (bs k)] w fun e w' => e = .returned (.bool (getF k S).isSome) ∧ McPost B q t (cutF k S) w w' := by
  refine (cut11 k h.mp (by have := h.len ht; omega)).mono ?_
  rintro e w' ⟨rfl, F', ⟨t', h1, h2, rfl⟩, hk, hn⟩
  refine ⟨by rw [getF_isSome k h.chs], t', ⟨h1, ?_, sok_cut h.sok k⟩, hk, hn⟩
  have hG : ∀ i, foot8 q t i → NoVe w i := h.noVe
  rw [h2]
  exact Chs.cut k (Chs.kept hk hG h.chs)
end Go.Proofs.Ytcfhkggijdjagaa
