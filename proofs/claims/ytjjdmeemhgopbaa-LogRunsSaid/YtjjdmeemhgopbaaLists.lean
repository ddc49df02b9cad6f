/-
  Rows of texts that a call makes itself; contract of the document's Same at lists that are the same.
-/
import Derived.Test.YtjjdmeemhgopbaaRefNext
namespace Go.Proofs.Ytjjdmeemhgopbaa
open Go.RowKit Go.Sort

theorem info9 : (Try.prog.info? 9).map (fun i => (i.zero, i.size, i.bytes)) = some (some (.string ⟨#[]⟩), 1, 16) := by kernel_rfl

/-- The cells of these texts. -/
def sl (L : List (List UInt8)) : List Value := L.map fun p => Value.string (bs p)
theorem sl_length (L : List (List UInt8)) : (sl L).length = L.length := by simp [sl]
theorem sl_snoc (L : List (List UInt8)) (p : List UInt8) : sl (L ++ [p]) = sl L ++ [.string (bs p)] := by simp [sl]

/-- A row of the call's own that has the texts L. -/
def TxAt (B : Nat) (v : Value) (L : List (List UInt8)) (w : World) : Prop := w.ownsRow B 9 1 v L.length (sl L)

theorem tx_shape {B : Nat} {v : Value} {L : List (List UInt8)} {w : World} (h : TxAt B v L w) : ∃ ao cp, v = .slice ao L.length cp := by
  rcases h.2 with ⟨rfl, h0⟩ | ⟨g, cap, cur, rfl, _⟩
  · exact ⟨none, 0, by rw [h0]⟩
  · exact ⟨_, _, rfl⟩

theorem TxAt.on {B : Nat} {v : Value} {L : List (List UInt8)} {w w' : World} (h : TxAt B v L w) (hb : Below w.heap.size w w') : TxAt B v L w' := by
  refine ⟨h.1, ?_⟩
  rcases h.2 with h2 | ⟨g, cap, cur, hv, hg, hh, r⟩
  · exact .inl h2
  · exact .inr ⟨g, cap, cur, hv, hg, by rw [hb.block g (lt_of_block hh), hh], r⟩

theorem tx_nil (B : Nat) (w : World) : TxAt B (.slice none 0 0) [] w := World.ownsRow_nil _ _ _ _

/-- What is read of it. -/
theorem TxAt.cells {B : Nat} {v : Value} {L : List (List UInt8)} {w : World} (h : TxAt B v L w) : ∃ ao b off cp, v = .slice ao L.length cp ∧ (0 < L.length → ao = some ⟨b, off, none⟩) ∧ ∀ i, i < L.length → w.cell? ⟨b, off + i, none⟩ = some (.string (bs (L.getD i []))) := by
  have hh := h
  rcases h.2 with ⟨rfl, h0⟩ | ⟨g, cap, cur, rfl, _⟩
  · exact ⟨none, 0, 0, 0, by rw [h0], fun h => by omega, fun i hi => by omega⟩
  · refine ⟨_, g, 0, cap, rfl, fun _ => rfl, ?_⟩
    intro i hi
    have := World.ownsRow.cells hh (g := g) rfl i (.string (bs (L.getD i []))) (by simp [sl, List.getD, hi])
    rw [Nat.zero_add]
    simpa [Addr.add_lit] using this

theorem str_one (s : ByteArray) : ∀ u ∈ [Value.string s], u.oneCell' = true := by
  intro u hu
  simp at hu
  subst hu
  rfl

set_option maxHeartbeats 800000 in
theorem same16 (L : List (List UInt8)) (ao bo : Option Addr) (a aoff b boff ca cb : Nat) (w : World)
    (ha : 0 < L.length → ao = some ⟨a, aoff, none⟩) (hb : 0 < L.length → bo = some ⟨b, boff, none⟩)
    (hac : ∀ i, i < L.length → w.cell? ⟨a, aoff + i, none⟩ = some (.string (bs (L.getD i [])))) (hbc : ∀ i, i < L.length → w.cell? ⟨b, boff + i, none⟩ = some (.string (bs (L.getD i []))))
    (hL : L.length < 1048576) :
    Calls Try.prog 13 #[.slice ao L.length ca, .slice bo L.length cb] w fun e w' => e = .returned (.bool true) ∧ Below w.heap.size w w' := by
  have HA : Hid ((1 = 1 → 0 < L.length → ao = some ⟨a, aoff, none⟩) ∧ (1 = 1 → 0 < L.length → bo = some ⟨b, boff, none⟩)) := ⟨fun _ => ha, fun _ => hb⟩
  have HC : Hid ((∀ i, 1 = 1 → i < L.length → w.cell? ⟨a, aoff + i, none⟩ = some (.string (bs (L.getD i [])))) ∧ (∀ i, 1 = 1 → i < L.length → w.cell? ⟨b, boff + i, none⟩ = some (.string (bs (L.getD i []))))) := ⟨fun i _ => hac i, fun i _ => hbc i⟩
  clear ha hb hac hbc
  go_enter Try.func13, Try.ntmps13
  go_wp2_with fail
  go_loopw [5] (fun i wr => ∃ k : Nat, k ≤ L.length ∧ i = .int .i64 k ∧ ∃ n, wr = w.drewN n) (fun i _ => L.length - (intOf i).toNat)
  case atStart => exact ⟨0, Nat.zero_le _, rfl, 0, rfl⟩
  case round =>
    obtain ⟨k, hk, rfl, n, rfl⟩ := hrel
    by_cases hkl : k < L.length
    · obtain rfl := HA.out.1 (by trivial) (by omega)
      obtain rfl := HA.out.2 (by trivial) (by omega)
      have h1 := HC.out.1 k (by trivial) hkl
      have h2 := HC.out.2 k (by trivial) hkl
      generalize L.getD k [] = s at h1 h2
      have teq := beq_bs (a := s) rfl
      have hkl' : (k : Int) < L.length := by omega
      go_wp2_with fail
      go_quiet (fail)
      go_wp2
      go_roundw
      case rel => exact ⟨k + 1, by omega, by go_num, _, rfl⟩
      case measure => simp [intOf]; omega
    · have hkl' : ¬ (k : Int) < L.length := by omega
      go_wp2
      go_ret
      exact ⟨rfl, below_drewN (Below.refl _ _) _⟩

end Go.Proofs.Ytjjdmeemhgopbaa
