/-
  The document's answer: is a transaction one of these?
-/
import Derived.Test.YtkadaoebehgkbaaLf
namespace Go.Proofs.Ytkadaoebehgkbaa
open Go.RowKit

def txc (x : Int × Int) : List Value := [.int .u32 x.1, .int .u32 x.2]
theorem txc_len (x : Int × Int) : (txc x).length = 2 := rfl
def dtx : Int × Int := (0, 0)
/-- Transactions at a slice. -/
def TsAt (B : Nat) (v : Value) (L : List (Int × Int)) (w : World) : Prop := RwAt B 2 v L.length (rowC txc L) w
theorem TsAt.el {B : Nat} {ao : Option Addr} {cap : Nat} {L : List (Int × Int)} {w : World} (h : TsAt B (.slice ao L.length cap) L w) {i : Nat} (hi : i < L.length) : ∃ b off, ao = some ⟨b, off, none⟩ ∧ w.cell? ⟨b, off + i * 2, none⟩ = some (.int .u32 (L.getD i dtx).1) ∧ w.cell? ⟨b, off + i * 2 + 1, none⟩ = some (.int .u32 (L.getD i dtx).2) := by
  obtain ⟨b, off, e, hc⟩ := rowC_el txc_len dtx (by omega) rfl h hi
  exact ⟨b, off, e, hc 0 _ (by omega) rfl, hc 1 _ (by omega) rfl⟩
theorem TsAt.shape {B : Nat} {v : Value} {L : List (Int × Int)} {w : World} (h : TsAt B v L w) : ∃ ao cap, v = .slice ao L.length cap ∧ L.length ≤ cap ∧ cap ≤ 9223372036854775807 := by
  obtain ⟨ao, cap, e, _, h1, h2, _⟩ := h
  exact ⟨ao, cap, e, h1, h2⟩
theorem has_step {L : List (Int × Int)} {m : Nat} {c n : Int} (h : m < L.length) : (L.drop m).contains (c, n) = (((L.getD m dtx).1 == c && (L.getD m dtx).2 == n) || (L.drop (m + 1)).contains (c, n)) := by
  rw [List.drop_eq_getElem_cons h, show L.getD m dtx = L[m] from by simp [List.getD, h], List.contains_cons]
  congr 1
  generalize L[m] = x
  obtain ⟨a, b⟩ := x
  show ((c == a) && (n == b)) = ((a == c) && (b == n))
  rw [show (c == a) = (a == c) from BEq.comm, show (n == b) = (b == n) from BEq.comm]

set_option maxHeartbeats 800000 in
set_option maxRecDepth 100000 in
theorem among26 (B : Nat) (L : List (Int × Int)) (v : Value) (c n : Int) (w : World) (h : TsAt B v L w) (hB : B ≤ w.heap.size) :
    Calls Try.prog 30 #[v, .agg #[.int .u32 c, .int .u32 n]] w fun e w' => e = .returned (.bool (L.contains (c, n))) ∧ Below w.heap.size w w' := by
  obtain ⟨ao, cap, rfl, hla, hma⟩ := h.shape
  have HA : Hid (∀ W, Below w.heap.size w W → ∀ i, i < L.length → ∃ b off, ao = some ⟨b, off, none⟩ ∧ W.cell? ⟨b, off + i * 2, none⟩ = some (.int .u32 (L.getD i dtx).1) ∧ W.cell? ⟨b, off + i * 2 + 1, none⟩ = some (.int .u32 (L.getD i dtx).2)) := fun W hW i hi => TsAt.el (RwAt.on h (hW.mono hB)) hi
  have HS : Hid (∀ m, m < L.length → (L.drop m).contains (c, n) = (((L.getD m dtx).1 == c && (L.getD m dtx).2 == n) || (L.drop (m + 1)).contains (c, n))) := fun m hm => has_step hm
  have HZ : Hid (∀ m, L.length ≤ m → (L.drop m).contains (c, n) = false) := fun m hm => by rw [List.drop_eq_nil_of_le hm]; rfl
  have H0 : Hid ((L.drop 0).contains (c, n) = L.contains (c, n)) := rfl
  have hL9 : L.length < 9223372036854775808 := by omega
  have HX : Hid ((w.alloc (.cells #[.int .u32 c, .int .u32 n] 32)).heap[w.heap.size]? = some (.cells #[.int .u32 c, .int .u32 n] 32 (0, 0)) ∧ Below w.heap.size w (w.alloc (.cells #[.int .u32 c, .int .u32 n] 32))) := ⟨heap_alloc_new w _, al _⟩
  generalize L.contains (c, n) = y at *
  clear h hla hma hB
  go_enter Try.func30, Try.ntmps30
  go_wp2_with fail
  obtain ⟨W0, hW0⟩ : ∃ W0, w.alloc (.cells #[.int .u32 c, .int .u32 n] 32) = W0 := ⟨_, rfl⟩
  rw [hW0] at HX ⊢
  obtain ⟨bx, hbx⟩ : ∃ bx, w.heap.size = bx := ⟨_, rfl⟩
  have HBX : Hid (w.heap.size = bx) := hbx
  have HC : Hid (∀ W, Below W0.heap.size W0 W → W.cell? ⟨w.heap.size, 0, none⟩ = some (.int .u32 c) ∧ W.cell? ⟨w.heap.size, 1, none⟩ = some (.int .u32 n) ∧ Below w.heap.size w W) := fun W hb => by
    have hx : W.heap[w.heap.size]? = some (.cells #[.int .u32 c, .int .u32 n] 32 (0, 0)) := by rw [hb.block _ (Array.getElem?_eq_some_iff.1 HX.out.1).1]; exact HX.out.1
    exact ⟨block_cell hx rfl, block_cell hx rfl, HX.out.2.trans (hb.mono HX.out.2.size)⟩
  rw [hbx] at HC ⊢
  clear hbx hW0 HX
  go_loopw [5] (fun i wr => Below W0.heap.size W0 wr ∧ ∃ m : Nat, m ≤ L.length ∧ i = .int .i64 m ∧ (L.drop m).contains (c, n) = y) (fun i _ => L.length - (intOf i).toNat)
  case atStart => exact ⟨Below.refl _ _, 0, Nat.zero_le _, rfl, H0.out⟩
  case round =>
    obtain ⟨hbr, m, hm, rfl, hy⟩ := hrel
    have HBr : Hid _ := hbr
    obtain ⟨x0, x1, hbw⟩ := HC.out wr hbr
    have HBw : Hid (Below w.heap.size w wr) := by rw [HBX.out]; exact hbw
    by_cases hml : m < L.length
    · obtain ⟨b, off, rfl, e0, e1⟩ := HA.out wr HBw.out m hml
      have hml' : (m : Int) < L.length := by omega
      have hst := HS.out m hml
      rw [hy] at hst
      generalize L.getD m dtx = x at *
      obtain ⟨p, q⟩ := x
      dsimp only at e0 e1 hst
      have hq := run_eql32 p q c n
      generalize (p == c && q == n) = z at *
      have HF : Hid (wr.cell? ⟨bx, 0, none⟩ = some (.int .u32 c) ∧ wr.cell? ⟨bx, 1, none⟩ = some (.int .u32 n) ∧ wr.cell? ⟨b, off + m * 2, none⟩ = some (.int .u32 p) ∧ wr.cell? ⟨b, off + m * 2 + 1, none⟩ = some (.int .u32 q)) := ⟨x0, x1, e0, e1⟩
      clear hbr hbw hy
      go_upto_region 4 with fail
      go_region_held3 (fun W => W.cell? ⟨bx, 0, none⟩ = some (.int .u32 c) ∧ W.cell? ⟨bx, 1, none⟩ = some (.int .u32 n) ∧ W.cell? ⟨b, off + m * 2, none⟩ = some (.int .u32 p) ∧ W.cell? ⟨b, off + m * 2 + 1, none⟩ = some (.int .u32 q))
        (exact HF.out) (fail)
      rename_i hHeld
      clear hHeld x0 x1 e0 e1 hq HF
      cases z
      · have HY : Hid ((L.drop (m + 1)).contains (c, n) = y) := by show _ = _; rw [hst]; simp
        clear hst
        go_wp2_with fail
        go_roundw
        case rel => exact ⟨HBr.out.drew, m + 1, by omega, by go_num, HY.out⟩
        case measure => simp [intOf]; omega
      · have hy1 : y = true := by rw [hst]; simp
        subst hy1
        clear hst
        go_wp2_with fail
        go_ret
        exact ⟨rfl, HBw.out.drew⟩
    · have hml' : ¬ (m : Int) < L.length := by omega
      have hz := HZ.out m (by omega)
      rw [hy] at hz
      subst hz
      clear hbr hbw hy
      go_wp2_with fail
      go_ret
      exact ⟨rfl, HBw.out⟩
end Go.Proofs.Ytkadaoebehgkbaa
