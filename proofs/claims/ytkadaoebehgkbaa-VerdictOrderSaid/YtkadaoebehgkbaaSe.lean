/-
  The program's set of transactions.
-/
import Derived.Test.YtkadaoebehgkbaaDv
namespace Go.Proofs.Ytkadaoebehgkbaa
open Go.RowKit

def tk (k : Int × Int) : Int × Int := k
def uz (_ : Int × Int) : Value := .agg #[]
abbrev SetAt (b : Nat) (S : List (Int × Int)) (w : World) : Prop := Gv.At tk uz b S w
theorem run_add {b : Nat} {S : List (Int × Int)} {w : World} (h : SetAt b S w) (c n : Int) : ∃ w' S', (Instr.mapUpdate 62 (.map (some b)) (.agg #[.int .u32 c, .int .u32 n]) (.agg #[])).run Try.prog w = .ok () w' ∧ SetAt b S' w' ∧ (∀ x, x ∈ S' ↔ x ∈ S ∨ x = (c, n)) ∧ Kept (fun i => i = b) w w' := by
  cases hg : S.find? (Gv.isK tk (tk (c, n))) with
  | none =>
    obtain ⟨w', h1, h2, h3, _⟩ := Gv.run_upd0 Try.underlying62 h (c, n) hg
    exact ⟨w', S ++ [(c, n)], h1, h2, fun x => by simp, h3⟩
  | some y =>
    obtain ⟨w', j, h1, h2, h3, h4, _⟩ := Gv.run_upd1 Try.underlying62 h (c, n) hg
    have hy : y = (c, n) := by
      have := List.find?_some hg
      exact of_decide_eq_true this
    subst hy
    rw [Gv.set_same h2] at h3
    refine ⟨w', S, h1, h3, fun x => ⟨.inl, ?_⟩, h4⟩
    rintro (e | e)
    · exact e
    · rw [e]
      exact List.mem_of_getElem? h2
theorem run_has {b : Nat} {S : List (Int × Int)} {w : World} (h : SetAt b S w) (c n : Int) : (Instr.lookup 62 (.map (some b)) (.agg #[.int .u32 c, .int .u32 n]) true).run Try.prog w = .ok (.tuple #[.agg #[], .bool (decide ((c, n) ∈ S))]) w := by
  show (Instr.lookup 62 (.map (some b)) (Gv.kx (c, n)) true).run Try.prog w = _
  obtain ⟨es, cl, h1, h2, _⟩ := h
  cases hg : S.find? (Gv.isK tk (c, n)) with
  | none =>
    have : (c, n) ∉ S := fun hm => by
      have := List.find?_eq_none.1 hg (c, n) hm
      simp [Gv.isK, tk] at this
    simp [Instr.lookup, run_underlying Try.underlying62, MapKept.run_getObj_map h1, Gv.run_check, Gv.run_findK (c, n) h2, Gv.idx_none (i := 0) hg, Result.andThen, this]
  | some t =>
    obtain ⟨j, g1, g2, g3⟩ := Gv.idx_some (i := 0) hg
    have : (c, n) ∈ S := by
      have e : t = (c, n) := g3
      rw [← e]
      exact List.mem_of_getElem? g2
    simp [Instr.lookup, run_underlying Try.underlying62, MapKept.run_getObj_map h1, Gv.run_check, Gv.run_findK (c, n) h2, g1, Result.andThen, this]
    rfl

set_option maxHeartbeats 800000 in
set_option maxRecDepth 100000 in
theorem setOf24 (L : List (Int × Int)) (v : Value) (w : World) (h : TsAt w.heap.size v L w) (hz : L.length * 8 ≤ 140737488355328) :
    Calls Try.prog 24 #[v] w fun e w' => ∃ sb S, e = .returned (.map (some sb)) ∧ SetAt sb S w' ∧ (∀ x, x ∈ S ↔ x ∈ L) ∧ w.heap.size ≤ sb ∧ Below w.heap.size w w' := by
  obtain ⟨ao, cap, rfl, hla, hma⟩ := h.shape
  have HA : Hid (∀ W, Below w.heap.size w W → ∀ i, i < L.length → ∃ b off, ao = some ⟨b, off, none⟩ ∧ W.cell? ⟨b, off + i * 2, none⟩ = some (.int .u32 (L.getD i dtx).1) ∧ W.cell? ⟨b, off + i * 2 + 1, none⟩ = some (.int .u32 (L.getD i dtx).2)) := fun W hW i hi => TsAt.el (RwAt.on h hW) hi
  have hL9 : L.length < 9223372036854775808 := by omega
  have HT : Hid (∀ m, m < L.length → ∀ x, x ∈ L.take (m + 1) ↔ x ∈ L.take m ∨ x = L.getD m dtx) := fun m hm x => by
    rw [List.take_succ_eq_append_getElem hm, List.mem_append, List.mem_singleton, show L.getD m dtx = L[m] from by simp [List.getD, hm]]
  have HE : Hid (∀ m, L.length ≤ m → L.take m = L) := fun m hm => List.take_of_length_le hm
  have hmm := @run_makeMap Try.prog
  have H0 : Hid (SetAt w.heap.size [] (w.alloc (.map #[] 0)) ∧ Below w.heap.size w (w.alloc (.map #[] 0))) := ⟨Gv.At.new w, al _⟩
  clear h hla hma hz
  obtain ⟨sb, hsb⟩ : ∃ sb, w.heap.size = sb := ⟨_, rfl⟩
  have HSB : Hid (w.heap.size = sb) := hsb
  rw [hsb] at H0
  go_enter Try.func24, Try.ntmps24
  go_wp2_with fail
  clear hsb hmm
  obtain ⟨W0, hW0⟩ : ∃ W0, w.alloc (.map #[] 0) = W0 := ⟨_, rfl⟩
  rw [hW0] at H0 ⊢
  clear hW0
  go_loopw [9] (fun i wr => ∃ m : Nat, m ≤ L.length ∧ i = .int .i64 m ∧ ∃ S, SetAt sb S wr ∧ (∀ x, x ∈ S ↔ x ∈ L.take m) ∧ Below w.heap.size w wr) (fun i _ => L.length - (intOf i).toNat)
  case atStart => exact ⟨0, Nat.zero_le _, rfl, [], H0.out.1, by simp, by have := H0.out.2; rwa [← HSB.out] at this⟩
  case round =>
    obtain ⟨m, hm, rfl, S, hS, hx, hbr⟩ := hrel
    have HR : Hid (SetAt sb S wr ∧ (∀ x, x ∈ S ↔ x ∈ L.take m) ∧ Below w.heap.size w wr) := ⟨hS, hx, hbr⟩
    clear hS hx hbr
    by_cases hml : m < L.length
    · obtain ⟨b, off, rfl, e0, e1⟩ := HA.out wr HR.out.2.2 m hml
      have hml' : (m : Int) < L.length := by omega
      have HX : Hid (∀ x, x ∈ L.take (m + 1) ↔ x ∈ L.take m ∨ x = L.getD m dtx) := HT.out m hml
      generalize L.getD m dtx = x at *
      obtain ⟨p, q⟩ := x
      dsimp only at e0 e1
      obtain ⟨W1, hW1⟩ : ∃ W1, wr.alloc (.cells #[.int .u32 p, .int .u32 q] 32) = W1 := ⟨_, rfl⟩
      have H1 : Hid (SetAt sb S W1 ∧ Below w.heap.size w W1) := by
        rw [← hW1]
        exact ⟨HR.out.1.on (al _), HR.out.2.2.alloc HR.out.2.2.size _⟩
      have hx1 : W1.heap[wr.heap.size]? = some (.cells #[.int .u32 p, .int .u32 q] 32 (0, 0)) := by rw [← hW1]; exact heap_alloc_new wr _
      have z0 : W1.cell? ⟨wr.heap.size, 0, none⟩ = some (.int .u32 p) := block_cell hx1 rfl
      have z1 : W1.cell? ⟨wr.heap.size, 1, none⟩ = some (.int .u32 q) := block_cell hx1 rfl
      obtain ⟨w2, S', hru, g1, g2, g3⟩ := run_add H1.out.1 p q
      have H2 : Hid (SetAt sb S' w2 ∧ (∀ x, x ∈ S' ↔ x ∈ S ∨ x = (p, q)) ∧ Kept (fun i => i = sb) W1 w2) := ⟨g1, g2, g3⟩
      clear g1 g2 g3 hx1
      go_wp2_with fail
      go_roundw
      case rel =>
        refine ⟨m + 1, by omega, by go_num, S', H2.out.1, fun x => ?_, H1.out.2.trans (H2.out.2.2.below H1.out.2.size (fun k e => by rw [e, ← HSB.out]; exact Nat.le_refl _))⟩
        rw [H2.out.2.1 x, HX.out x, HR.out.2.1 x]
      case measure => simp [intOf]; omega
    · have hml' : ¬ (m : Int) < L.length := by omega
      have HL : Hid (L.take m = L) := HE.out m (by omega)
      go_wp2_with fail
      go_ret
      have hxx := HR.out.2.1
      rw [HL.out] at hxx
      exact ⟨sb, rfl, S, HR.out.1, fun a b => hxx (a, b), Nat.le_of_eq HSB.out, HR.out.2.2⟩
end Go.Proofs.Ytkadaoebehgkbaa
