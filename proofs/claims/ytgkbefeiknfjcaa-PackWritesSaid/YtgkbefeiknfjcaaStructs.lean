/-
  How a stamp, a Cut and a Form read: their cells, one by one.
-/
import Derived.Test.YtgkbefeiknfjcaaRows
import Derived.ProofKit
import Derived.OpenShut
import Derived.Lib.SmallJoins
import Derived.SizedLaws
import Derived.ShutString
namespace Go.Proofs.Ytgkbefeiknfjcaa
open Go.ChangeShapes Go.WideShapes Go.ChangeAt Go.RowKit Go.Joins
open Go.ChangeMaps (open_string shut_string)

theorem c28 : Try.prog.cellsOf 28 = 1 := by kernel_rfl
theorem c29 : Try.prog.cellsOf 29 = 1 := by kernel_rfl
theorem c31 : Try.prog.cellsOf 31 = 2 := by kernel_rfl
theorem c33 : Try.prog.cellsOf 33 = 5 := by kernel_rfl
theorem c60 : Try.prog.cellsOf 60 = 5 := by kernel_rfl
theorem c9 : Try.prog.cellsOf 9 = 1 := by kernel_rfl
theorem c3 : Try.prog.cellsOf 3 = 1 := by kernel_rfl

section
variable {H : Type} {enc : TypeId × Value → H} {w : World} {base : Nat} {spare : Nat → Bool} {held : Bool}

theorem ts_open {fuel : Nat} {cs : List Value} {x : DataW H × List MemPlace} (h : DataW.trod enc Try.prog w base spare held fuel 31 cs = some x) :
    ∃ p q : Int, cs = [.int .u64 p, .int .u32 q] ∧ x = (.agg [.lit (.int .u64 p), .lit (.int .u32 q)], []) ∧ (Lit.int .u64 p).wf = true ∧ (Lit.int .u32 q).wf = true := by
  obtain ⟨y0, y1, n, rfl, hl, h0, h1⟩ := trod_struct2 Try.underlying31 h
  rw [c31] at hl
  match cs, hl with
  | [c0, c1], _ =>
    simp only [c28, c29, List.drop_zero, List.take_succ_cons, List.take_zero, List.drop_succ_cons] at h0 h1
    obtain ⟨p, e0, rfl, w0⟩ := DataW.trod_int Try.underlying28 h0
    obtain ⟨q, e1, rfl, w1⟩ := DataW.trod_int Try.underlying29 h1
    simp only [List.cons.injEq, and_true] at e0 e1
    subst e0 e1
    exact ⟨p, q, rfl, rfl, w0, w1⟩

theorem ts_shut {p q : Int} (h0 : (Lit.int .u64 p).wf = true) (h1 : (Lit.int .u32 q).wf = true) : DataW.trod enc Try.prog w base spare held 2 31 [.int .u64 p, .int .u32 q] = some (.agg [.lit (.int .u64 p), .lit (.int .u32 q)], []) :=
  trod_struct2_mk (n := 1) (y0 := (.lit (.int .u64 p), [])) (y1 := (.lit (.int .u32 q), [])) Try.underlying31 (by rw [c31]; rfl)
    (by simp [DataW.trod, Try.underlying28, c28, h0]) (by simp [DataW.trod, Try.underlying29, c29, h1])

theorem cut_open {fuel : Nat} {cs : List Value} {x : DataW H × List MemPlace} (h : DataW.trod enc Try.prog w base spare held fuel 60 cs = some x) :
    ∃ (n : Int) (s : ByteArray) (p q c : Int), cs = [.int .u64 n, .string s, .int .u64 p, .int .u32 q, .int .i64 c] ∧ x = (.agg [.lit (.int .u64 n), .lit (.string s.data.toList), .agg [.lit (.int .u64 p), .lit (.int .u32 q)], .lit (.int .i64 c)], []) ∧
      (Lit.int .u64 n).wf = true ∧ s.size ≤ maxLen ∧ (Lit.int .u64 p).wf = true ∧ (Lit.int .u32 q).wf = true ∧ (Lit.int .i64 c).wf = true := by
  obtain ⟨y0, y1, y2, y3, m, rfl, hl, h0, h1, h2, h3⟩ := trod_struct4 Try.underlying60 h
  rw [c60] at hl
  match cs, hl with
  | [k0, k1, k2, k3, k4], _ =>
    simp only [c28, c9, c31, c3, List.drop_zero, List.take_succ_cons, List.take_zero, List.drop_succ_cons] at h0 h1 h2 h3
    obtain ⟨n, e0, rfl, w0⟩ := DataW.trod_int Try.underlying28 h0
    obtain ⟨s, e1, rfl, w1⟩ := DataW.trod_string Try.underlying9 h1
    obtain ⟨p, q, e2, rfl, w2, w3⟩ := ts_open h2
    obtain ⟨c, e3, rfl, w4⟩ := DataW.trod_int Try.underlying3 h3
    simp only [List.cons.injEq, and_true] at e0 e1 e2 e3
    obtain ⟨e2, e4⟩ := e2
    subst e0 e1 e2 e3 e4
    exact ⟨n, s, p, q, c, rfl, rfl, w0, w1, w2, w3, w4⟩

theorem cut_shut {n p q c : Int} {s : ByteArray} (h0 : (Lit.int .u64 n).wf = true) (h1 : s.size ≤ maxLen) (h2 : (Lit.int .u64 p).wf = true) (h3 : (Lit.int .u32 q).wf = true) (h4 : (Lit.int .i64 c).wf = true) :
    DataW.trod enc Try.prog w base spare held 3 60 [.int .u64 n, .string s, .int .u64 p, .int .u32 q, .int .i64 c] = some (.agg [.lit (.int .u64 n), .lit (.string s.data.toList), .agg [.lit (.int .u64 p), .lit (.int .u32 q)], .lit (.int .i64 c)], []) :=
  trod_struct4_mk (n := 2) (y0 := (.lit (.int .u64 n), [])) (y1 := (.lit (.string s.data.toList), [])) (y2 := (.agg [.lit (.int .u64 p), .lit (.int .u32 q)], [])) (y3 := (.lit (.int .i64 c), [])) Try.underlying60 (by rw [c60]; rfl)
    (by simp [DataW.trod, Try.underlying28, c28, h0]) (by simp [DataW.trod, Try.underlying9, c9, h1]) (by simp only [c31, List.take_succ_cons, List.take_zero, List.drop_succ_cons, List.drop_zero]; exact ts_shut h2 h3) (by simp [DataW.trod, Try.underlying3, c3, h4])

theorem form_open {fuel : Nat} {cs : List Value} {x : DataW H × List MemPlace} (h : DataW.trod enc Try.prog w base spare held fuel 33 cs = some x) :
    ∃ (k n : Int) (s : ByteArray) (p q : Int), cs = [.int .i64 k, .int .u64 n, .string s, .int .u64 p, .int .u32 q] ∧ x = (.agg [.lit (.int .i64 k), .lit (.int .u64 n), .lit (.string s.data.toList), .agg [.lit (.int .u64 p), .lit (.int .u32 q)]], []) ∧
      (Lit.int .i64 k).wf = true ∧ (Lit.int .u64 n).wf = true ∧ s.size ≤ maxLen ∧ (Lit.int .u64 p).wf = true ∧ (Lit.int .u32 q).wf = true := by
  obtain ⟨y0, y1, y2, y3, m, rfl, hl, h0, h1, h2, h3⟩ := trod_struct4 Try.underlying33 h
  rw [c33] at hl
  match cs, hl with
  | [k0, k1, k2, k3, k4], _ =>
    simp only [c28, c9, c31, c3, List.drop_zero, List.take_succ_cons, List.take_zero, List.drop_succ_cons] at h0 h1 h2 h3
    obtain ⟨k, e0, rfl, w0⟩ := DataW.trod_int Try.underlying3 h0
    obtain ⟨n, e1, rfl, w1⟩ := DataW.trod_int Try.underlying28 h1
    obtain ⟨s, e2, rfl, w2⟩ := DataW.trod_string Try.underlying9 h2
    obtain ⟨p, q, e3, rfl, w3, w4⟩ := ts_open h3
    simp only [List.cons.injEq, and_true] at e0 e1 e2 e3
    obtain ⟨e3, e4⟩ := e3
    subst e0 e1 e2 e3 e4
    exact ⟨k, n, s, p, q, rfl, rfl, w0, w1, w2, w3, w4⟩
end
end Go.Proofs.Ytgkbefeiknfjcaa
