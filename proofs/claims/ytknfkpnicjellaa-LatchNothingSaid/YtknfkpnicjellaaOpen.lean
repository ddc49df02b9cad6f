/-
  Acts, writes among the arguments, opened.
-/
import Derived.Test.YtknfkpnicjellaaAct
import Derived.ProofKit
import Derived.OpenShut
import Derived.Lib.SmallJoins
import Derived.SizedLaws
import Derived.ShutString
import Derived.Deep.Strs
namespace Go.Proofs.Ytknfkpnicjellaa
open Go.ChangeShapes Go.WideShapes Go.ChangeAt Go.RowKit Go.Joins Go.Deep
namespace Opn
theorem own : ownKnob Try.prog.godebug = none := by kernel_rfl
theorem laidOut : laidOutB Try.prog = true := by kernel_rfl
theorem c3 : Try.prog.cellsOf 3 = 1 := by kernel_rfl
theorem c4 : Try.prog.cellsOf 4 = 1 := by kernel_rfl
theorem c9 : Try.prog.cellsOf 9 = 1 := by kernel_rfl
theorem cu64 : Try.prog.cellsOf 33 = 1 := by kernel_rfl
theorem cu32 : Try.prog.cellsOf 30 = 1 := by kernel_rfl
theorem cTs : Try.prog.cellsOf 35 = 2 := by kernel_rfl
theorem cTxn : Try.prog.cellsOf 32 = 2 := by kernel_rfl
theorem cWs : Try.prog.cellsOf 36 = 1 := by kernel_rfl
theorem cTxs : Try.prog.cellsOf 37 = 1 := by kernel_rfl
theorem cWr : Try.prog.cellsOf 44 = 3 := by kernel_rfl
theorem cAct : Try.prog.cellsOf 39 = 12 := by kernel_rfl

section
variable {H : Type} {enc : TypeId × Value → H} {w : World} {base : Nat} {spare : Nat → Bool} {held : Bool}

theorem struct9 {t : TypeId} {f0 f1 f2 f3 f4 f5 f6 f7 f8 : Field} {fuel : Nat} {cs : List Value} {x : DataW H × List MemPlace} (ht : Try.prog.underlying t = some (.struct #[f0, f1, f2, f3, f4, f5, f6, f7, f8])) (h : DataW.trod enc Try.prog w base spare held fuel t cs = some x) :
    ∃ y0 y1 y2 y3 y4 y5 y6 y7 y8 n, cs.length = Try.prog.cellsOf t ∧ DataW.trod enc Try.prog w base spare held n f0.type ((cs.drop f0.offset).take (Try.prog.cellsOf f0.type)) = some y0 ∧ DataW.trod enc Try.prog w base spare held n f1.type ((cs.drop f1.offset).take (Try.prog.cellsOf f1.type)) = some y1 ∧ DataW.trod enc Try.prog w base spare held n f2.type ((cs.drop f2.offset).take (Try.prog.cellsOf f2.type)) = some y2 ∧ DataW.trod enc Try.prog w base spare held n f3.type ((cs.drop f3.offset).take (Try.prog.cellsOf f3.type)) = some y3 ∧ DataW.trod enc Try.prog w base spare held n f4.type ((cs.drop f4.offset).take (Try.prog.cellsOf f4.type)) = some y4 ∧ DataW.trod enc Try.prog w base spare held n f5.type ((cs.drop f5.offset).take (Try.prog.cellsOf f5.type)) = some y5 ∧ DataW.trod enc Try.prog w base spare held n f6.type ((cs.drop f6.offset).take (Try.prog.cellsOf f6.type)) = some y6 ∧ DataW.trod enc Try.prog w base spare held n f7.type ((cs.drop f7.offset).take (Try.prog.cellsOf f7.type)) = some y7 ∧ DataW.trod enc Try.prog w base spare held n f8.type ((cs.drop f8.offset).take (Try.prog.cellsOf f8.type)) = some y8 := by
  obtain ⟨xs, n, _, rfl, hl, hlen, hf⟩ := DataW.trod_struct ht h
  match xs, hlen with
  | [y0, y1, y2, y3, y4, y5, y6, y7, y8], _ => exact ⟨y0, y1, y2, y3, y4, y5, y6, y7, y8, n, hl, by simpa using hf 0 f0 rfl, by simpa using hf 1 f1 rfl, by simpa using hf 2 f2 rfl, by simpa using hf 3 f3 rfl, by simpa using hf 4 f4 rfl, by simpa using hf 5 f5 rfl, by simpa using hf 6 f6 rfl, by simpa using hf 7 f7 rfl, by simpa using hf 8 f8 rfl⟩
set_option maxRecDepth 100000 in
theorem ts_open {fuel : Nat} {cs : List Value} {x : DataW H × List MemPlace} (h : DataW.trod enc Try.prog w base spare held fuel 35 cs = some x) :
    ∃ p q : Int, cs = [.int .u64 p, .int .u32 q] ∧ 0 ≤ p ∧ 0 ≤ q := by
  obtain ⟨y0, y1, n, rfl, hl, h0, h1⟩ := trod_struct2 Try.underlying35 h
  rw [cTs] at hl
  match cs, hl with
  | [c0, c1], _ =>
    simp only [cu64, cu32, List.drop_zero, List.take_succ_cons, List.take_zero, List.drop_succ_cons] at h0 h1
    obtain ⟨p, e0, rfl, w0⟩ := DataW.trod_int Try.underlying33 h0
    obtain ⟨q, e1, rfl, w1⟩ := DataW.trod_int Try.underlying30 h1
    simp only [List.cons.injEq, and_true] at e0 e1
    subst e0 e1
    simp only [Lit.wf, Bool.and_eq_true, decide_eq_true_eq] at w0 w1
    exact ⟨p, q, rfl, Int.le_trans (by decide : (0 : Int) ≤ IntKind.u64.min) w0.1, Int.le_trans (by decide : (0 : Int) ≤ IntKind.u32.min) w1.1⟩
set_option maxRecDepth 100000 in
theorem txn_open {fuel : Nat} {cs : List Value} {x : DataW H × List MemPlace} (h : DataW.trod enc Try.prog w base spare held fuel 32 cs = some x) :
    ∃ u : Int × Int, cs = txc u ∧ True := by
  obtain ⟨y0, y1, n, rfl, hl, h0, h1⟩ := trod_struct2 Try.underlying32 h
  rw [cTxn] at hl
  match cs, hl with
  | [c0, c1], _ =>
    simp only [cu32, List.drop_zero, List.take_succ_cons, List.take_zero, List.drop_succ_cons] at h0 h1
    obtain ⟨p, e0, rfl, w0⟩ := DataW.trod_int Try.underlying30 h0
    obtain ⟨q, e1, rfl, w1⟩ := DataW.trod_int Try.underlying30 h1
    simp only [List.cons.injEq, and_true] at e0 e1
    subst e0 e1
    exact ⟨(p, q), rfl, trivial⟩
set_option maxRecDepth 100000 in
theorem wr_open {fuel : Nat} {cs : List Value} {x : DataW H × List MemPlace} (h : DataW.trod enc Try.prog w base spare held fuel 44 cs = some x) : ∃ u : Wr, cs = wrc u ∧ True := by
  obtain ⟨y0, y1, y2, m, rfl, hl, h0, h1, h2⟩ := trod_struct3 Try.underlying44 h
  rw [cWr] at hl
  match cs, hl with
  | [k0, k1, k2], _ =>
    simp only [c9, c4, List.drop_zero, List.take_succ_cons, List.take_zero, List.drop_succ_cons] at h0 h1 h2
    obtain ⟨s, e0, _⟩ := DataW.trod_string Try.underlying9 h0
    obtain ⟨t, e1, _⟩ := DataW.trod_string Try.underlying9 h1
    obtain ⟨d, e2, _⟩ := DataW.trod_bool Try.underlying4 h2
    simp only [List.cons.injEq, and_true] at e0 e1 e2
    subst e0 e1 e2
    exact ⟨⟨s.data.toList, t.data.toList, d⟩, by simp only [wrc, bs_of], trivial⟩
/-- A slice whose elements are read each as a plain thing of so many cells. -/
theorem row_open {α : Type} (d : α) (vc : α → List Value) (size : Nat) (hsz : 0 < size) (hvc : ∀ a, (vc a).length = size) {t e : TypeId} (ht : Try.prog.underlying t = some (.slice e)) (hce : Try.prog.cellsOf e = size)
    (P : α → Prop) (hel : ∀ {n : Nat} {cs : List Value} {x : DataW H × List MemPlace}, DataW.trod enc Try.prog w base (fun _ => true) held n e cs = some x → ∃ a, cs = vc a ∧ P a)
    {fuel : Nat} {v : Value} {x : DataW H × List MemPlace} (h : DataW.trod enc Try.prog w base (fun _ => true) held fuel t [v] = some x) :
    ∃ (L : List α) (ao : Option Addr) (cap : Nat), v = .slice ao L.length cap ∧ RwAt w.heap.size size (.slice ao L.length cap) L.length (L.flatMap vc) w ∧ ∀ a ∈ L, P a := by
  rcases open_slice ht h with ⟨hcs, _⟩ | ⟨a, len, cap, m, n, D, Pl, hcs, _, hl, hm, hmm, hd, hx⟩
  · simp at hcs
    subst hcs
    exact ⟨[], none, 0, rfl, RwAt.nil _ _ _, by simp⟩
  · simp at hcs
    subst hcs
    rw [hce] at hx
    obtain ⟨b, off, spot⟩ := a
    have hmc : m = cap := by rw [hmm]; rfl
    subst hmc
    have each : ∀ i, i < m → ∃ f : α, P f ∧ (spot = none ∨ 0 < i) ∧ ∀ j u, (vc f)[j]? = some u → w.cell? ⟨b, off + i * size + j, none⟩ = some u := by
      intro i hi
      obtain ⟨cs', h1, h2⟩ := hx i (by omega)
      obtain ⟨c, rfl, hP⟩ := hel h2
      obtain ⟨_, _, hc⟩ := World.cells?_some h1
      have hsp : spot = none ∨ 0 < i := by
        by_cases hi0 : i = 0
        · left
          subst hi0
          have h0 := hc 0 hsz
          rw [show (vc c)[0]? = some ((vc c)[0]'(by rw [hvc]; exact hsz)) from List.getElem?_eq_getElem _] at h0
          simpa [Addr.add] using World.cell?_spot h0
        · right; omega
      have ha : (⟨b, off, spot⟩ : Addr).add (i * size) = ⟨b, off + i * size, none⟩ := by
        rcases hsp with rfl | h0
        · exact add_plain _ _ _
        · have : 0 < i * size := Nat.mul_pos h0 hsz
          simp [Addr.add]
          omega
      refine ⟨c, hP, hsp, fun j u hj => ?_⟩
      have hjl : j < size := by rw [← hvc c]; exact (List.getElem?_eq_some_iff.1 hj).1
      have := hc j hjl
      rw [ha, add_plain] at this
      rw [this]
      exact hj
    haveI : Inhabited α := ⟨d⟩
    obtain ⟨F, hF⟩ := choose_lt each
    have hlen : ((List.range len).map F).length = len := by simp
    have hfl : ∀ (n : Nat), (((List.range n).map F).flatMap vc).length = n * size := fun n => by
      induction n with
      | zero => simp
      | succ n ih => rw [List.range_succ, List.map_append, List.flatMap_append, List.length_append, ih]; simp [hvc, Nat.succ_mul]
    have hget : ∀ (n j : Nat) (u : Value), (((List.range n).map F).flatMap vc)[j]? = some u → ∃ i, i < n ∧ (vc (F i))[j - i * size]? = some u ∧ i * size ≤ j := fun n => by
      induction n with
      | zero => intro j u h; simp at h
      | succ n ih =>
        intro j u h
        rw [List.range_succ, List.map_append, List.flatMap_append] at h
        by_cases hj : j < n * size
        · rw [List.getElem?_append_left (by rw [hfl]; exact hj)] at h
          obtain ⟨i, hi, r⟩ := ih j u h
          exact ⟨i, by omega, r⟩
        · rw [List.getElem?_append_right (by rw [hfl]; omega), hfl] at h
          exact ⟨n, by omega, by simpa using h, by omega⟩
    refine ⟨(List.range len).map F, some ⟨b, off, spot⟩, m, by rw [hlen], ⟨some ⟨b, off, spot⟩, m, rfl, by rw [hlen]; exact hfl len, by rw [hlen]; exact hl, by unfold maxLen at hm; omega, fun h0 => ⟨b, off, ?_, ?_, ?_⟩⟩, ?_⟩
    · rcases (hF 0 (by omega)).2.1 with rfl | h1
      · rfl
      · omega
    · intro _
      have h1 : (vc (F 0))[0]? = some ((vc (F 0))[0]'(by rw [hvc]; exact hsz)) := List.getElem?_eq_getElem _
      exact World.block_lt_of_cell? _ _ ((hF 0 (by omega)).2.2 0 _ h1)
    · intro j u hj
      obtain ⟨i, hi, hu, hle⟩ := hget len j u hj
      have := (hF i (by omega)).2.2 _ u hu
      rw [show off + i * size + (j - i * size) = off + j from by omega] at this
      exact this
    · intro a ha
      obtain ⟨i, hi, rfl⟩ := List.mem_map.1 ha
      exact (hF i (by have := List.mem_range.1 hi; omega)).1
theorem ws_open {fuel : Nat} {v : Value} {x : DataW H × List MemPlace} (h : DataW.trod enc Try.prog w base (fun _ => true) held fuel 36 [v] = some x) : ∃ (L : List Wr) (ao : Option Addr) (cap : Nat), v = .slice ao L.length cap ∧ WsAt w.heap.size (.slice ao L.length cap) L w := by
  obtain ⟨L, ao, cap, e, hr, _⟩ := row_open dw wrc 3 (by omega) (fun _ => rfl) Try.underlying36 cWr (fun _ => True) wr_open h
  exact ⟨L, ao, cap, e, hr⟩
theorem txs_open {fuel : Nat} {v : Value} {x : DataW H × List MemPlace} (h : DataW.trod enc Try.prog w base (fun _ => true) held fuel 37 [v] = some x) : ∃ (L : List (Int × Int)) (ao : Option Addr) (cap : Nat), v = .slice ao L.length cap ∧ TsAt w.heap.size (.slice ao L.length cap) L w := by
  obtain ⟨L, ao, cap, e, hr, _⟩ := row_open dtx txc 2 (by omega) (fun _ => rfl) Try.underlying37 cTxn (fun _ => True) txn_open h
  exact ⟨L, ao, cap, e, hr⟩
set_option maxRecDepth 100000 in
theorem act_open {fuel : Nat} {cs : List Value} {x : DataW H × List MemPlace} (h : DataW.trod enc Try.prog w base (fun _ => true) held fuel 39 cs = some x) : ∃ a : Ac, cs = acc a ∧ AcOk w.heap.size a w := by
  obtain ⟨y0, y1, y2, y3, y4, y5, y6, y7, y8, n, hl, h0, h1, h2, h3, h4, h5, h6, h7, h8⟩ := struct9 Try.underlying39 h
  rw [cAct] at hl
  match cs, hl with
  | [k0, k1, k2, k3, k4, k5, k6, k7, k8, k9, k10, k11], _ =>
    simp only [c3, c9, cTs, cTxn, cWs, cTxs, List.drop_zero, List.take_succ_cons, List.take_zero, List.drop_succ_cons] at h0 h1 h2 h3 h4 h5 h6 h7 h8
    obtain ⟨q0, e0, _⟩ := DataW.trod_int Try.underlying3 h0
    obtain ⟨⟨tc, tn⟩, e1, _⟩ := txn_open h1
    obtain ⟨sp, sl, e2, _⟩ := ts_open h2
    obtain ⟨mp, ml, e3, hst⟩ := ts_open h3
    obtain ⟨s, e4, _⟩ := DataW.trod_string Try.underlying9 h4
    obtain ⟨L, wa, wc, e5, hL⟩ := ws_open h5
    obtain ⟨lo, e6, _⟩ := DataW.trod_string Try.underlying9 h6
    obtain ⟨hi, e7, _⟩ := DataW.trod_string Try.underlying9 h7
    obtain ⟨U, ba, bc, e8, hU⟩ := txs_open h8
    simp only [txc, List.cons.injEq, and_true] at e0 e1 e2 e3 e4 e6 e7
    obtain ⟨e1, e1'⟩ := e1
    obtain ⟨e2, e2'⟩ := e2
    obtain ⟨e3, e3'⟩ := e3
    subst e0 e1 e1' e2 e2' e3 e3' e4 e5 e6 e7 e8
    exact ⟨⟨q0, tc, tn, sp, sl, mp, ml, s.data.toList, L, wa, wc, lo.data.toList, hi.data.toList, U, ba, bc⟩, by simp only [acc, bs_of], hL, hU, hst⟩
theorem acs_open {fuel : Nat} {v : Value} {x : DataW H × List MemPlace} (h : DataW.trod enc Try.prog w base (fun _ => true) held fuel 22 [v] = some x) : ∃ (L : List Ac) (ao : Option Addr) (cap : Nat), v = .slice ao L.length cap ∧ AcsAt w.heap.size (.slice ao L.length cap) L w := by
  obtain ⟨L, ao, cap, e, hr, hP⟩ := row_open da acc 12 (by omega) (fun _ => rfl) Try.underlying22 cAct (fun a => AcOk w.heap.size a w) act_open h
  exact ⟨L, ao, cap, e, hr, hP⟩
end
end Opn
end Go.Proofs.Ytknfkpnicjellaa
