/-
  Acts, verdicts among the arguments, opened.
-/
import Derived.Test.YtkadaoebehgkbaaAct
import Derived.ProofKit
import Derived.OpenShut
import Derived.Lib.SmallJoins
import Derived.SizedLaws
import Derived.ShutString
import Derived.Deep.Strs
namespace Go.Proofs.Ytkadaoebehgkbaa
open Go.ChangeShapes Go.WideShapes Go.ChangeAt Go.RowKit Go.Joins Go.Deep
namespace Opn
theorem own : ownKnob Try.prog.godebug = none := by kernel_rfl
theorem laidOut : laidOutB Try.prog = true := by kernel_rfl
theorem c3 : Try.prog.cellsOf 3 = 1 := by kernel_rfl
theorem c4 : Try.prog.cellsOf 4 = 1 := by kernel_rfl
theorem cu8 : Try.prog.cellsOf 5 = 1 := by kernel_rfl
theorem cu64 : Try.prog.cellsOf 33 = 1 := by kernel_rfl
theorem cu32 : Try.prog.cellsOf 30 = 1 := by kernel_rfl
theorem cTs : Try.prog.cellsOf 35 = 2 := by kernel_rfl
theorem cTxn : Try.prog.cellsOf 32 = 2 := by kernel_rfl
theorem cVd : Try.prog.cellsOf 37 = 8 := by kernel_rfl
theorem cTxs : Try.prog.cellsOf 38 = 1 := by kernel_rfl
theorem cAct : Try.prog.cellsOf 40 = 12 := by kernel_rfl
theorem bTxn : Try.prog.bytesOf 32 = 8 := by kernel_rfl

section
variable {H : Type} {enc : TypeId × Value → H} {w : World} {base : Nat} {spare : Nat → Bool} {held : Bool}

theorem struct5 {t : TypeId} {f0 f1 f2 f3 f4 : Field} {fuel : Nat} {cs : List Value} {x : DataW H × List MemPlace} (ht : Try.prog.underlying t = some (.struct #[f0, f1, f2, f3, f4])) (h : DataW.trod enc Try.prog w base spare held fuel t cs = some x) :
    ∃ y0 y1 y2 y3 y4 n, x.1 = .agg [y0.1, y1.1, y2.1, y3.1, y4.1] ∧ cs.length = Try.prog.cellsOf t ∧ DataW.trod enc Try.prog w base spare held n f0.type ((cs.drop f0.offset).take (Try.prog.cellsOf f0.type)) = some y0 ∧
      DataW.trod enc Try.prog w base spare held n f1.type ((cs.drop f1.offset).take (Try.prog.cellsOf f1.type)) = some y1 ∧ DataW.trod enc Try.prog w base spare held n f2.type ((cs.drop f2.offset).take (Try.prog.cellsOf f2.type)) = some y2 ∧
      DataW.trod enc Try.prog w base spare held n f3.type ((cs.drop f3.offset).take (Try.prog.cellsOf f3.type)) = some y3 ∧ DataW.trod enc Try.prog w base spare held n f4.type ((cs.drop f4.offset).take (Try.prog.cellsOf f4.type)) = some y4 := by
  obtain ⟨xs, n, _, rfl, hl, hlen, hf⟩ := DataW.trod_struct ht h
  match xs, hlen with
  | [y0, y1, y2, y3, y4], _ => exact ⟨y0, y1, y2, y3, y4, n, by simp, hl, by simpa using hf 0 f0 rfl, by simpa using hf 1 f1 rfl, by simpa using hf 2 f2 rfl, by simpa using hf 3 f3 rfl, by simpa using hf 4 f4 rfl⟩

theorem struct4 {t : TypeId} {f0 f1 f2 f3 : Field} {fuel : Nat} {cs : List Value} {x : DataW H × List MemPlace} (ht : Try.prog.underlying t = some (.struct #[f0, f1, f2, f3])) (h : DataW.trod enc Try.prog w base spare held fuel t cs = some x) :
    ∃ y0 y1 y2 y3 n, x.1 = .agg [y0.1, y1.1, y2.1, y3.1] ∧ cs.length = Try.prog.cellsOf t ∧ DataW.trod enc Try.prog w base spare held n f0.type ((cs.drop f0.offset).take (Try.prog.cellsOf f0.type)) = some y0 ∧
      DataW.trod enc Try.prog w base spare held n f1.type ((cs.drop f1.offset).take (Try.prog.cellsOf f1.type)) = some y1 ∧ DataW.trod enc Try.prog w base spare held n f2.type ((cs.drop f2.offset).take (Try.prog.cellsOf f2.type)) = some y2 ∧
      DataW.trod enc Try.prog w base spare held n f3.type ((cs.drop f3.offset).take (Try.prog.cellsOf f3.type)) = some y3 := by
  obtain ⟨xs, n, _, rfl, hl, hlen, hf⟩ := DataW.trod_struct ht h
  match xs, hlen with
  | [y0, y1, y2, y3], _ => exact ⟨y0, y1, y2, y3, n, by simp, hl, by simpa using hf 0 f0 rfl, by simpa using hf 1 f1 rfl, by simpa using hf 2 f2 rfl, by simpa using hf 3 f3 rfl⟩

theorem weights_all {P : Program} {e : TypeId} : ∀ {es : List (DataW H)} {d : DataW H}, d ∈ es → ∀ n ∈ d.weights P e, n ∈ DataW.weightsAll P e es := by
  intro es
  induction es with
  | nil => intro d h; simp at h
  | cons a r ih =>
    intro d h n hn
    simp only [DataW.weightsAll, List.mem_append]
    rcases List.mem_cons.1 h with rfl | h
    · exact .inl hn
    · exact .inr (ih h n hn)

theorem u32_rg {q : Int} (h : (Lit.int .u32 q).wf = true) : R32 q := by
  simp only [Lit.wf, Bool.and_eq_true, decide_eq_true_eq] at h
  have h1 : (IntKind.u32.min : Int) = 0 := by decide
  have h2 : (IntKind.u32.max : Int) = 4294967295 := by decide
  unfold R32
  omega
theorem u64_rg {q : Int} (h : (Lit.int .u64 q).wf = true) : R64 q := by
  simp only [Lit.wf, Bool.and_eq_true, decide_eq_true_eq] at h
  have h1 : (IntKind.u64.min : Int) = 0 := by decide
  have h2 : (IntKind.u64.max : Int) = 18446744073709551615 := by decide
  unfold R64
  omega
theorem u8_rg {q : Int} (h : (Lit.int .u8 q).wf = true) : R8 q := by
  simp only [Lit.wf, Bool.and_eq_true, decide_eq_true_eq] at h
  have h1 : (IntKind.u8.min : Int) = 0 := by decide
  have h2 : (IntKind.u8.max : Int) = 255 := by decide
  unfold R8
  omega
set_option maxRecDepth 100000 in
theorem ts_open {fuel : Nat} {cs : List Value} {x : DataW H × List MemPlace} (h : DataW.trod enc Try.prog w base spare held fuel 35 cs = some x) :
    ∃ p q : Int, cs = [.int .u64 p, .int .u32 q] ∧ R64 p ∧ R32 q := by
  obtain ⟨y0, y1, n, rfl, hl, h0, h1⟩ := trod_struct2 Try.underlying35 h
  rw [cTs] at hl
  match cs, hl with
  | [c0, c1], _ =>
    simp only [cu64, cu32, List.drop_zero, List.take_succ_cons, List.take_zero, List.drop_succ_cons] at h0 h1
    obtain ⟨p, e0, rfl, w0⟩ := DataW.trod_int Try.underlying33 h0
    obtain ⟨q, e1, rfl, w1⟩ := DataW.trod_int Try.underlying30 h1
    simp only [List.cons.injEq, and_true] at e0 e1
    subst e0 e1
    exact ⟨p, q, rfl, u64_rg w0, u32_rg w1⟩
set_option maxRecDepth 100000 in
theorem txn_open {fuel : Nat} {cs : List Value} {x : DataW H × List MemPlace} (h : DataW.trod enc Try.prog w base spare held fuel 32 cs = some x) :
    ∃ u : Int × Int, cs = txc u ∧ (R32 u.1 ∧ R32 u.2) ∧ ((∀ n ∈ x.1.weights Try.prog 32, n ≤ reachBytes) → True) := by
  obtain ⟨y0, y1, n, rfl, hl, h0, h1⟩ := trod_struct2 Try.underlying32 h
  rw [cTxn] at hl
  match cs, hl with
  | [c0, c1], _ =>
    simp only [cu32, List.drop_zero, List.take_succ_cons, List.take_zero, List.drop_succ_cons] at h0 h1
    obtain ⟨p, e0, rfl, w0⟩ := DataW.trod_int Try.underlying30 h0
    obtain ⟨q, e1, rfl, w1⟩ := DataW.trod_int Try.underlying30 h1
    simp only [List.cons.injEq, and_true] at e0 e1
    subst e0 e1
    exact ⟨(p, q), rfl, ⟨u32_rg w0, u32_rg w1⟩, fun _ => trivial⟩
set_option maxRecDepth 100000 in
theorem vd_open {fuel : Nat} {cs : List Value} {x : DataW H × List MemPlace} (h : DataW.trod enc Try.prog w base spare held fuel 37 cs = some x) : ∃ u : Vd, cs = vdc u ∧ RgV u ∧ ((∀ n ∈ x.1.weights Try.prog 37, n ≤ reachBytes) → True) := by
  obtain ⟨y0, y1, y2, y3, y4, m, -, hl, h0, h1, h2, h3, h4⟩ := struct5 Try.underlying37 h
  rw [cVd] at hl
  match cs, hl with
  | [k0, k1, k2, k3, k4, k5, k6, k7], _ =>
    simp only [cTxn, cTs, cu8, c4, List.drop_zero, List.take_succ_cons, List.take_zero, List.drop_succ_cons] at h0 h1 h2 h3 h4
    obtain ⟨⟨tc, tn⟩, e0, ⟨r0, r1⟩, -⟩ := txn_open h0
    obtain ⟨sp, sl, e1, r2, r3⟩ := ts_open h1
    obtain ⟨ap, al, e2, r4, r5⟩ := ts_open h2
    obtain ⟨pt, e3, -, w3⟩ := DataW.trod_int Try.underlying5 h3
    obtain ⟨dn, e4, -⟩ := DataW.trod_bool Try.underlying4 h4
    simp only [txc, List.cons.injEq, and_true] at e0 e1 e2 e3 e4
    obtain ⟨e0, e0'⟩ := e0
    obtain ⟨e1, e1'⟩ := e1
    obtain ⟨e2, e2'⟩ := e2
    subst e0 e0' e1 e1' e2 e2' e3 e4
    exact ⟨⟨tc, tn, sp, sl, ap, al, pt, dn⟩, rfl, ⟨r0, r1, r2, r3, r4, r5, u8_rg w3⟩, fun _ => trivial⟩
/-- A slice whose elements are read each as a plain thing of so many cells. -/
theorem row_open {α : Type} (d : α) (vc : α → List Value) (size : Nat) (hsz : 0 < size) (hvc : ∀ a, (vc a).length = size) {t e : TypeId} (ht : Try.prog.underlying t = some (.slice e)) (hce : Try.prog.cellsOf e = size)
    (P Q : α → Prop) (hel : ∀ {n : Nat} {cs : List Value} {x : DataW H × List MemPlace}, DataW.trod enc Try.prog w base (fun _ => true) held n e cs = some x → ∃ a, cs = vc a ∧ P a ∧ ((∀ n ∈ x.1.weights Try.prog e, n ≤ reachBytes) → Q a))
    {fuel : Nat} {v : Value} {x : DataW H × List MemPlace} (h : DataW.trod enc Try.prog w base (fun _ => true) held fuel t [v] = some x) :
    ∃ (L : List α) (ao : Option Addr) (cap : Nat), v = .slice ao L.length cap ∧ RwAt w.heap.size size (.slice ao L.length cap) L.length (L.flatMap vc) w ∧ (∀ a ∈ L, P a) ∧ ((∀ n ∈ x.1.weights Try.prog t, n ≤ reachBytes) → L.length * Try.prog.bytesOf e ≤ reachBytes ∧ ∀ a ∈ L, Q a) := by
  rcases open_slice ht h with ⟨hcs, _⟩ | ⟨a, len, cap, m, n, D, Pl, hcs, _, hl, hm, hmm, hd, hx⟩
  · simp at hcs
    subst hcs
    exact ⟨[], none, 0, rfl, RwAt.nil _ _ _, by simp, fun _ => ⟨by simp, by simp⟩⟩
  · simp at hcs
    subst hcs
    rw [hce] at hx
    obtain ⟨b, off, spot⟩ := a
    have hmc : m = cap := by rw [hmm]; rfl
    subst hmc
    have each : ∀ i, i < m → ∃ f : α, (P f ∧ ((∀ n ∈ (D i).weights Try.prog e, n ≤ reachBytes) → Q f)) ∧ (spot = none ∨ 0 < i) ∧ ∀ j u, (vc f)[j]? = some u → w.cell? ⟨b, off + i * size + j, none⟩ = some u := by
      intro i hi
      obtain ⟨cs', h1, h2⟩ := hx i (by omega)
      obtain ⟨c, rfl, hP⟩ := hel h2
      obtain ⟨_, _, hc⟩ := World.cells?_some h1
      have hsp : spot = none ∨ 0 < i := by
        by_cases hi0 : i = 0
        · left
          subst hi0
          have h0 := hc 0 hsz
          rw [show (vc c)[0]? = some ((vc c)[0]'(by rw [hvc]; exact hsz)) from List.getElem?_eq_getElem _] at h0
          simpa [Addr.add] using World.cell?_spot h0
        · right; omega
      have ha : (⟨b, off, spot⟩ : Addr).add (i * size) = ⟨b, off + i * size, none⟩ := by
        rcases hsp with rfl | h0
        · exact add_plain _ _ _
        · have : 0 < i * size := Nat.mul_pos h0 hsz
          simp [Addr.add]
          omega
      refine ⟨c, hP, hsp, fun j u hj => ?_⟩
      have hjl : j < size := by rw [← hvc c]; exact (List.getElem?_eq_some_iff.1 hj).1
      have := hc j hjl
      rw [ha, add_plain] at this
      rw [this]
      exact hj
    haveI : Inhabited α := ⟨d⟩
    obtain ⟨F, hF⟩ := choose_lt each
    have hlen : ((List.range len).map F).length = len := by simp
    have hfl : ∀ (n : Nat), (((List.range n).map F).flatMap vc).length = n * size := fun n => by
      induction n with
      | zero => simp
      | succ n ih => rw [List.range_succ, List.map_append, List.flatMap_append, List.length_append, ih]; simp [hvc, Nat.succ_mul]
    have hget : ∀ (n j : Nat) (u : Value), (((List.range n).map F).flatMap vc)[j]? = some u → ∃ i, i < n ∧ (vc (F i))[j - i * size]? = some u ∧ i * size ≤ j := fun n => by
      induction n with
      | zero => intro j u h; simp at h
      | succ n ih =>
        intro j u h
        rw [List.range_succ, List.map_append, List.flatMap_append] at h
        by_cases hj : j < n * size
        · rw [List.getElem?_append_left (by rw [hfl]; exact hj)] at h
          obtain ⟨i, hi, r⟩ := ih j u h
          exact ⟨i, by omega, r⟩
        · rw [List.getElem?_append_right (by rw [hfl]; omega), hfl] at h
          exact ⟨n, by omega, by simpa using h, by omega⟩
    refine ⟨(List.range len).map F, some ⟨b, off, spot⟩, m, by rw [hlen], ⟨some ⟨b, off, spot⟩, m, rfl, by rw [hlen]; exact hfl len, by rw [hlen]; exact hl, by unfold maxLen at hm; omega, fun h0 => ⟨b, off, ?_, ?_, ?_⟩⟩, ?_, ?_⟩
    · rcases (hF 0 (by omega)).2.1 with rfl | h1
      · rfl
      · omega
    · intro _
      have h1 : (vc (F 0))[0]? = some ((vc (F 0))[0]'(by rw [hvc]; exact hsz)) := List.getElem?_eq_getElem _
      exact World.block_lt_of_cell? _ _ ((hF 0 (by omega)).2.2 0 _ h1)
    · intro j u hj
      obtain ⟨i, hi, hu, hle⟩ := hget len j u hj
      have := (hF i (by omega)).2.2 _ u hu
      rw [show off + i * size + (j - i * size) = off + j from by omega] at this
      exact this
    · intro a ha
      obtain ⟨i, hi, rfl⟩ := List.mem_map.1 ha
      exact (hF i (by have := List.mem_range.1 hi; omega)).1.1
    · intro hw
      rw [hd] at hw
      simp only [DataW.weights, ht, List.mem_cons, List.mem_append] at hw
      refine ⟨?_, fun a ha => ?_⟩
      · have := hw _ (.inl rfl)
        rw [hlen]
        refine Nat.le_trans (Nat.mul_le_mul_right _ ?_) this
        simp
      · obtain ⟨i, hi, rfl⟩ := List.mem_map.1 ha
        have hi' := List.mem_range.1 hi
        exact (hF i (by omega)).1.2 (fun n hn => hw n (.inr (.inl (weights_all (d := D i) (List.mem_map.2 ⟨i, List.mem_range.2 hi', rfl⟩) _ hn))))
theorem txs_open {fuel : Nat} {v : Value} {x : DataW H × List MemPlace} (h : DataW.trod enc Try.prog w base (fun _ => true) held fuel 38 [v] = some x) : ∃ (L : List (Int × Int)) (ao : Option Addr) (cap : Nat), v = .slice ao L.length cap ∧ TsAt w.heap.size (.slice ao L.length cap) L w ∧ RgT L ∧ ((∀ n ∈ x.1.weights Try.prog 38, n ≤ reachBytes) → L.length * 8 ≤ reachBytes) := by
  obtain ⟨L, ao, cap, e, hr, h1, h2⟩ := row_open dtx txc 2 (by omega) (fun _ => rfl) Try.underlying38 cTxn (fun u => R32 u.1 ∧ R32 u.2) (fun _ => True) txn_open h
  exact ⟨L, ao, cap, e, hr, h1, fun hw => by have := (h2 hw).1; rwa [bTxn] at this⟩
theorem vds_open {fuel : Nat} {v : Value} {x : DataW H × List MemPlace} (h : DataW.trod enc Try.prog w base (fun _ => true) held fuel 27 [v] = some x) : ∃ (L : Bk) (ao : Option Addr) (cap : Nat), v = .slice ao L.length cap ∧ VsAt w.heap.size (.slice ao L.length cap) L w ∧ ∀ u ∈ L, RgV u := by
  obtain ⟨L, ao, cap, e, hr, h1, _⟩ := row_open dv vdc 8 (by omega) (fun _ => rfl) Try.underlying27 cVd RgV (fun _ => True) vd_open h
  exact ⟨L, ao, cap, e, hr, h1⟩
set_option maxRecDepth 100000 in
theorem act_open {fuel : Nat} {cs : List Value} {x : DataW H × List MemPlace} (h : DataW.trod enc Try.prog w base (fun _ => true) held fuel 40 cs = some x) : ∃ a : Ac, cs = acc a ∧ (TsAt w.heap.size (.slice a.ka a.keep.length a.kc) a.keep w ∧ RgV a.v ∧ (R64 a.sp ∧ R32 a.sl) ∧ RgT a.keep) ∧ ((∀ n ∈ x.1.weights Try.prog 40, n ≤ reachBytes) → (a.keep.length + 1) * 8 ≤ 140737488355328) := by
  obtain ⟨y0, y1, y2, y3, n, hx, hl, h0, h1, h2, h3⟩ := struct4 Try.underlying40 h
  rw [cAct] at hl
  match cs, hl with
  | [k0, k1, k2, k3, k4, k5, k6, k7, k8, k9, k10, k11], _ =>
    simp only [c3, cVd, cTs, cTxs, List.drop_zero, List.take_succ_cons, List.take_zero, List.drop_succ_cons] at h0 h1 h2 h3
    obtain ⟨q0, e0, _⟩ := DataW.trod_int Try.underlying3 h0
    obtain ⟨u, e1, ru, -⟩ := vd_open h1
    obtain ⟨sp, sl, e2, r2⟩ := ts_open h2
    obtain ⟨L, ka, kc, e3, hL, rL, wL⟩ := txs_open h3
    simp only [vdc, List.cons.injEq, and_true] at e0 e1 e2
    obtain ⟨e1a, e1b, e1c, e1d, e1e, e1f, e1g, e1h⟩ := e1
    obtain ⟨e2, e2'⟩ := e2
    subst e0 e1a e1b e1c e1d e1e e1f e1g e1h e2 e2' e3
    refine ⟨⟨q0, u, sp, sl, L, ka, kc⟩, rfl, ⟨hL, ru, r2, rL⟩, fun hw => ?_⟩
    have := wL (fun n hn => hw n (by
      rw [hx]
      simp only [DataW.weights, Try.underlying40]
      exact DataW.weights_mem_each (j := 3) (t := 38) (d := y3.1) rfl rfl _ hn))
    unfold reachBytes at this
    dsimp only
    omega
theorem acs_open {fuel : Nat} {v : Value} {x : DataW H × List MemPlace} (h : DataW.trod enc Try.prog w base (fun _ => true) held fuel 22 [v] = some x) (hw : ∀ n ∈ x.1.weights Try.prog 22, n ≤ reachBytes) : ∃ (L : List Ac) (ao : Option Addr) (cap : Nat), v = .slice ao L.length cap ∧ AcsAt w.heap.size (.slice ao L.length cap) L w := by
  obtain ⟨L, ao, cap, e, hr, h1, h2⟩ := row_open da acc 12 (by omega) (fun _ => rfl) Try.underlying22 cAct _ _ act_open h
  exact ⟨L, ao, cap, e, hr, fun a ha => ⟨(h1 a ha).1, (h1 a ha).2.1, (h1 a ha).2.2.1, (h1 a ha).2.2.2, (h2 hw).2 a ha⟩⟩
theorem act_ok {fuel : Nat} {cs : List Value} {x : DataW H × List MemPlace} (h : DataW.trod enc Try.prog w base (fun _ => true) held fuel 40 cs = some x) (hw : ∀ n ∈ x.1.weights Try.prog 40, n ≤ reachBytes) : ∃ a : Ac, cs = acc a ∧ AcOk w.heap.size a w := by
  obtain ⟨a, e, h1, h2⟩ := act_open h
  exact ⟨a, e, h1.1, h1.2.1, h1.2.2.1, h1.2.2.2, h2 hw⟩
end
end Opn
end Go.Proofs.Ytkadaoebehgkbaa
