/-
  Texts, numbers, bytes, two numbers, writes among the arguments, opened.
-/
import Derived.Test.YtdiellljplcjfaaSpl
import Derived.ProofKit
import Derived.OpenShut
import Derived.Lib.SmallJoins
import Derived.SizedLaws
import Derived.ShutString
import Derived.Deep.Strs
namespace Go.Proofs.Ytdiellljplcjfaa
open Go.ChangeShapes Go.WideShapes Go.ChangeAt Go.RowKit Go.Joins Go.Deep
namespace Opn
theorem own : ownKnob Try.prog.godebug = none := by kernel_rfl
theorem laidOut : laidOutB Try.prog = true := by kernel_rfl
theorem c3 : Try.prog.cellsOf 3 = 1 := by kernel_rfl
theorem c4 : Try.prog.cellsOf 4 = 1 := by kernel_rfl
theorem cStr : Try.prog.cellsOf 9 = 1 := by kernel_rfl
theorem cTwo : Try.prog.cellsOf 22 = 2 := by kernel_rfl
theorem cWr : Try.prog.cellsOf 40 = 3 := by kernel_rfl
theorem bWr : Try.prog.bytesOf 40 = 40 := by kernel_rfl

section
variable {H : Type} {enc : TypeId × Value → H} {w : World} {base : Nat} {spare : Nat → Bool} {held : Bool}

theorem struct3 {t : TypeId} {f0 f1 f2 : Field} {fuel : Nat} {cs : List Value} {x : DataW H × List MemPlace} (ht : Try.prog.underlying t = some (.struct #[f0, f1, f2])) (h : DataW.trod enc Try.prog w base spare held fuel t cs = some x) :
    ∃ y0 y1 y2 n, x.1 = .agg [y0.1, y1.1, y2.1] ∧ cs.length = Try.prog.cellsOf t ∧ DataW.trod enc Try.prog w base spare held n f0.type ((cs.drop f0.offset).take (Try.prog.cellsOf f0.type)) = some y0 ∧ DataW.trod enc Try.prog w base spare held n f1.type ((cs.drop f1.offset).take (Try.prog.cellsOf f1.type)) = some y1 ∧ DataW.trod enc Try.prog w base spare held n f2.type ((cs.drop f2.offset).take (Try.prog.cellsOf f2.type)) = some y2 := by
  obtain ⟨xs, n, _, rfl, hl, hlen, hf⟩ := DataW.trod_struct ht h
  match xs, hlen with
  | [y0, y1, y2], _ => exact ⟨y0, y1, y2, n, by simp, hl, by simpa using hf 0 f0 rfl, by simpa using hf 1 f1 rfl, by simpa using hf 2 f2 rfl⟩
theorem weights_all {P : Program} {e : TypeId} : ∀ {es : List (DataW H)} {d : DataW H}, d ∈ es → ∀ n ∈ d.weights P e, n ∈ DataW.weightsAll P e es := by
  intro es
  induction es with
  | nil => intro d h; simp at h
  | cons a r ih =>
    intro d h n hn
    simp only [DataW.weightsAll, List.mem_append]
    rcases List.mem_cons.1 h with rfl | h
    · exact .inl hn
    · exact .inr (ih h n hn)
theorem nat_of {k : IntKind} {q : Int} (hk : k = .u8 ∨ k = .u32 ∨ k = .u64) (h : (Lit.int k q).wf = true) : ∃ n : Nat, q = n ∧ (k = .u8 → n < 256) ∧ (k = .u32 → n < 4294967296) ∧ (k = .u64 → n < 18446744073709551616) := by
  simp only [Lit.wf, Bool.and_eq_true, decide_eq_true_eq] at h
  rcases hk with rfl | rfl | rfl
  · have h1 : (IntKind.u8.min : Int) = 0 := by decide
    have h2 : (IntKind.u8.max : Int) = 255 := by decide
    exact ⟨q.toNat, by omega, fun _ => (by omega), fun h => (by cases h), fun h => (by cases h)⟩
  · have h1 : (IntKind.u32.min : Int) = 0 := by decide
    have h2 : (IntKind.u32.max : Int) = 4294967295 := by decide
    exact ⟨q.toNat, by omega, fun h => (by cases h), fun _ => (by omega), fun h => (by cases h)⟩
  · have h1 : (IntKind.u64.min : Int) = 0 := by decide
    have h2 : (IntKind.u64.max : Int) = 18446744073709551615 := by decide
    exact ⟨q.toNat, by omega, fun h => (by cases h), fun h => (by cases h), fun _ => by omega⟩
theorem i64_rg {q : Int} (h : (Lit.int .i64 q).wf = true) : -9223372036854775808 ≤ q ∧ q ≤ 9223372036854775807 := by
  simp only [Lit.wf, Bool.and_eq_true, decide_eq_true_eq] at h
  have h1 : (IntKind.i64.min : Int) = -9223372036854775808 := by decide
  have h2 : (IntKind.i64.max : Int) = 9223372036854775807 := by decide
  omega
theorem bs_self (s : ByteArray) : bs s.data.toList = s := by
  obtain ⟨d⟩ := s
  simp [bs]
theorem str_open {fuel : Nat} {cs : List Value} {x : DataW H × List MemPlace} (h : DataW.trod enc Try.prog w base spare held fuel 9 cs = some x) : ∃ l : List UInt8, cs = [.string (bs l)] ∧ ((∀ n ∈ x.1.weights Try.prog 9, n ≤ reachBytes) → l.length ≤ 140737488351232) := by
  obtain ⟨s, e0, rfl, _⟩ := DataW.trod_string Try.underlying9 h
  refine ⟨s.data.toList, by rw [bs_self]; exact e0, fun hw => ?_⟩
  have := hw s.data.toList.length (by simp [DataW.weights])
  unfold reachBytes at this
  omega
set_option maxRecDepth 100000 in
theorem wr_open {fuel : Nat} {cs : List Value} {x : DataW H × List MemPlace} (h : DataW.trod enc Try.prog w base spare held fuel 40 cs = some x) :
    ∃ u : Wr, cs = wrc u ∧ True ∧ ((∀ n ∈ x.1.weights Try.prog 40, n ≤ reachBytes) → u.key.length ≤ 140737488351232 ∧ u.val.length ≤ 140737488351232) := by
  obtain ⟨y0, y1, y2, n, hx, hl, h0, h1, h2⟩ := struct3 Try.underlying40 h
  rw [cWr] at hl
  match cs, hl with
  | [c0, c1, c2], _ =>
    simp only [cStr, c4, List.drop_zero, List.take_succ_cons, List.take_zero, List.drop_succ_cons] at h0 h1 h2
    obtain ⟨k, e0, w0⟩ := str_open h0
    obtain ⟨v, e1, w1⟩ := str_open h1
    obtain ⟨d, e2, -⟩ := DataW.trod_bool Try.underlying4 h2
    simp only [List.cons.injEq, and_true] at e0 e1 e2
    subst e0 e1 e2
    refine ⟨⟨k, v, d⟩, rfl, trivial, fun hw => ⟨w0 (fun n hn => hw n ?_), w1 (fun n hn => hw n ?_)⟩⟩
    · rw [hx]
      simp only [DataW.weights, Try.underlying40]
      exact DataW.weights_mem_each (j := 0) (t := 9) (d := y0.1) rfl rfl _ hn
    · rw [hx]
      simp only [DataW.weights, Try.underlying40]
      exact DataW.weights_mem_each (j := 1) (t := 9) (d := y1.1) rfl rfl _ hn
/-- A slice whose elements are read each as a plain thing of so many cells. -/
theorem row_open {α : Type} (d : α) (vc : α → List Value) (size : Nat) (hsz : 0 < size) (hvc : ∀ a, (vc a).length = size) {t e : TypeId} (ht : Try.prog.underlying t = some (.slice e)) (hce : Try.prog.cellsOf e = size)
    (P Q : α → Prop) (hel : ∀ {n : Nat} {cs : List Value} {x : DataW H × List MemPlace}, DataW.trod enc Try.prog w base (fun _ => true) held n e cs = some x → ∃ a, cs = vc a ∧ P a ∧ ((∀ n ∈ x.1.weights Try.prog e, n ≤ reachBytes) → Q a))
    {fuel : Nat} {v : Value} {x : DataW H × List MemPlace} (h : DataW.trod enc Try.prog w base (fun _ => true) held fuel t [v] = some x) :
    ∃ (L : List α) (ao : Option Addr) (cap : Nat), v = .slice ao L.length cap ∧ RwAt w.heap.size size (.slice ao L.length cap) L.length (L.flatMap vc) w ∧ (∀ a ∈ L, P a) ∧ ((∀ n ∈ x.1.weights Try.prog t, n ≤ reachBytes) → L.length * Try.prog.bytesOf e ≤ reachBytes ∧ ∀ a ∈ L, Q a) := by
  rcases open_slice ht h with ⟨hcs, _⟩ | ⟨a, len, cap, m, n, D, Pl, hcs, _, hl, hm, hmm, hd, hx⟩
  · simp at hcs
    subst hcs
    exact ⟨[], none, 0, rfl, RwAt.nil _ _ _, by simp, fun _ => ⟨by simp, by simp⟩⟩
  · simp at hcs
    subst hcs
    rw [hce] at hx
    obtain ⟨b, off, spot⟩ := a
    have hmc : m = cap := by rw [hmm]; rfl
    subst hmc
    have each : ∀ i, i < m → ∃ f : α, (P f ∧ ((∀ n ∈ (D i).weights Try.prog e, n ≤ reachBytes) → Q f)) ∧ (spot = none ∨ 0 < i) ∧ ∀ j u, (vc f)[j]? = some u → w.cell? ⟨b, off + i * size + j, none⟩ = some u := by
      intro i hi
      obtain ⟨cs', h1, h2⟩ := hx i (by omega)
      obtain ⟨c, rfl, hP⟩ := hel h2
      obtain ⟨_, _, hc⟩ := World.cells?_some h1
      have hsp : spot = none ∨ 0 < i := by
        by_cases hi0 : i = 0
        · left
          subst hi0
          have h0 := hc 0 hsz
          rw [show (vc c)[0]? = some ((vc c)[0]'(by rw [hvc]; exact hsz)) from List.getElem?_eq_getElem _] at h0
          simpa [Addr.add] using World.cell?_spot h0
        · right; omega
      have ha : (⟨b, off, spot⟩ : Addr).add (i * size) = ⟨b, off + i * size, none⟩ := by
        rcases hsp with rfl | h0
        · exact add_plain _ _ _
        · have : 0 < i * size := Nat.mul_pos h0 hsz
          simp [Addr.add]
          omega
      refine ⟨c, hP, hsp, fun j u hj => ?_⟩
      have hjl : j < size := by rw [← hvc c]; exact (List.getElem?_eq_some_iff.1 hj).1
      have := hc j hjl
      rw [ha, add_plain] at this
      rw [this]
      exact hj
    haveI : Inhabited α := ⟨d⟩
    obtain ⟨F, hF⟩ := choose_lt each
    have hlen : ((List.range len).map F).length = len := by simp
    have hfl : ∀ (n : Nat), (((List.range n).map F).flatMap vc).length = n * size := fun n => by
      induction n with
      | zero => simp
      | succ n ih => rw [List.range_succ, List.map_append, List.flatMap_append, List.length_append, ih]; simp [hvc, Nat.succ_mul]
    have hget : ∀ (n j : Nat) (u : Value), (((List.range n).map F).flatMap vc)[j]? = some u → ∃ i, i < n ∧ (vc (F i))[j - i * size]? = some u ∧ i * size ≤ j := fun n => by
      induction n with
      | zero => intro j u h; simp at h
      | succ n ih =>
        intro j u h
        rw [List.range_succ, List.map_append, List.flatMap_append] at h
        by_cases hj : j < n * size
        · rw [List.getElem?_append_left (by rw [hfl]; exact hj)] at h
          obtain ⟨i, hi, r⟩ := ih j u h
          exact ⟨i, by omega, r⟩
        · rw [List.getElem?_append_right (by rw [hfl]; omega), hfl] at h
          exact ⟨n, by omega, by simpa using h, by omega⟩
    refine ⟨(List.range len).map F, some ⟨b, off, spot⟩, m, by rw [hlen], ⟨some ⟨b, off, spot⟩, m, rfl, by rw [hlen]; exact hfl len, by rw [hlen]; exact hl, by unfold maxLen at hm; omega, fun h0 => ⟨b, off, ?_, ?_, ?_⟩⟩, ?_, ?_⟩
    · rcases (hF 0 (by omega)).2.1 with rfl | h1
      · rfl
      · omega
    · intro _
      have h1 : (vc (F 0))[0]? = some ((vc (F 0))[0]'(by rw [hvc]; exact hsz)) := List.getElem?_eq_getElem _
      exact World.block_lt_of_cell? _ _ ((hF 0 (by omega)).2.2 0 _ h1)
    · intro j u hj
      obtain ⟨i, hi, hu, hle⟩ := hget len j u hj
      have := (hF i (by omega)).2.2 _ u hu
      rw [show off + i * size + (j - i * size) = off + j from by omega] at this
      exact this
    · intro a ha
      obtain ⟨i, hi, rfl⟩ := List.mem_map.1 ha
      exact (hF i (by have := List.mem_range.1 hi; omega)).1.1
    · intro hw
      rw [hd] at hw
      simp only [DataW.weights, ht, List.mem_cons, List.mem_append] at hw
      refine ⟨?_, fun a ha => ?_⟩
      · have := hw _ (.inl rfl)
        rw [hlen]
        refine Nat.le_trans (Nat.mul_le_mul_right _ ?_) this
        simp
      · obtain ⟨i, hi, rfl⟩ := List.mem_map.1 ha
        have hi' := List.mem_range.1 hi
        exact (hF i (by omega)).1.2 (fun n hn => hw n (.inr (.inl (weights_all (d := D i) (List.mem_map.2 ⟨i, List.mem_range.2 hi', rfl⟩) _ hn))))
theorem ws_open {fuel : Nat} {v : Value} {x : DataW H × List MemPlace} (h : DataW.trod enc Try.prog w base (fun _ => true) held fuel 36 [v] = some x) : ∃ (L : List Wr) (ao : Option Addr) (cap : Nat), v = .slice ao L.length cap ∧ WsAt w.heap.size (.slice ao L.length cap) L w ∧ ((∀ n ∈ x.1.weights Try.prog 36, n ≤ reachBytes) → L.length ≤ 140737488351232 ∧ ∀ u ∈ L, u.key.length ≤ 140737488351232 ∧ u.val.length ≤ 140737488351232) := by
  obtain ⟨L, ao, cap, e, hr, _, h2⟩ := row_open dw wrc 3 (by omega) (fun _ => rfl) Try.underlying36 cWr (fun _ => True) _ wr_open h
  refine ⟨L, ao, cap, e, hr, fun hw => ⟨?_, (h2 hw).2⟩⟩
  have := (h2 hw).1
  rw [bWr] at this
  unfold reachBytes at this
  omega
theorem int_open {fuel : Nat} {v : Value} {x : DataW H × List MemPlace} (h : DataW.trod enc Try.prog w base spare held fuel 3 [v] = some x) : ∃ q : Int, v = .int .i64 q ∧ -9223372036854775808 ≤ q ∧ q ≤ 9223372036854775807 := by
  obtain ⟨q, e, -, w0⟩ := DataW.trod_int Try.underlying3 h
  simp only [List.cons.injEq, and_true] at e
  exact ⟨q, e, i64_rg w0⟩
theorem byte_open {fuel : Nat} {v : Value} {x : DataW H × List MemPlace} (h : DataW.trod enc Try.prog w base spare held fuel 5 [v] = some x) : ∃ b : UInt8, v = .int .u8 (b.toNat : Int) := by
  obtain ⟨q, e, -, w0⟩ := DataW.trod_int Try.underlying5 h
  obtain ⟨n, rfl, hn, -, -⟩ := nat_of (.inl rfl) w0
  simp only [List.cons.injEq, and_true] at e
  exact ⟨UInt8.ofNat n, by rw [e, u8_of n (hn rfl)]⟩
set_option maxRecDepth 100000 in
theorem two_open {fuel : Nat} {cs : List Value} {x : DataW H × List MemPlace} (h : DataW.trod enc Try.prog w base spare held fuel 22 cs = some x) :
    ∃ a b : Int, cs = [.int .i64 a, .int .i64 b] ∧ (-9223372036854775808 ≤ a ∧ a ≤ 9223372036854775807) ∧ (-9223372036854775808 ≤ b ∧ b ≤ 9223372036854775807) := by
  obtain ⟨xs, m, _, _, hl, hn, hf⟩ := DataW.trod_array Try.underlying22 h
  rw [cTwo] at hl
  match cs, hl with
  | [k0, k1], _ =>
    match xs, hn with
    | [y0, y1], _ =>
      have h0 := hf 0 (by omega)
      have h1 := hf 1 (by omega)
      simp only [c3, Nat.zero_mul, Nat.one_mul, List.drop_zero, List.take_succ_cons, List.take_zero, List.drop_succ_cons, List.getElem?_cons_zero, List.getElem?_cons_succ] at h0 h1
      obtain ⟨a, e0, r0⟩ := int_open h0
      obtain ⟨b, e1, r1⟩ := int_open h1
      subst e0 e1
      exact ⟨a, b, rfl, r0, r1⟩
theorem okWide_array {P : Program} {r : Reach} {t e : TypeId} {n : Nat} {v : Value} (ht : P.underlying t = some (.array n e)) (h : Value.okWide P w r base t v) : ∃ cs, v = .agg cs ∧ cs.size = P.cellsOf t := by
  simp only [Value.okWide, ht] at h
  obtain ⟨cs, h1, h2, _⟩ := h
  exact ⟨cs, h1, h2⟩
end
end Opn
end Go.Proofs.Ytdiellljplcjfaa
