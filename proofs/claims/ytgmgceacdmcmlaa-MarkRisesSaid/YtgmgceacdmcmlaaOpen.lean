/-
  Stamps and lists of stamps among the arguments, opened.
-/
import Derived.Test.YtgmgceacdmcmlaaLr
import Derived.ProofKit
import Derived.OpenShut
import Derived.Lib.SmallJoins
import Derived.SizedLaws
import Derived.ShutString
import Derived.Deep.Strs
import Derived.Deep.CondSized
import Derived.JoinedCond
namespace Go.Proofs.Ytgmgceacdmcmlaa
open Go.ChangeShapes Go.WideShapes Go.ChangeAt Go.RowKit Go.Joins Go.Deep
namespace Opn
theorem own : ownKnob Try.prog.godebug = none := by kernel_rfl
theorem laidOut : laidOutB Try.prog = true := by kernel_rfl
theorem cu64 : Try.prog.cellsOf 22 = 1 := by kernel_rfl
theorem cu32 : Try.prog.cellsOf 23 = 1 := by kernel_rfl
theorem cTs : Try.prog.cellsOf 25 = 2 := by kernel_rfl
theorem bTs : Try.prog.bytesOf 25 = 16 := by kernel_rfl

section
variable {H : Type} {enc : TypeId × Value → H} {w : World} {base : Nat} {spare : Nat → Bool} {held : Bool}

theorem weights_all {P : Program} {e : TypeId} : ∀ {es : List (DataW H)} {d : DataW H}, d ∈ es → ∀ n ∈ d.weights P e, n ∈ DataW.weightsAll P e es := by
  intro es
  induction es with
  | nil => intro d h; simp at h
  | cons a r ih =>
    intro d h n hn
    simp only [DataW.weightsAll, List.mem_append]
    rcases List.mem_cons.1 h with rfl | h
    · exact .inl hn
    · exact .inr (ih h n hn)
set_option maxRecDepth 100000 in
theorem ts_open {fuel : Nat} {cs : List Value} {x : DataW H × List MemPlace} (h : DataW.trod enc Try.prog w base spare held fuel 25 cs = some x) :
    ∃ t : Ts, cs = tsc t ∧ (0 ≤ t.1 ∧ 0 ≤ t.2) ∧ ((∀ n ∈ x.1.weights Try.prog 25, n ≤ reachBytes) → True) := by
  obtain ⟨y0, y1, n, rfl, hl, h0, h1⟩ := trod_struct2 Try.underlying25 h
  rw [cTs] at hl
  match cs, hl with
  | [c0, c1], _ =>
    simp only [cu64, cu32, List.drop_zero, List.take_succ_cons, List.take_zero, List.drop_succ_cons] at h0 h1
    obtain ⟨p, e0, rfl, w0⟩ := DataW.trod_int Try.underlying22 h0
    obtain ⟨q, e1, rfl, w1⟩ := DataW.trod_int Try.underlying23 h1
    simp only [List.cons.injEq, and_true] at e0 e1
    subst e0 e1
    simp only [Lit.wf, Bool.and_eq_true, decide_eq_true_eq] at w0 w1
    exact ⟨(p, q), rfl, ⟨Int.le_trans (by decide : (0 : Int) ≤ IntKind.u64.min) w0.1, Int.le_trans (by decide : (0 : Int) ≤ IntKind.u32.min) w1.1⟩, fun _ => trivial⟩
/-- A slice whose elements are read each as a plain thing of so many cells. -/
theorem row_open {α : Type} (d : α) (vc : α → List Value) (size : Nat) (hsz : 0 < size) (hvc : ∀ a, (vc a).length = size) {t e : TypeId} (ht : Try.prog.underlying t = some (.slice e)) (hce : Try.prog.cellsOf e = size)
    (P Q : α → Prop) (hel : ∀ {n : Nat} {cs : List Value} {x : DataW H × List MemPlace}, DataW.trod enc Try.prog w base (fun _ => true) held n e cs = some x → ∃ a, cs = vc a ∧ P a ∧ ((∀ n ∈ x.1.weights Try.prog e, n ≤ reachBytes) → Q a))
    {fuel : Nat} {v : Value} {x : DataW H × List MemPlace} (h : DataW.trod enc Try.prog w base (fun _ => true) held fuel t [v] = some x) :
    ∃ (L : List α) (ao : Option Addr) (cap : Nat), v = .slice ao L.length cap ∧ RwAt w.heap.size size (.slice ao L.length cap) L.length (L.flatMap vc) w ∧ (∀ a ∈ L, P a) ∧ ((∀ n ∈ x.1.weights Try.prog t, n ≤ reachBytes) → L.length * Try.prog.bytesOf e ≤ reachBytes ∧ ∀ a ∈ L, Q a) ∧ (L = [] ∨ ∃ es sp, x.1 = .slice es sp ∧ es.length = L.length) := by
  rcases open_slice ht h with ⟨hcs, _⟩ | ⟨a, len, cap, m, n, D, Pl, hcs, _, hl, hm, hmm, hd, hx⟩
  · simp at hcs
    subst hcs
    exact ⟨[], none, 0, rfl, RwAt.nil _ _ _, by simp, fun _ => ⟨by simp, by simp⟩, .inl rfl⟩
  · simp at hcs
    subst hcs
    rw [hce] at hx
    obtain ⟨b, off, spot⟩ := a
    have hmc : m = cap := by rw [hmm]; rfl
    subst hmc
    have each : ∀ i, i < m → ∃ f : α, (P f ∧ ((∀ n ∈ (D i).weights Try.prog e, n ≤ reachBytes) → Q f)) ∧ (spot = none ∨ 0 < i) ∧ ∀ j u, (vc f)[j]? = some u → w.cell? ⟨b, off + i * size + j, none⟩ = some u := by
      intro i hi
      obtain ⟨cs', h1, h2⟩ := hx i (by omega)
      obtain ⟨c, rfl, hP⟩ := hel h2
      obtain ⟨_, _, hc⟩ := World.cells?_some h1
      have hsp : spot = none ∨ 0 < i := by
        by_cases hi0 : i = 0
        · left
          subst hi0
          have h0 := hc 0 hsz
          rw [show (vc c)[0]? = some ((vc c)[0]'(by rw [hvc]; exact hsz)) from List.getElem?_eq_getElem _] at h0
          simpa [Addr.add] using World.cell?_spot h0
        · right; omega
      have ha : (⟨b, off, spot⟩ : Addr).add (i * size) = ⟨b, off + i * size, none⟩ := by
        rcases hsp with rfl | h0
        · exact add_plain _ _ _
        · have : 0 < i * size := Nat.mul_pos h0 hsz
          simp [Addr.add]
          omega
      refine ⟨c, hP, hsp, fun j u hj => ?_⟩
      have hjl : j < size := by rw [← hvc c]; exact (List.getElem?_eq_some_iff.1 hj).1
      have := hc j hjl
      rw [ha, add_plain] at this
      rw [this]
      exact hj
    haveI : Inhabited α := ⟨d⟩
    obtain ⟨F, hF⟩ := choose_lt each
    have hlen : ((List.range len).map F).length = len := by simp
    have hfl : ∀ (n : Nat), (((List.range n).map F).flatMap vc).length = n * size := fun n => by
      induction n with
      | zero => simp
      | succ n ih => rw [List.range_succ, List.map_append, List.flatMap_append, List.length_append, ih]; simp [hvc, Nat.succ_mul]
    have hget : ∀ (n j : Nat) (u : Value), (((List.range n).map F).flatMap vc)[j]? = some u → ∃ i, i < n ∧ (vc (F i))[j - i * size]? = some u ∧ i * size ≤ j := fun n => by
      induction n with
      | zero => intro j u h; simp at h
      | succ n ih =>
        intro j u h
        rw [List.range_succ, List.map_append, List.flatMap_append] at h
        by_cases hj : j < n * size
        · rw [List.getElem?_append_left (by rw [hfl]; exact hj)] at h
          obtain ⟨i, hi, r⟩ := ih j u h
          exact ⟨i, by omega, r⟩
        · rw [List.getElem?_append_right (by rw [hfl]; omega), hfl] at h
          exact ⟨n, by omega, by simpa using h, by omega⟩
    refine ⟨(List.range len).map F, some ⟨b, off, spot⟩, m, by rw [hlen], ⟨some ⟨b, off, spot⟩, m, rfl, by rw [hlen]; exact hfl len, by rw [hlen]; exact hl, by unfold maxLen at hm; omega, fun h0 => ⟨b, off, ?_, ?_, ?_⟩⟩, ?_, ?_, .inr ⟨_, _, by rw [hd], by simp⟩⟩
    · rcases (hF 0 (by omega)).2.1 with rfl | h1
      · rfl
      · omega
    · intro _
      have h1 : (vc (F 0))[0]? = some ((vc (F 0))[0]'(by rw [hvc]; exact hsz)) := List.getElem?_eq_getElem _
      exact World.block_lt_of_cell? _ _ ((hF 0 (by omega)).2.2 0 _ h1)
    · intro j u hj
      obtain ⟨i, hi, hu, hle⟩ := hget len j u hj
      have := (hF i (by omega)).2.2 _ u hu
      rw [show off + i * size + (j - i * size) = off + j from by omega] at this
      exact this
    · intro a ha
      obtain ⟨i, hi, rfl⟩ := List.mem_map.1 ha
      exact (hF i (by have := List.mem_range.1 hi; omega)).1.1
    · intro hw
      rw [hd] at hw
      simp only [DataW.weights, ht, List.mem_cons, List.mem_append] at hw
      refine ⟨?_, fun a ha => ?_⟩
      · have := hw _ (.inl rfl)
        rw [hlen]
        refine Nat.le_trans (Nat.mul_le_mul_right _ ?_) this
        simp
      · obtain ⟨i, hi, rfl⟩ := List.mem_map.1 ha
        have hi' := List.mem_range.1 hi
        exact (hF i (by omega)).1.2 (fun n hn => hw n (.inr (.inl (weights_all (d := D i) (List.mem_map.2 ⟨i, List.mem_range.2 hi', rfl⟩) _ hn))))
theorem tss_open {fuel : Nat} {v : Value} {x : DataW H × List MemPlace} (h : DataW.trod enc Try.prog w base (fun _ => true) held fuel 26 [v] = some x) : ∃ (L : List Ts) (ao : Option Addr) (cap : Nat), v = .slice ao L.length cap ∧ TsAt w.heap.size (.slice ao L.length cap) L w ∧ (∀ t ∈ L, 0 ≤ t.1 ∧ 0 ≤ t.2) ∧ ((∀ n ∈ x.1.weights Try.prog 26, n ≤ reachBytes) → L.length * 16 ≤ 140737488351232) ∧ (L = [] ∨ ∃ es sp, x.1 = .slice es sp ∧ es.length = L.length) := by
  obtain ⟨L, ao, cap, e, hr, h1, h2, h3⟩ := row_open (0, 0) tsc 2 (by omega) (fun _ => rfl) Try.underlying26 cTs _ _ ts_open h
  refine ⟨L, ao, cap, e, hr, h1, fun hw => ?_, h3⟩
  have := (h2 hw).1
  rw [bTs] at this
  unfold reachBytes at this
  omega
end
end Opn
end Go.Proofs.Ytgmgceacdmcmlaa
