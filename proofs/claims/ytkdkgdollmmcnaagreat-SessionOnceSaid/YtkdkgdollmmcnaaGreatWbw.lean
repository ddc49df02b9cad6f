import Derived.ProofKit
import Derived.OpenShut
import Derived.Lib.SmallJoins
import Derived.SizedLaws
import Derived.ShutString
import Derived.Deep.Strs
import Derived.Test.YtkdkgdollmmcnaaGreatWbv
set_option maxHeartbeats 4000000
set_option maxRecDepth 100000
set_option linter.unusedVariables false
set_option linter.unusedSimpArgs false
namespace Go.Proofs.YtkdkgdollmmcnaaGreat
open Go.ChangeShapes Go.WideShapes Go.ChangeAt Go.RowKit Go.Joins Go.Deep
namespace Opn
theorem own : ownKnob Tryz.prog.godebug = none := by kernel_rfl
theorem laidOut : laidOutB Tryz.prog = true := by kernel_rfl
theorem c3 : Tryz.prog.cellsOf 3 = 1 := by kernel_rfl
theorem c32 : Tryz.prog.cellsOf 25 = 1 := by kernel_rfl
theorem c4 : Tryz.prog.cellsOf 4 = 1 := by kernel_rfl
theorem cu8 : Tryz.prog.cellsOf 5 = 1 := by kernel_rfl
theorem cStr : Tryz.prog.cellsOf 9 = 1 := by kernel_rfl
theorem cu64 : Tryz.prog.cellsOf 31 = 1 := by kernel_rfl
theorem cu32 : Tryz.prog.cellsOf 32 = 1 := by kernel_rfl
theorem cTs : Tryz.prog.cellsOf 34 = 2 := by kernel_rfl
theorem cTxn : Tryz.prog.cellsOf 38 = 2 := by kernel_rfl
theorem cWr : Tryz.prog.cellsOf 70 = 3 := by kernel_rfl
theorem cPr : Tryz.prog.cellsOf 143 = 2 := by kernel_rfl
theorem cWs : Tryz.prog.cellsOf 50 = 1 := by kernel_rfl
theorem cTx : Tryz.prog.cellsOf 51 = 1 := by kernel_rfl
theorem cPs : Tryz.prog.cellsOf 39 = 1 := by kernel_rfl
theorem cRq : Tryz.prog.cellsOf 53 = 13 := by kernel_rfl
theorem cRp : Tryz.prog.cellsOf 49 = 14 := by kernel_rfl
theorem cLe : Tryz.prog.cellsOf 55 = 31 := by kernel_rfl
theorem bWr : Tryz.prog.bytesOf 70 = 40 := by kernel_rfl
theorem bPr : Tryz.prog.bytesOf 143 = 32 := by kernel_rfl
theorem bTn : Tryz.prog.bytesOf 38 = 8 := by kernel_rfl
section
variable {H : Type} {enc : TypeId × Value → H} {w : World} {base : Nat} {spare : Nat → Bool} {held : Bool}
theorem struct3 {t : TypeId} {f0 f1 f2 : Field} {fuel : Nat} {cs : List Value} {x : DataW H × List MemPlace} (ht : Tryz.prog.underlying t = some (.struct #[f0, f1, f2])) (h : DataW.trod enc Tryz.prog w base spare held fuel t cs = some x) :
  ∃ y0 y1 y2 n, x.1 = .agg [y0.1, y1.1, y2.1] ∧ cs.length = Tryz.prog.cellsOf t ∧ DataW.trod enc Tryz.prog w base spare held n f0.type ((cs.drop f0.offset).take (Tryz.prog.cellsOf f0.type)) = some y0 ∧ DataW.trod enc Tryz.prog w base spare held n f1.type ((cs.drop f1.offset).take (Tryz.prog.cellsOf f1.type)) = some y1 ∧ DataW.trod enc Tryz.prog w base spare held n f2.type ((cs.drop f2.offset).take (Tryz.prog.cellsOf f2.type)) = some y2 := by
 obtain ⟨xs, n, _, rfl, hl, hlen, hf⟩ := DataW.trod_struct ht h
 match xs, hlen with
 | [y0, y1, y2], _ => exact ⟨y0, y1, y2, n, by simp, hl, by simpa using hf 0 f0 rfl, by simpa using hf 1 f1 rfl, by simpa using hf 2 f2 rfl⟩
theorem struct6 {t : TypeId} {f0 f1 f2 f3 f4 f5 : Field} {fuel : Nat} {cs : List Value} {x : DataW H × List MemPlace} (ht : Tryz.prog.underlying t = some (.struct #[f0, f1, f2, f3, f4, f5])) (h : DataW.trod enc Tryz.prog w base spare held fuel t cs = some x) :
  ∃ y0 y1 y2 y3 y4 y5 n, x.1 = .agg [y0.1, y1.1, y2.1, y3.1, y4.1, y5.1] ∧ cs.length = Tryz.prog.cellsOf t ∧ DataW.trod enc Tryz.prog w base spare held n f0.type ((cs.drop f0.offset).take (Tryz.prog.cellsOf f0.type)) = some y0 ∧ DataW.trod enc Tryz.prog w base spare held n f1.type ((cs.drop f1.offset).take (Tryz.prog.cellsOf f1.type)) = some y1 ∧ DataW.trod enc Tryz.prog w base spare held n f2.type ((cs.drop f2.offset).take (Tryz.prog.cellsOf f2.type)) = some y2 ∧ DataW.trod enc Tryz.prog w base spare held n f3.type ((cs.drop f3.offset).take (Tryz.prog.cellsOf f3.type)) = some y3 ∧ DataW.trod enc Tryz.prog w base spare held n f4.type ((cs.drop f4.offset).take (Tryz.prog.cellsOf f4.type)) = some y4 ∧ DataW.trod enc Tryz.prog w base spare held n f5.type ((cs.drop f5.offset).take (Tryz.prog.cellsOf f5.type)) = some y5 := by
 obtain ⟨xs, n, _, rfl, hl, hlen, hf⟩ := DataW.trod_struct ht h
 match xs, hlen with
 | [y0, y1, y2, y3, y4, y5], _ => exact ⟨y0, y1, y2, y3, y4, y5, n, by simp, hl, by simpa using hf 0 f0 rfl, by simpa using hf 1 f1 rfl, by simpa using hf 2 f2 rfl, by simpa using hf 3 f3 rfl, by simpa using hf 4 f4 rfl, by simpa using hf 5 f5 rfl⟩
theorem struct10 {t : TypeId} {f0 f1 f2 f3 f4 f5 f6 f7 f8 f9 : Field} {fuel : Nat} {cs : List Value} {x : DataW H × List MemPlace} (ht : Tryz.prog.underlying t = some (.struct #[f0, f1, f2, f3, f4, f5, f6, f7, f8, f9])) (h : DataW.trod enc Tryz.prog w base spare held fuel t cs = some x) :
  ∃ y0 y1 y2 y3 y4 y5 y6 y7 y8 y9 n, x.1 = .agg [y0.1, y1.1, y2.1, y3.1, y4.1, y5.1, y6.1, y7.1, y8.1, y9.1] ∧ cs.length = Tryz.prog.cellsOf t ∧ DataW.trod enc Tryz.prog w base spare held n f0.type ((cs.drop f0.offset).take (Tryz.prog.cellsOf f0.type)) = some y0 ∧ DataW.trod enc Tryz.prog w base spare held n f1.type ((cs.drop f1.offset).take (Tryz.prog.cellsOf f1.type)) = some y1 ∧ DataW.trod enc Tryz.prog w base spare held n f2.type ((cs.drop f2.offset).take (Tryz.prog.cellsOf f2.type)) = some y2 ∧ DataW.trod enc Tryz.prog w base spare held n f3.type ((cs.drop f3.offset).take (Tryz.prog.cellsOf f3.type)) = some y3 ∧ DataW.trod enc Tryz.prog w base spare held n f4.type ((cs.drop f4.offset).take (Tryz.prog.cellsOf f4.type)) = some y4 ∧ DataW.trod enc Tryz.prog w base spare held n f5.type ((cs.drop f5.offset).take (Tryz.prog.cellsOf f5.type)) = some y5 ∧ DataW.trod enc Tryz.prog w base spare held n f6.type ((cs.drop f6.offset).take (Tryz.prog.cellsOf f6.type)) = some y6 ∧ DataW.trod enc Tryz.prog w base spare held n f7.type ((cs.drop f7.offset).take (Tryz.prog.cellsOf f7.type)) = some y7 ∧ DataW.trod enc Tryz.prog w base spare held n f8.type ((cs.drop f8.offset).take (Tryz.prog.cellsOf f8.type)) = some y8 ∧ DataW.trod enc Tryz.prog w base spare held n f9.type ((cs.drop f9.offset).take (Tryz.prog.cellsOf f9.type)) = some y9 := by
 obtain ⟨xs, n, _, rfl, hl, hlen, hf⟩ := DataW.trod_struct ht h
 match xs, hlen with
 | [y0, y1, y2, y3, y4, y5, y6, y7, y8, y9], _ => exact ⟨y0, y1, y2, y3, y4, y5, y6, y7, y8, y9, n, by simp, hl, by simpa using hf 0 f0 rfl, by simpa using hf 1 f1 rfl, by simpa using hf 2 f2 rfl, by simpa using hf 3 f3 rfl, by simpa using hf 4 f4 rfl, by simpa using hf 5 f5 rfl, by simpa using hf 6 f6 rfl, by simpa using hf 7 f7 rfl, by simpa using hf 8 f8 rfl, by simpa using hf 9 f9 rfl⟩
theorem weights_all {P : Program} {e : TypeId} : ∀ {es : List (DataW H)} {d : DataW H}, d ∈ es → ∀ n ∈ d.weights P e, n ∈ DataW.weightsAll P e es := by
 intro es
 induction es with
 | nil => intro d h; simp at h
 | cons a r ih =>
  intro d h n hn
  simp only [DataW.weightsAll, List.mem_append]
  rcases List.mem_cons.1 h with rfl | h
  ·exact .inl hn
  ·exact .inr (ih h n hn)
theorem nat_of {k : IntKind} {q : Int} (hk : k = .u8 ∨ k = .u32 ∨ k = .u64) (h : (Lit.int k q).wf = true) : ∃ n : Nat, q = n ∧ (k = .u8 → n < 256) ∧ (k = .u32 → n < 4294967296) ∧ (k = .u64 → n < 18446744073709551616) := by
 simp only [Lit.wf, Bool.and_eq_true, decide_eq_true_eq] at h
 rcases hk with rfl | rfl | rfl
 ·have h1 : (IntKind.u8.min : Int) = 0 := by decide
  have h2 : (IntKind.u8.max : Int) = 255 := by decide
  exact ⟨q.toNat, by omega, fun _ => (by omega), fun h => (by cases h), fun h => (by cases h)⟩
 ·have h1 : (IntKind.u32.min : Int) = 0 := by decide
  have h2 : (IntKind.u32.max : Int) = 4294967295 := by decide
  exact ⟨q.toNat, by omega, fun h => (by cases h), fun _ => (by omega), fun h => (by cases h)⟩
 ·have h1 : (IntKind.u64.min : Int) = 0 := by decide
  have h2 : (IntKind.u64.max : Int) = 18446744073709551615 := by decide
  exact ⟨q.toNat, by omega, fun h => (by cases h), fun h => (by cases h), fun _ => by omega⟩
theorem i64_rg {q : Int} (h : (Lit.int .i64 q).wf = true) : -9223372036854775808 ≤ q ∧ q ≤ 9223372036854775807 := by
 simp only [Lit.wf, Bool.and_eq_true, decide_eq_true_eq] at h
 have h1 : (IntKind.i64.min : Int) = -9223372036854775808 := by decide
 have h2 : (IntKind.i64.max : Int) = 9223372036854775807 := by decide
 omega
theorem bs_self (s : ByteArray) : bs s.data.toList = s := by
 obtain ⟨d⟩ := s
 simp [bs]
theorem str_open {fuel : Nat} {cs : List Value} {x : DataW H × List MemPlace} (h : DataW.trod enc Tryz.prog w base spare held fuel 9 cs = some x) : ∃ l : List UInt8, cs = [.string (bs l)] ∧ ((∀ n ∈ x.1.weights Tryz.prog 9, n ≤ reachBytes) → l.length ≤ 140737488351232) := by
 obtain ⟨s, e0, rfl, _⟩ := DataW.trod_string Tryz.underlying9 h
 refine ⟨s.data.toList, by rw [bs_self]; exact e0, fun hw => ?_⟩
 have := hw s.data.toList.length (by simp [DataW.weights])
 unfold reachBytes at this
 omega
theorem ts_open {fuel : Nat} {cs : List Value} {x : DataW H × List MemPlace} (h : DataW.trod enc Tryz.prog w base spare held fuel 34 cs = some x) :
  ∃ p q : Nat, cs = [.int .u64 (p : Int), .int .u32 (q : Int)] ∧ p < 18446744073709551616 ∧ q < 4294967296 := by
 obtain ⟨y0, y1, n, rfl, hl, h0, h1⟩ := trod_struct2 Tryz.underlying34 h
 rw [cTs] at hl
 match cs, hl with
 | [c0, c1], _ =>
  simp only [cu64, cu32, List.drop_zero, List.take_succ_cons, List.take_zero, List.drop_succ_cons] at h0 h1
  obtain ⟨p, e0, rfl, w0⟩ := DataW.trod_int Tryz.underlying31 h0
  obtain ⟨q, e1, rfl, w1⟩ := DataW.trod_int Tryz.underlying32 h1
  obtain ⟨p, rfl, -, -, r0⟩ := nat_of (.inr (.inr rfl)) w0
  obtain ⟨q, rfl, -, r1, -⟩ := nat_of (.inr (.inl rfl)) w1
  simp only [List.cons.injEq, and_true] at e0 e1
  subst e0 e1
  exact ⟨p, q, rfl, r0 rfl, r1 rfl⟩
theorem txn_open {fuel : Nat} {cs : List Value} {x : DataW H × List MemPlace} (h : DataW.trod enc Tryz.prog w base spare held fuel 38 cs = some x) :
  ∃ p q : Nat, cs = [.int .u32 (p : Int), .int .u32 (q : Int)] ∧ p < 4294967296 ∧ q < 4294967296 := by
 obtain ⟨y0, y1, n, rfl, hl, h0, h1⟩ := trod_struct2 Tryz.underlying38 h
 rw [cTxn] at hl
 match cs, hl with
 | [c0, c1], _ =>
  simp only [cu32, List.drop_zero, List.take_succ_cons, List.take_zero, List.drop_succ_cons] at h0 h1
  obtain ⟨p, e0, rfl, w0⟩ := DataW.trod_int Tryz.underlying32 h0
  obtain ⟨q, e1, rfl, w1⟩ := DataW.trod_int Tryz.underlying32 h1
  obtain ⟨p, rfl, -, r0, -⟩ := nat_of (.inr (.inl rfl)) w0
  obtain ⟨q, rfl, -, r1, -⟩ := nat_of (.inr (.inl rfl)) w1
  simp only [List.cons.injEq, and_true] at e0 e1
  subst e0 e1
  exact ⟨p, q, rfl, r0 rfl, r1 rfl⟩
theorem wr_open {fuel : Nat} {cs : List Value} {x : DataW H × List MemPlace} (h : DataW.trod enc Tryz.prog w base spare held fuel 70 cs = some x) :
  ∃ u : Wr, cs = wrc u ∧ True ∧ ((∀ n ∈ x.1.weights Tryz.prog 70, n ≤ reachBytes) → u.key.length ≤ 140737488351232 ∧ u.val.length ≤ 140737488351232) := by
 obtain ⟨y0, y1, y2, n, hx, hl, h0, h1, h2⟩ := struct3 Tryz.underlying70 h
 rw [cWr] at hl
 match cs, hl with
 | [c0, c1, c2], _ =>
  simp only [cStr, c4, List.drop_zero, List.take_succ_cons, List.take_zero, List.drop_succ_cons] at h0 h1 h2
  obtain ⟨k, e0, w0⟩ := str_open h0
  obtain ⟨v, e1, w1⟩ := str_open h1
  obtain ⟨d, e2, -⟩ := DataW.trod_bool Tryz.underlying4 h2
  simp only [List.cons.injEq, and_true] at e0 e1 e2
  subst e0 e1 e2
  refine ⟨⟨k, v, d⟩, rfl, trivial, fun hw => ⟨w0 (fun n hn => hw n ?_), w1 (fun n hn => hw n ?_)⟩⟩
  ·rw [hx]
   simp only [DataW.weights, Tryz.underlying70]
   exact DataW.weights_mem_each (j := 0) (t := 9) (d := y0.1) rfl rfl _ hn
  ·rw [hx]
   simp only [DataW.weights, Tryz.underlying70]
   exact DataW.weights_mem_each (j := 1) (t := 9) (d := y1.1) rfl rfl _ hn
theorem pr_open {fuel : Nat} {cs : List Value} {x : DataW H × List MemPlace} (h : DataW.trod enc Tryz.prog w base spare held fuel 143 cs = some x) :
  ∃ u : Pr, cs = prc u ∧ True ∧ ((∀ n ∈ x.1.weights Tryz.prog 143, n ≤ reachBytes) → u.key.length ≤ 140737488351232 ∧ u.val.length ≤ 140737488351232) := by
 obtain ⟨y0, y1, n, hx, hl, h0, h1⟩ := trod_struct2 Tryz.underlying143 h
 rw [cPr] at hl
 match cs, hl with
 | [c0, c1], _ =>
  simp only [cStr, List.drop_zero, List.take_succ_cons, List.take_zero, List.drop_succ_cons] at h0 h1
  obtain ⟨k, e0, w0⟩ := str_open h0
  obtain ⟨v, e1, w1⟩ := str_open h1
  simp only [List.cons.injEq, and_true] at e0 e1
  subst e0 e1
  refine ⟨⟨k, v⟩, rfl, trivial, fun hw => ⟨w0 (fun n hn => hw n ?_), w1 (fun n hn => hw n ?_)⟩⟩
  ·rw [hx]
   simp only [DataW.weights, Tryz.underlying143]
   exact DataW.weights_mem_each (j := 0) (t := 9) (d := y0.1) rfl rfl _ hn
  ·rw [hx]
   simp only [DataW.weights, Tryz.underlying143]
   exact DataW.weights_mem_each (j := 1) (t := 9) (d := y1.1) rfl rfl _ hn
theorem tn_open {fuel : Nat} {cs : List Value} {x : DataW H × List MemPlace} (h : DataW.trod enc Tryz.prog w base spare held fuel 38 cs = some x) :
  ∃ u : Tn, cs = tnc u ∧ (u.c < 4294967296 ∧ u.n < 4294967296) ∧ ((∀ n ∈ x.1.weights Tryz.prog 38, n ≤ reachBytes) → True) := by
 obtain ⟨p, q, e, h1, h2⟩ := txn_open h
 exact ⟨⟨p, q⟩, e, ⟨h1, h2⟩, fun _ => trivial⟩
theorem row_open {α : Type} (d : α) (vc : α → List Value) (size : Nat) (hsz : 0 < size) (hvc : ∀ a, (vc a).length = size) {t e : TypeId} (ht : Tryz.prog.underlying t = some (.slice e)) (hce : Tryz.prog.cellsOf e = size)
  (P Q : α → Prop) (hel : ∀ {n : Nat} {cs : List Value} {x : DataW H × List MemPlace}, DataW.trod enc Tryz.prog w base (fun _ => true) held n e cs = some x → ∃ a, cs = vc a ∧ P a ∧ ((∀ n ∈ x.1.weights Tryz.prog e, n ≤ reachBytes) → Q a))
  {fuel : Nat} {v : Value} {x : DataW H × List MemPlace} (h : DataW.trod enc Tryz.prog w base (fun _ => true) held fuel t [v] = some x) :
  ∃ (L : List α) (ao : Option Addr) (cap : Nat), v = .slice ao L.length cap ∧ RwAt w.heap.size size (.slice ao L.length cap) L.length (L.flatMap vc) w ∧ (∀ a ∈ L, P a) ∧ ((∀ n ∈ x.1.weights Tryz.prog t, n ≤ reachBytes) → L.length * Tryz.prog.bytesOf e ≤ reachBytes ∧ ∀ a ∈ L, Q a) := by
 rcases open_slice ht h with ⟨hcs, _⟩ | ⟨a, len, cap, m, n, D, Pl, hcs, _, hl, hm, hmm, hd, hx⟩
 ·simp at hcs
  subst hcs
  exact ⟨[], none, 0, rfl, RwAt.nil _ _ _, by simp, fun _ => ⟨by simp, by simp⟩⟩
 ·simp at hcs
  subst hcs
  rw [hce] at hx
  obtain ⟨b, off, spot⟩ := a
  have hmc : m = cap := by rw [hmm]; rfl
  subst hmc
  have each : ∀ i, i < m → ∃ f : α, (P f ∧ ((∀ n ∈ (D i).weights Tryz.prog e, n ≤ reachBytes) → Q f)) ∧ (spot = none ∨ 0 < i) ∧ ∀ j u, (vc f)[j]? = some u → w.cell? ⟨b, off + i * size + j, none⟩ = some u := by
   intro i hi
   obtain ⟨cs', h1, h2⟩ := hx i (by omega)
   obtain ⟨c, rfl, hP⟩ := hel h2
   obtain ⟨_, _, hc⟩ := World.cells?_some h1
   have hsp : spot = none ∨ 0 < i := by
    by_cases hi0 : i = 0
    ·left
     subst hi0
     have h0 := hc 0 hsz
     rw [show (vc c)[0]? = some ((vc c)[0]'(by rw [hvc]; exact hsz)) from List.getElem?_eq_getElem _] at h0
     simpa [Addr.add] using World.cell?_spot h0
    ·right; omega
   have ha : (⟨b, off, spot⟩ : Addr).add (i * size) = ⟨b, off + i * size, none⟩ := by
    rcases hsp with rfl | h0
    ·exact add_plain _ _ _
    ·have : 0 < i * size := Nat.mul_pos h0 hsz
     simp [Addr.add]
     omega
   refine ⟨c, hP, hsp, fun j u hj => ?_⟩
   have hjl : j < size := by rw [← hvc c]; exact (List.getElem?_eq_some_iff.1 hj).1
   have := hc j hjl
   rw [ha, add_plain] at this
   rw [this]
   exact hj
  haveI : Inhabited α := ⟨d⟩
  obtain ⟨F, hF⟩ := choose_lt each
  have hlen : ((List.range len).map F).length = len := by simp
  have hfl : ∀ (n : Nat), (((List.range n).map F).flatMap vc).length = n * size := fun n => by
   induction n with
   | zero => simp
   | succ n ih => rw [List.range_succ, List.map_append, List.flatMap_append, List.length_append, ih]; simp [hvc, Nat.succ_mul]
  have hget : ∀ (n j : Nat) (u : Value), (((List.range n).map F).flatMap vc)[j]? = some u → ∃ i, i < n ∧ (vc (F i))[j - i * size]? = some u ∧ i * size ≤ j := fun n => by
   induction n with
   | zero => intro j u h; simp at h
   | succ n ih =>
    intro j u h
    rw [List.range_succ, List.map_append, List.flatMap_append] at h
    by_cases hj : j < n * size
    ·rw [List.getElem?_append_left (by rw [hfl]; exact hj)] at h
     obtain ⟨i, hi, r⟩ := ih j u h
     exact ⟨i, by omega, r⟩
    ·rw [List.getElem?_append_right (by rw [hfl]; omega), hfl] at h
     exact ⟨n, by omega, by simpa using h, by omega⟩
  refine ⟨(List.range len).map F, some ⟨b, off, spot⟩, m, by rw [hlen], ⟨some ⟨b, off, spot⟩, m, rfl, by rw [hlen]; exact hfl len, by rw [hlen]; exact hl, by unfold maxLen at hm; omega, fun h0 => ⟨b, off, ?_, ?_, ?_⟩⟩, ?_, ?_⟩
  ·rcases (hF 0 (by omega)).2.1 with rfl | h1
   ·rfl
   ·omega
  ·intro _
   have h1 : (vc (F 0))[0]? = some ((vc (F 0))[0]'(by rw [hvc]; exact hsz)) := List.getElem?_eq_getElem _
   exact World.block_lt_of_cell? _ _ ((hF 0 (by omega)).2.2 0 _ h1)
  ·intro j u hj
   obtain ⟨i, hi, hu, hle⟩ := hget len j u hj
   have := (hF i (by omega)).2.2 _ u hu
   rw [show off + i * size + (j - i * size) = off + j from by omega] at this
   exact this
  ·intro a ha
   obtain ⟨i, hi, rfl⟩ := List.mem_map.1 ha
   exact (hF i (by have := List.mem_range.1 hi; omega)).1.1
  ·intro hw
   rw [hd] at hw
   simp only [DataW.weights, ht, List.mem_cons, List.mem_append] at hw
   refine ⟨?_, fun a ha => ?_⟩
   ·have := hw _ (.inl rfl)
    rw [hlen]
    refine Nat.le_trans (Nat.mul_le_mul_right _ ?_) this
    simp
   ·obtain ⟨i, hi, rfl⟩ := List.mem_map.1 ha
    have hi' := List.mem_range.1 hi
    exact (hF i (by omega)).1.2 (fun n hn => hw n (.inr (.inl (weights_all (d := D i) (List.mem_map.2 ⟨i, List.mem_range.2 hi', rfl⟩) _ hn))))
theorem ws_open {fuel : Nat} {v : Value} {x : DataW H × List MemPlace} (h : DataW.trod enc Tryz.prog w base (fun _ => true) held fuel 50 [v] = some x) : ∃ (L : List Wr) (ao : Option Addr) (cap : Nat), v = .slice ao L.length cap ∧ WsAt w.heap.size (.slice ao L.length cap) L w ∧ (∀ u ∈ L, True) ∧ ((∀ n ∈ x.1.weights Tryz.prog 50, n ≤ reachBytes) → L.length ≤ 140737488351232 ∧ ∀ u ∈ L, u.key.length ≤ 140737488351232 ∧ u.val.length ≤ 140737488351232) := by
 obtain ⟨L, ao, cap, e, hr, h1, h2⟩ := row_open dw wrc 3 (by omega) (fun _ => rfl) Tryz.underlying50 cWr (fun u => True) (fun u => u.key.length ≤ 140737488351232 ∧ u.val.length ≤ 140737488351232) wr_open h
 refine ⟨L, ao, cap, e, hr, h1, fun hw => ⟨?_, (h2 hw).2⟩⟩
 have := (h2 hw).1
 rw [bWr] at this
 unfold reachBytes at this
 omega
theorem ps_open {fuel : Nat} {v : Value} {x : DataW H × List MemPlace} (h : DataW.trod enc Tryz.prog w base (fun _ => true) held fuel 39 [v] = some x) : ∃ (L : List Pr) (ao : Option Addr) (cap : Nat), v = .slice ao L.length cap ∧ PsAt w.heap.size (.slice ao L.length cap) L w ∧ (∀ u ∈ L, True) ∧ ((∀ n ∈ x.1.weights Tryz.prog 39, n ≤ reachBytes) → L.length ≤ 140737488351232 ∧ ∀ u ∈ L, u.key.length ≤ 140737488351232 ∧ u.val.length ≤ 140737488351232) := by
 obtain ⟨L, ao, cap, e, hr, h1, h2⟩ := row_open dp prc 2 (by omega) (fun _ => rfl) Tryz.underlying39 cPr (fun u => True) (fun u => u.key.length ≤ 140737488351232 ∧ u.val.length ≤ 140737488351232) pr_open h
 refine ⟨L, ao, cap, e, hr, h1, fun hw => ⟨?_, (h2 hw).2⟩⟩
 have := (h2 hw).1
 rw [bPr] at this
 unfold reachBytes at this
 omega
theorem sk_open {fuel : Nat} {v : Value} {x : DataW H × List MemPlace} (h : DataW.trod enc Tryz.prog w base (fun _ => true) held fuel 51 [v] = some x) : ∃ (L : List Tn) (ao : Option Addr) (cap : Nat), v = .slice ao L.length cap ∧ TsAt w.heap.size (.slice ao L.length cap) L w ∧ (∀ u ∈ L, u.c < 4294967296 ∧ u.n < 4294967296) ∧ ((∀ n ∈ x.1.weights Tryz.prog 51, n ≤ reachBytes) → L.length ≤ 140737488351232 ∧ ∀ u ∈ L, True) := by
 obtain ⟨L, ao, cap, e, hr, h1, h2⟩ := row_open dt tnc 2 (by omega) (fun _ => rfl) Tryz.underlying51 cTxn (fun u => u.c < 4294967296 ∧ u.n < 4294967296) (fun u => True) tn_open h
 refine ⟨L, ao, cap, e, hr, h1, fun hw => ⟨?_, (h2 hw).2⟩⟩
 have := (h2 hw).1
 rw [bTn] at this
 unfold reachBytes at this
 omega
theorem rq_open {fuel : Nat} {cs : List Value} {x : DataW H × List MemPlace} (h : DataW.trod enc Tryz.prog w base (fun _ => true) held fuel 53 cs = some x) :
  ∃ (q : Rq) (wa sa : Option Addr) (wc sc : Nat), cs = [iw q.k, .int .u32 (q.c : Int), .int .u32 (q.n : Int), .int .u64 (q.sp : Int), .int .u32 (q.sl : Int), .int .u64 (q.ap : Int), .int .u32 (q.al : Int), .string (bs q.key), .string (bs q.to), iw q.lim, .int .u8 (q.pt : Int), .slice wa q.ws.length wc, .slice sa q.sk.length sc] ∧ QAt w.heap.size q (.slice wa q.ws.length wc) (.slice sa q.sk.length sc) w := by
 obtain ⟨y0, y1, y2, y3, y4, y5, y6, y7, y8, y9, n, hx, hl, h0, h1, h2, h3, h4, h5, h6, h7, h8, h9⟩ := struct10 Tryz.underlying53 h
 rw [cRq] at hl
 match cs, hl with
 | [k0, k1, k2, k3, k4, k5, k6, k7, k8, k9, k10, k11, k12], _ =>
  simp only [c3, cTxn, cTs, cStr, cu8, cWs, cTx, List.drop_zero, List.take_succ_cons, List.take_zero, List.drop_succ_cons] at h0 h1 h2 h3 h4 h5 h6 h7 h8 h9
  obtain ⟨k, e0, -, w0⟩ := DataW.trod_int Tryz.underlying3 h0
  obtain ⟨c, m, e1, r1, r1'⟩ := txn_open h1
  obtain ⟨sp, sl, e2, r2, r2'⟩ := ts_open h2
  obtain ⟨ap, al, e3, r3, r3'⟩ := ts_open h3
  obtain ⟨key, e4, w4⟩ := str_open h4
  obtain ⟨tt, e5, w5⟩ := str_open h5
  obtain ⟨lim, e6, -, w6⟩ := DataW.trod_int Tryz.underlying3 h6
  obtain ⟨pt, e7, -, w7⟩ := DataW.trod_int Tryz.underlying5 h7
  obtain ⟨L, ao, cap, e8, hL, -, w8⟩ := ws_open h8
  obtain ⟨M, so, cas, e9, hM, p9, w9⟩ := sk_open h9
  obtain ⟨pt, rfl, r7, -, -⟩ := nat_of (.inl rfl) w7
  simp only [List.cons.injEq, and_true] at e0 e1 e2 e3 e4 e5 e6 e7
  obtain ⟨e1, e1'⟩ := e1
  obtain ⟨e2, e2'⟩ := e2
  obtain ⟨e3, e3'⟩ := e3
  subst e0 e1 e1' e2 e2' e3 e3' e4 e5 e6 e7 e8 e9
  exact ⟨⟨k, c, m, sp, sl, ap, al, key, tt, lim, pt, L, M⟩, ao, so, cap, cas, rfl, ⟨hL, hM⟩⟩
theorem rp_open {fuel : Nat} {cs : List Value} {x : DataW H × List MemPlace} (h : DataW.trod enc Tryz.prog w base (fun _ => true) held fuel 49 cs = some x) :
  ∃ (r : Rp) (pa : Option Addr) (pc : Nat), cs = [iw r.k, iw r.er, .bool r.fd, .string (bs r.val), .slice pa r.ps.length pc, .int .u32 (r.c : Int), .int .u32 (r.n : Int), .int .u64 (r.sp : Int), .int .u32 (r.sl : Int), .int .u64 (r.ap : Int), .int .u32 (r.al : Int), .string (bs r.prim), .int .u64 (r.np : Int), .int .u32 (r.nl : Int)] ∧ PsAt w.heap.size (.slice pa r.ps.length pc) r.ps w := by
 obtain ⟨y0, y1, y2, y3, y4, y5, y6, y7, y8, y9, n, hx, hl, h0, h1, h2, h3, h4, h5, h6, h7, h8, h9⟩ := struct10 Tryz.underlying49 h
 rw [cRp] at hl
 match cs, hl with
 | [k0, k1, k2, k3, k4, k5, k6, k7, k8, k9, k10, k11, k12, k13], _ =>
  simp only [c3, c32, c4, cTxn, cTs, cStr, cPs, List.drop_zero, List.take_succ_cons, List.take_zero, List.drop_succ_cons] at h0 h1 h2 h3 h4 h5 h6 h7 h8 h9
  obtain ⟨k, e0, -, w0⟩ := DataW.trod_int Tryz.underlying3 h0
  obtain ⟨er, e1, -, w1⟩ := DataW.trod_int Tryz.underlying25 h1
  obtain ⟨fd, e2, -⟩ := DataW.trod_bool Tryz.underlying4 h2
  obtain ⟨val, e3, w3⟩ := str_open h3
  obtain ⟨L, ao, cap, e4, hL, -, w4⟩ := ps_open h4
  obtain ⟨c, m, e5, r5, r5'⟩ := txn_open h5
  obtain ⟨sp, sl, e6, r6, r6'⟩ := ts_open h6
  obtain ⟨ap, al, e7, r7, r7'⟩ := ts_open h7
  obtain ⟨pr, e8, w8⟩ := str_open h8
  obtain ⟨np, nl, e9, r9, r9'⟩ := ts_open h9
  simp only [List.cons.injEq, and_true] at e0 e1 e2 e3 e5 e6 e7 e8 e9
  obtain ⟨e5, e5'⟩ := e5
  obtain ⟨e6, e6'⟩ := e6
  obtain ⟨e7, e7'⟩ := e7
  obtain ⟨e9, e9'⟩ := e9
  subst e0 e1 e2 e3 e4 e5 e5' e6 e6' e7 e7' e8 e9 e9'
  exact ⟨⟨k, er, fd, val, L, c, m, sp, sl, ap, al, pr, np, nl⟩, ao, cap, rfl, hL⟩
def encL (l : Le) (wa sa pa : Option Addr) (wc sc pc : Nat) : List Value := [.int .u32 (l.cl : Int), .int .u32 (l.sh : Int), .int .u32 (l.sq : Int), .bool l.an, iw l.q.k, .int .u32 (l.q.c : Int), .int .u32 (l.q.n : Int), .int .u64 (l.q.sp : Int), .int .u32 (l.q.sl : Int), .int .u64 (l.q.ap : Int), .int .u32 (l.q.al : Int), .string (bs l.q.key), .string (bs l.q.to), iw l.q.lim, .int .u8 (l.q.pt : Int), .slice wa l.q.ws.length wc, .slice sa l.q.sk.length sc, iw l.r.k, iw l.r.er, .bool l.r.fd, .string (bs l.r.val), .slice pa l.r.ps.length pc, .int .u32 (l.r.c : Int), .int .u32 (l.r.n : Int), .int .u64 (l.r.sp : Int), .int .u32 (l.r.sl : Int), .int .u64 (l.r.ap : Int), .int .u32 (l.r.al : Int), .string (bs l.r.prim), .int .u64 (l.r.np : Int), .int .u32 (l.r.nl : Int)]
theorem le_open {fuel : Nat} {cs : List Value} {x : DataW H × List MemPlace} (h : DataW.trod enc Tryz.prog w base (fun _ => true) held fuel 55 cs = some x) :
  ∃ l wa sa pa wc sc pc, cs = encL l wa sa pa wc sc pc ∧ LAt w.heap.size l (.slice wa l.q.ws.length wc) (.slice sa l.q.sk.length sc) (.slice pa l.r.ps.length pc) w := by
 obtain ⟨y0, y1, y2, y3, y4, y5, n, hx, hl, h0, h1, h2, h3, h4, h5⟩ := struct6 Tryz.underlying55 h
 rw [cLe] at hl
 match cs, hl with
 | [k0, k1, k2, k3, k4, k5, k6, k7, k8, k9, k10, k11, k12, k13, k14, k15, k16, k17, k18, k19, k20, k21, k22, k23, k24, k25, k26, k27, k28, k29, k30], _ =>
  simp only [cu32, c4, cRq, cRp, List.drop_zero, List.take_succ_cons, List.take_zero, List.drop_succ_cons] at h0 h1 h2 h3 h4 h5
  obtain ⟨cl, e0, -, w0⟩ := DataW.trod_int Tryz.underlying32 h0
  obtain ⟨sh, e1, -, w1⟩ := DataW.trod_int Tryz.underlying32 h1
  obtain ⟨sq, e2, -, w2⟩ := DataW.trod_int Tryz.underlying32 h2
  obtain ⟨an, e3, -⟩ := DataW.trod_bool Tryz.underlying4 h3
  obtain ⟨q, wa, sa, wc, sc, e4, hq⟩ := rq_open h4
  obtain ⟨r, pa, pc, e5, hr⟩ := rp_open h5
  obtain ⟨cl, rfl, -, r0, -⟩ := nat_of (.inr (.inl rfl)) w0
  obtain ⟨sh, rfl, -, r1, -⟩ := nat_of (.inr (.inl rfl)) w1
  obtain ⟨sq, rfl, -, r2, -⟩ := nat_of (.inr (.inl rfl)) w2
  simp only [List.cons.injEq, and_true] at e0 e1 e2 e3 e4 e5
  obtain ⟨a0, a1, a2, a3, a4, a5, a6, a7, a8, a9, a10, a11, a12⟩ := e4
  obtain ⟨b0, b1, b2, b3, b4, b5, b6, b7, b8, b9, b10, b11, b12, b13⟩ := e5
  subst e0 e1 e2 e3 a0 a1 a2 a3 a4 a5 a6 a7 a8 a9 a10 a11 a12 b0 b1 b2 b3 b4 b5 b6 b7 b8 b9 b10 b11 b12 b13
  exact ⟨⟨cl, sh, sq, an, q, r⟩, wa, sa, pa, wc, sc, pc, rfl, ⟨hq, hr⟩⟩
theorem c31u : Tryz.prog.cellsOf 31 = 1 := by kernel_rfl
theorem cOp : Tryz.prog.cellsOf 44 = 5 := by kernel_rfl
theorem cAc : Tryz.prog.cellsOf 57 = 53 := by kernel_rfl
theorem struct5 {t : TypeId} {f0 f1 f2 f3 f4 : Field} {fuel : Nat} {cs : List Value} {x : DataW H × List MemPlace} (ht : Tryz.prog.underlying t = some (.struct #[f0, f1, f2, f3, f4])) (h : DataW.trod enc Tryz.prog w base spare held fuel t cs = some x) :
  ∃ y0 y1 y2 y3 y4 n, cs.length = Tryz.prog.cellsOf t ∧ DataW.trod enc Tryz.prog w base spare held n f0.type ((cs.drop f0.offset).take (Tryz.prog.cellsOf f0.type)) = some y0 ∧ DataW.trod enc Tryz.prog w base spare held n f1.type ((cs.drop f1.offset).take (Tryz.prog.cellsOf f1.type)) = some y1 ∧ DataW.trod enc Tryz.prog w base spare held n f2.type ((cs.drop f2.offset).take (Tryz.prog.cellsOf f2.type)) = some y2 ∧ DataW.trod enc Tryz.prog w base spare held n f3.type ((cs.drop f3.offset).take (Tryz.prog.cellsOf f3.type)) = some y3 ∧ DataW.trod enc Tryz.prog w base spare held n f4.type ((cs.drop f4.offset).take (Tryz.prog.cellsOf f4.type)) = some y4 := by
 obtain ⟨xs, n, _, rfl, hl, hlen, hf⟩ := DataW.trod_struct ht h
 match xs, hlen with
 | [y0, y1, y2, y3, y4], _ => exact ⟨y0, y1, y2, y3, y4, n, hl, by simpa using hf 0 f0 rfl, by simpa using hf 1 f1 rfl, by simpa using hf 2 f2 rfl, by simpa using hf 3 f3 rfl, by simpa using hf 4 f4 rfl⟩
theorem op_open {fuel : Nat} {cs : List Value} {x : DataW H × List MemPlace} (h : DataW.trod enc Tryz.prog w base spare held fuel 44 cs = some x) : ∃ o : Op, cs = [iw o.k, .string (bs o.key), .string (bs o.val), .string (bs o.to), iw o.lim] := by
 obtain ⟨y0, y1, y2, y3, y4, n, hl, h0, h1, h2, h3, h4⟩ := struct5 Tryz.underlying44 h
 rw [cOp] at hl
 match cs, hl with
 | [k0, k1, k2, k3, k4], _ =>
  simp only [c3, cStr, List.drop_zero, List.take_succ_cons, List.take_zero, List.drop_succ_cons] at h0 h1 h2 h3 h4
  obtain ⟨k, e0, -, -⟩ := DataW.trod_int Tryz.underlying3 h0
  obtain ⟨ky, e1, -⟩ := str_open h1
  obtain ⟨vl, e2, -⟩ := str_open h2
  obtain ⟨tt, e3, -⟩ := str_open h3
  obtain ⟨lm, e4, -, -⟩ := DataW.trod_int Tryz.underlying3 h4
  simp only [List.cons.injEq, and_true] at e0 e1 e2 e3 e4
  subst e0 e1 e2 e3 e4
  exact ⟨⟨k, ky, tt, vl, lm⟩, rfl⟩
theorem act_open {fuel : Nat} {cs : List Value} {x : DataW H × List MemPlace} (h : DataW.trod enc Tryz.prog w base (fun _ => true) held fuel 57 cs = some x) : ∃ a : Ac, cs = acc a ∧ AcOk w a ∧ ((∀ n ∈ x.1.weights Tryz.prog 57, n ≤ reachBytes) → True) := by
 obtain ⟨y0, y1, y2, y3, y4, y5, n, hx, hl, h0, h1, h2, h3, h4, h5⟩ := struct6 Tryz.underlying57 h
 rw [cAc] at hl
 obtain ⟨k0, k1, k2, cs3, e⟩ : ∃ k0 k1 k2 r, cs = k0 :: k1 :: k2 :: r := by
  match cs, hl with
  | k0 :: k1 :: k2 :: r, _ => exact ⟨k0, k1, k2, r, rfl⟩
 subst e
 simp only [c3, c31u, cOp, cRp, cLe, List.drop_zero, List.take_succ_cons, List.take_zero, List.drop_succ_cons] at h0 h1 h2 h3 h4 h5
 obtain ⟨wh, e0, -, -⟩ := DataW.trod_int Tryz.underlying3 h0
 obtain ⟨rw', e1, -, w1⟩ := DataW.trod_int Tryz.underlying3 h1
 obtain ⟨ph, e2, -, w2⟩ := DataW.trod_int Tryz.underlying31 h2
 obtain ⟨ph, rfl, -, -, -⟩ := nat_of (.inr (.inr rfl)) w2
 obtain ⟨o, e3⟩ := op_open h3
 obtain ⟨r, pa, pc, e4, hr⟩ := rp_open h4
 obtain ⟨l, wa, sa, pa2, wc, sc, pc2, e5, hle⟩ := le_open h5
 simp only [List.cons.injEq, and_true] at e0 e1 e2
 subst e0 e1 e2
 have hcs : cs3 = cs3.take 5 ++ ((cs3.drop 5).take 14 ++ (cs3.drop 19).take 31) := by
  have hl3 : cs3.length = 50 := by simpa using hl
  have h1 : (cs3.drop 19).take 31 = cs3.drop 19 := List.take_of_length_le (by rw [List.length_drop]; omega)
  rw [h1]
  have h2 : (cs3.drop 5).take 14 ++ cs3.drop 19 = cs3.drop 5 := by
   have := List.take_append_drop 14 (cs3.drop 5)
   rw [List.drop_drop] at this
   exact this
  rw [h2, List.take_append_drop]
 refine ⟨⟨wh, rw', ph, o, r, l, .slice pa r.ps.length pc, .slice wa l.q.ws.length wc, .slice sa l.q.sk.length sc, .slice pa2 l.r.ps.length pc2⟩, ?_, ⟨⟨rfl, rfl, rfl, rfl⟩, i64_rg w1, hr, hle⟩, fun _ => trivial⟩
 rw [hcs, e3, e4, e5]
 rfl
theorem acts_open {fuel : Nat} {v : Value} {x : DataW H × List MemPlace} (h : DataW.trod enc Tryz.prog w base (fun _ => true) held fuel 22 [v] = some x) : ∃ (L : List Ac) (ao : Option Addr) (cap : Nat), v = .slice ao L.length cap ∧ RwAt w.heap.size 53 (.slice ao L.length cap) L.length (rowC acc L) w ∧ ∀ a ∈ L, AcOk w a := by
 obtain ⟨L, ao, cap, e, hr, h1, -⟩ := row_open dac acc 53 (by omega) acc_len Tryz.underlying22 cAc (fun a => AcOk w a) (fun _ => True) act_open h
 exact ⟨L, ao, cap, e, hr, h1⟩
end
end Opn
end Go.Proofs.YtkdkgdollmmcnaaGreat
namespace Go.Proofs.YtkdkgdollmmcnaaGreat
open Go.RowKit Go.Sort Go.Shelf
variable {W W' w : World} {X : Ss} {Lb : List Bo} {vS : Value} {S : List Lx} {sb k : Nat}
theorem lx_lfc {x : Lx} (h1 : x.l.an = false) (h2 : x.l.r = zR) : lxc x = lfc x.l x.vw x.vs sy := by
 unfold lxc lfc lec
 rw [h1, h2]
 rfl
end Go.Proofs.YtkdkgdollmmcnaaGreat
