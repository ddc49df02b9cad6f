/-
  Contracts of intents, By, All.
-/
import Derived.Test.YtknfkpnicjellaaOf
namespace Go.Proofs.Ytknfkpnicjellaa
open Go.RowKit

theorem ks_el {B : Nat} {ao : Option Addr} {cap n : Nat} {K : List (List UInt8)} {w : World} (h : RwAt B 1 (.slice ao n cap) n (kc K) w) {i : Nat} (hi : i < K.length) : ∃ b off, ao = some ⟨b, off, none⟩ ∧ w.cell? ⟨b, off + i, none⟩ = some (.string (bs (K.getD i []))) := by
  obtain ⟨b, off, e, _, hc⟩ := RwAt.cellAt h (j := i) (by rw [kc_length]; exact hi)
  exact ⟨b, off, e, hc i _ (by simp [kc, List.getD, hi])⟩
theorem int_snoc {T : Tb} {K : List (List UInt8)} {m : Nat} (h : m < K.length) : intF T (K.take (m + 1)) = intF T (K.take m) ++ [(K.getD m [], (getF (K.getD m []) T).getD zi)] := by
  rw [List.take_succ_eq_append_getElem h]
  simp only [intF, List.map_append, List.map_cons, List.map_nil, List.getD, List.getElem?_eq_getElem h, Option.getD_some]

theorem size_al (w : World) (o : Obj) : (w.alloc o).heap.size = w.heap.size + 1 := by simp

set_option maxHeartbeats 1600000 in
set_option maxRecDepth 100000 in
theorem intents48 {B p pm hb : Nat} {t : Tr} {m : Mm} {T : Tb} {w : World} (K : List (List UInt8)) (v : Value) (h : Tx B p pm hb t m w) (hr : Rel t.toL m T) (hK : RwAt w.heap.size 1 v K.length (kc K) w) (hin : ∀ k ∈ K, (getF k T).isSome = true) (hl : K.length < 100000) :
    Calls Try.prog 48 #[.pointer (some ⟨p, 0, none⟩), v] w fun e w' => ∃ v', e = .returned v' ∧ w'.ownsRow w.heap.size 49 10 v' (intF T K).length (rowC inc (intF T K)) ∧ Below w.heap.size w w' := by
  obtain ⟨i0, hin0, hi0, hi1, hi2⟩ := info_parts info49
  have HK : Hid (RwAt w.heap.size 1 v K.length (kc K) w) := hK
  obtain ⟨ao, cap, rfl, -, hlc, hcm, -⟩ := hK
  have HOf : Hid (∀ (i : Nat) W, i < K.length → Below w.heap.size w W → Calls Try.prog 19 #[.pointer (some ⟨p, 0, none⟩), .string (bs (K.getD i []))] W fun e w' => ∃ x : Ii, e = .returned (.tuple #[inV (K.getD i [], x), .bool true]) ∧ intF T (K.take (i + 1)) = intF T (K.take i) ++ [(K.getD i [], x)] ∧ Below W.heap.size W w') := fun i W hi hb => by
    refine (of19 (K.getD i []) (h.on hb) hr).mono ?_
    rintro e w' ⟨rfl, hb'⟩
    have hk := hin (K.getD i []) (by rw [List.getD, List.getElem?_eq_getElem hi]; exact List.getElem_mem hi)
    cases hg : getF (K.getD i []) T with
    | none => rw [hg] at hk; cases hk
    | some x =>
      refine ⟨x, rfl, ?_, hb'⟩
      rw [int_snoc hi, hg]
      rfl
  have HE : Hid (∀ (i : Nat) W, i < K.length → Below w.heap.size w W → ∃ b off, ao = some ⟨b, off, none⟩ ∧ W.cell? ⟨b, off + i, none⟩ = some (.string (bs (K.getD i [])))) := fun i W hi hb => ks_el (RwAt.on HK.out hb) hi
  have hL9 : K.length < 9223372036854775808 := by omega
  have HLn : Hid (K.length < 100000) := hl
  clear h hr hin hl hlc hcm HK
  go_enter Try.func48, Try.ntmps48
  go_wp2_with fail
  go_loopw [5, 12] (fun vv i wr => ∃ q : Nat, q ≤ K.length ∧ i = .int .i64 q ∧ wr.ownsRow w.heap.size 49 10 vv (intF T (K.take q)).length (rowC inc (intF T (K.take q))) ∧ Below w.heap.size w wr) (fun _ i _ => K.length - (intOf i).toNat)
  case atStart => exact ⟨0, Nat.zero_le _, rfl, own_nil _ _ _ _, Below.refl _ _⟩
  case round =>
    obtain ⟨q, hq, rfl, hown, hbr⟩ := hrel
    obtain ⟨sa, sc, rfl, -, -, -, -⟩ := rw_own hown
    have HO : Hid _ := hown
    have HB : Hid (Below w.heap.size w wr) := hbr
    clear hown hbr
    by_cases hml : q < K.length
    · obtain ⟨b, off, rfl, e0⟩ := HE.out q wr hml HB.out
      have hml' : (q : Int) < K.length := by omega
      have CO : Hid (1 = 1 → _) := fun _ => HOf.out q wr hml HB.out
      have hln : (intF T (K.take q)).length < 100000 := by rw [int_len]; have := List.length_take_le q K; have := HLn.out; omega
      obtain ⟨R, hR⟩ : ∃ R, intF T (K.take q) = R := ⟨_, rfl⟩
      rw [hR] at HO hln CO
      obtain ⟨R1, hR1⟩ : ∃ R1, intF T (K.take (q + 1)) = R1 := ⟨_, rfl⟩
      rw [hR1] at CO
      have HR1 : Hid (intF T (K.take (q + 1)) = R1) := hR1
      have HQ : Hid (q + 1 ≤ K.length) := hml
      rw [hR]
      clear hR hR1 HE HOf hq
      generalize K.getD q [] = a at *
      go_wp2_with fail
      refine (CO.out (by trivial)).mono ?_
      rintro e w2 ⟨s, rfl, hS, hb2⟩
      have HS : Hid (R1 = R ++ [(a, s)]) := hS
      have HB2 : Hid (Below w.heap.size w w2) := HB.out.trans (hb2.mono HB.out.size)
      have HOw : Hid (Ow w.heap.size 49 10 (.slice sa R.length sc) R.length (rowC inc R) ((w2.alloc (.cells (inc (a, s)).toArray 49)).heap.size + 1) (.slice (some ⟨(w2.alloc (.cells (inc (a, s)).toArray 49)).heap.size, 0, none⟩) 1 1) 1 (rowC inc [(a, s)]) ((w2.alloc (.cells (inc (a, s)).toArray 49)).alloc (.cells (inc (a, s)).toArray 49))) := in_ow (a, s) ((own_on HO.out hb2).alloc _) (Nat.le_trans HB2.out.size (by simp)) (by omega)
      have HBz : Hid (Below w.heap.size w ((w2.alloc (.cells (inc (a, s)).toArray 49)).alloc (.cells (inc (a, s)).toArray 49))) := (HB2.out.alloc HB2.out.size _).alloc (Nat.le_trans HB2.out.size (by simp)) _
      clear hS hb2 HO HB HB2 CO e0
      simp only [inV]
      simp only [inc] at HOw HBz
      rw [size_al] at HOw
      go_wp2_with (at_builtin; refine wpList_append_rw HOw.out Try.underlying27 hin0 hi0 hi1 hi2 rfl (by decide) (by decide) (.tmp 22) (.tmp 24) rfl rfl rfl rfl ?_)
      intro v' w4 hown hg hat
      have HB4 : Hid (Below w.heap.size w w4) := below_own HBz.out HOw.out.size HOw.out.own hg
      obtain ⟨sa4, sc4, rfl, -, -, -, -⟩ := rw_own hown
      have HO4 : Hid (w4.ownsRow w.heap.size 49 10 (.slice sa4 (R.length + 1) sc4) (R ++ [(a, s)]).length (rowC inc (R ++ [(a, s)]))) := by
        rw [rowC_append, List.length_append]
        exact hown
      clear hown hg hat HOw HBz
      go_wp2_with fail
      go_roundw
      case rel => exact ⟨q + 1, HQ.out, by go_num, by rw [HR1.out, HS.out]; exact HO4.out, HB4.out⟩
      case measure => simp [intOf]; omega
    · have hml' : ¬ (q : Int) < K.length := by omega
      have HZ : Hid (intF T K = intF T (K.take q)) := by show _ = _; rw [List.take_of_length_le (by omega)]
      obtain ⟨R, hR⟩ : ∃ R, intF T (K.take q) = R := ⟨_, rfl⟩
      rw [hR] at HO HZ
      rw [hR]
      clear hR
      go_wp2_with fail
      go_ret
      exact ⟨_, rfl, by rw [HZ.out]; exact HO.out, HB.out⟩
end Go.Proofs.Ytknfkpnicjellaa
