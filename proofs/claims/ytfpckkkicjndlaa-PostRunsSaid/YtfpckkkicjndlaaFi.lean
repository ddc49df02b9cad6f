/-
  PostFirst, walked.
-/
import Derived.Test.YtfpckkkicjndlaaAw
namespace Go.Proofs.Ytfpckkkicjndlaa
open Go.RowKit Go.Sort
variable {PA : Nat → Nat → (Nat → Prop) → Kq → World → Prop}

theorem run_neq9 (a b : Tx) (w : World) : (binOp .neq 9 (.string (bs a)) (.string (bs b))).run Try.prog w = .ok (.bool (!(a == b))) w := by
  simp [go_sem, bs_beq]
theorem send_take {l : Kq} {m : Nat} (h : m < l.length) (hl : l.length ≤ 200) : sendF (l.getD m []) (l.take m) = l.take (m + 1) ∧ sendB (l.take m) = true := by
  have h1 : (l.take m).length < 200 := by simp; omega
  refine ⟨?_, by simp [sendB]; omega⟩
  unfold sendF
  rw [if_pos h1, List.take_succ_eq_append_getElem h]
  simp [List.getD, h]
theorem take_drop {l : Kq} {m : Nat} (h : m < l.length) : takeF 0 (l.drop m) = l.drop (m + 1) ∧ atF 0 (l.drop m) = l.getD m [] ∧ someB (l.drop m) = true := by
  have h3 : someB (l.drop m) = true := by simp [someB]; omega
  refine ⟨?_, ?_, h3⟩ <;> rw [List.drop_eq_getElem_cons h]
  · exact take_first _ _
  rw [at_first]
  simp [List.getD, h]
set_option maxHeartbeats 1600000 in
set_option maxRecDepth 100000 in
theorem first5 (I : Ifo PA) (l : Kq) (ao : Option Addr) (cp : Nat) (w : World) (hws : KsAt w.heap.size (.slice ao l.length cp) l w) : Calls Try.prog 5 #[.slice ao l.length cp] w fun r w' => r = .returned (.bool true) ∧ Below w.heap.size w w' := by
  obtain ⟨ao', cap, he, hla, hma⟩ := hws.shape
  simp only [Value.slice.injEq, true_and] at he
  obtain ⟨rfl, rfl⟩ := he
  have CA : Hid (1 = 1 → Calls Try.prog 6 #[] w fun e w' => e = .returned (.bool true) ∧ Below w.heap.size w w') := fun _ => awake6 I w
  have HA : Hid (∀ W, Below w.heap.size w W → KsAt w.heap.size (.slice ao l.length cp) l W) := fun W h => hws.on h
  clear hws
  go_enter Try.func5, Try.ntmps5
  go_wp2_with fail
  refine (CA.out (by trivial)).mono ?_
  rintro r w1 ⟨rfl, hb1⟩
  have H1 : Hid (Below w.heap.size w w1) := hb1
  clear hb1 CA
  by_cases h200 : (l.length : Int) > 200
  · go_wp2_with fail
    go_ret
    exact ⟨rfl, H1.out⟩
  have HL : Hid (l.length ≤ 200) := by show _ ≤ _; omega
  have CN : Hid (1 = 1 → _) := fun _ => pz_new I (w := w) (W := w1) (F := nF) H1.out (fun _ h => h.elim)
  go_wp2_with fail
  refine (CN.out (by trivial)).mono ?_
  rintro e w2 ⟨p, rfl, hp, -⟩
  have H2 : Hid (Pz PA w p [] nF w2) := hp
  clear hp CN H1
  go_wp2_with fail
  go_loopw [20] (fun i wr => ∃ m : Nat, m ≤ l.length ∧ i = .int .i64 m ∧ Hid (Pz PA w p (l.take m) nF wr)) (fun i _ => l.length - (intOf i).toNat)
  case atStart => exact ⟨0, Nat.zero_le _, rfl, H2.out⟩
  case round =>
    obtain ⟨m, hm, rfl, HE⟩ := hrel
    clear H2
    by_cases hml : m < l.length
    · have hml1 : (m : Int) < l.length := by omega
      obtain ⟨b1, o1, rfl, d0⟩ := (HA.out wr HE.out.bel).el hml
      obtain ⟨e1, e2⟩ := send_take hml HL.out
      have CS : Hid (1 = 1 → _) := fun _ => pz_send I (l.getD m []) HE.out
      rw [e1, e2] at CS
      clear e1 e2
      generalize l.getD m [] = x at *
      go_wp2_with fail
      refine (CS.out (by trivial)).mono ?_
      rintro r w3 ⟨rfl, hp, -⟩
      have H3 : Hid (Pz PA w p (l.take (m + 1)) nF w3) := hp
      clear hp CS HE d0
      go_wp2_with fail
      go_roundw
      case rel => exact ⟨m + 1, hml, by go_num, H3.out⟩
      case measure => simp [intOf]; omega
    · have hml1 : ¬ (m : Int) < l.length := by omega
      have HR : Hid (Pz PA w p l nF wr) := by
        have := HE.out
        rw [List.take_of_length_le (by omega)] at this
        exact this
      clear HE
      go_wp2_with fail
      go_loopw [31] (fun i wr => ∃ k : Nat, k ≤ l.length ∧ i = .int .i64 k ∧ Hid (Pz PA w p (l.drop k) nF wr)) (fun i _ => l.length - (intOf i).toNat)
      case atStart => exact ⟨0, Nat.zero_le _, rfl, HR.out⟩
      case round =>
        obtain ⟨k, hk, rfl, HE⟩ := hrel
        clear HR
        by_cases hkl : k < l.length
        · have hkl1 : (k : Int) < l.length := by omega
          obtain ⟨b1, o1, rfl, d0⟩ := (HA.out wr HE.out.bel).el hkl
          obtain ⟨e1, e2, e3⟩ := take_drop hkl
          have CT : Hid (1 = 1 → _) := fun _ => pz_take I 0 ⟨by decide, by decide⟩ HE.out
          rw [e1, e2, e3] at CT
          clear e1 e2 e3
          generalize l.getD k [] = x at *
          have en := run_neq9 x x
          simp only [beq_self_eq_true, Bool.not_true] at en
          go_wp2_with fail
          refine (CT.out (by trivial)).mono ?_
          rintro r w3 ⟨rfl, hp, -⟩
          have H3 : Hid (Pz PA w p (l.drop (k + 1)) nF w3) := hp
          clear hp CT HE d0
          go_wp2_with fail
          go_roundw
          case rel => exact ⟨k + 1, hkl, by go_num, H3.out⟩
          case measure => simp [intOf]; omega
        · have hkl1 : ¬ (k : Int) < l.length := by omega
          have HR : Hid (Pz PA w p [] nF wr) := by
            have := HE.out
            rw [List.drop_of_length_le (by omega)] at this
            exact this
          clear HE
          have CT : Hid (1 = 1 → Calls Try.prog 10 #[.pointer (some ⟨p, 0, none⟩), .int .i64 0] wr fun e w' => e = .returned (.tuple #[.string (bs []), .bool false]) ∧ Pz PA w p (takeF 0 []) nF w' ∧ Kp nF w wr w') := fun _ => pz_take I 0 ⟨by decide, by decide⟩ HR.out
          go_wp2_with fail
          refine (CT.out (by trivial)).mono ?_
          rintro r w3 ⟨rfl, hp, -⟩
          have H3 : Hid (Below w.heap.size w w3) := hp.bel
          clear hp CT HR
          go_wp2_with fail
          go_ret
          exact ⟨rfl, H3.out⟩
end Go.Proofs.Ytfpckkkicjndlaa
