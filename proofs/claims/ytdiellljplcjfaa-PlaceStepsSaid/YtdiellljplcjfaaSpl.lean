/-
  PlaceSplits, walked, over the document's Split too.
-/
import Derived.Test.YtdiellljplcjfaaSs
namespace Go.Proofs.Ytdiellljplcjfaa
open Go.RowKit Go.Sort

theorem or8 (f g : Nat) (hf : f < 256) (hg : g < 256) : bits BinOp.or IntKind.u8 (f : Int) (g : Int) = ((f ||| g : Nat) : Int) := by
  have hlt : f ||| g < 256 := Nat.or_lt_two_pow (n := 8) hf hg
  unfold bits
  simp
  have e1 : f % 2 ^ IntKind.u8.bits = f := Nat.mod_eq_of_lt (by show f < 2 ^ 8; omega)
  have e2 : g % 2 ^ IntKind.u8.bits = g := Nat.mod_eq_of_lt (by show g < 2 ^ 8; omega)
  rw [e1, e2]
  generalize f ||| g = x at *
  simp [IntKind.wrap, IntKind.signed, IntKind.bits]
  omega
theorem pm8 (m : Nat) (h : m < 8) : (2 : Int) ^ m % 256 = ((2 ^ m : Nat) : Int) := by
  match m, h with
  | 0, _ => rfl
  | 1, _ => rfl
  | 2, _ => rfl
  | 3, _ => rfl
  | 4, _ => rfl
  | 5, _ => rfl
  | 6, _ => rfl
  | 7, _ => rfl
/-- What is asked of the document's Split. -/
def R16 : Prop := ∀ (l : List Wr) (ao : Option Addr) (cp : Nat) (n : Int) (w : World), l.length ≤ 1000 → WsAt w.heap.size (.slice ao l.length cp) l w → Calls Try.prog 16 #[.slice ao l.length cp, .int .i64 n] w fun r w' => (∃ v, r = .returned v ∧ SsAt v (splitF l n) w') ∧ Below w.heap.size w w'
/-- The writes that came in, both splits. -/
structure Sq (w : World) (va vb : Value) (L : List (List Wr)) (v : Value) (l : List Wr) (W : World) : Prop where
  bel : Below w.heap.size w W
  a : SsAt va L W
  b : SsAt vb L W
  ws : WsAt w.heap.size v l W
theorem Sq.on {w W W' : World} {va vb v : Value} {L : List (List Wr)} {l : List Wr} (h : Sq w va vb L v l W) (hb : Below W.heap.size W W') : Sq w va vb L v l W' :=
  ⟨h.bel.trans (hb.mono h.bel.size), h.a.on hb, h.b.on hb, h.ws.on (hb.mono h.bel.size)⟩
theorem Sq.dr {w W : World} {va vb v : Value} {L : List (List Wr)} {l : List Wr} (h : Sq w va vb L v l W) (n : Nat) : Sq w va vb L v l (W.drewN n) := h.on (below_drewN (Below.refl _ _) n)
set_option maxHeartbeats 3200000 in
set_option maxRecDepth 100000 in
theorem splits4 (I : Ifq) (R : R16) (l : List Wr) (ao : Option Addr) (cp : Nat) (n : Int) (w : World) (hk : ∀ x ∈ l, x.key.length ≤ 140737488355328) (n0 : -9223372036854775808 ≤ n) (n1 : n ≤ 9223372036854775807) (hws : WsAt w.heap.size (.slice ao l.length cp) l w) : Calls Try.prog 4 #[.slice ao l.length cp, .int .i64 n] w fun e w' => e = .returned (.bool true) ∧ Below w.heap.size w w' := by
  have CA : Hid (1 = 1 → Calls Try.prog 8 #[] w fun e w' => e = .returned (.bool true) ∧ Below w.heap.size w w') := fun _ => awake8 I.p w
  by_cases hl : 1000 < l.length
  · have hl1 : (1000 : Int) < l.length := by omega
    go_enter Try.func4, Try.ntmps4
    go_wp2_with fail
    refine (CA.out (by trivial)).mono ?_
    rintro r w1 ⟨rfl, hb1⟩
    go_wp2_with fail
    go_ret
    exact ⟨rfl, hb1⟩
  · have hl1 : ¬ (1000 : Int) < l.length := by omega
    have CS : Hid (∀ W : World, WsAt w.heap.size (.slice ao l.length cp) l W ∧ Below w.heap.size w W → Calls Try.prog 15 #[.slice ao l.length cp, .int .i64 n] W fun r w' => (∃ v, r = .returned v ∧ SsAt v (splitF l n) w') ∧ Below W.heap.size W w') := fun W h => I.sp l ao cp n W (by omega) hk n0 n1 (RwAt.le h.1 h.2.size)
    have CR : Hid (∀ W : World, WsAt w.heap.size (.slice ao l.length cp) l W ∧ Below w.heap.size w W → Calls Try.prog 16 #[.slice ao l.length cp, .int .i64 n] W fun r w' => (∃ v, r = .returned v ∧ SsAt v (splitF l n) w') ∧ Below W.heap.size W w') := fun W h => R l ao cp n W (by omega) (RwAt.le h.1 h.2.size)
    have CP : Hid (∀ W : World, WsAt w.heap.size (.slice ao l.length cp) l W ∧ Below w.heap.size w W → Calls Try.prog 17 #[.slice ao l.length cp, .int .i64 n] W fun r w' => r = .returned (.int .u8 (bitsL (splitF l n) : Int)) ∧ Below W.heap.size W w') := fun W h => I.pa l ao cp n W (by omega) hk n0 n1 (RwAt.le h.1 h.2.size)
    have h8 := split_len l n
    have HW : Hid _ := hws
    generalize splitF l n = L at *
    clear hws hk n0 n1
    go_enter Try.func4, Try.ntmps4
    go_wp2_with fail
    refine (CA.out (by trivial)).mono ?_
    rintro r w1 ⟨rfl, hb1⟩
    have H1 : Hid (Below w.heap.size w w1 ∧ WsAt w.heap.size (.slice ao l.length cp) l w1) := ⟨hb1, HW.out.on hb1⟩
    clear hb1 CA HW
    go_wp2_with fail
    refine (CS.out _ ⟨H1.out.2, H1.out.1⟩).mono ?_
    rintro r w2 ⟨⟨va, rfl, hva⟩, hb2⟩
    have H2 : Hid (Below w.heap.size w w2 ∧ WsAt w.heap.size (.slice ao l.length cp) l w2 ∧ SsAt va L w2) := ⟨H1.out.1.trans (hb2.mono H1.out.1.size), H1.out.2.on (hb2.mono H1.out.1.size), hva⟩
    clear hb2 hva CS H1
    go_wp2_with fail
    refine (CR.out _ ⟨H2.out.2.1, H2.out.1⟩).mono ?_
    rintro r w3 ⟨⟨vb, rfl, hvb⟩, hb3⟩
    have H3 : Hid (Sq w va vb L (.slice ao l.length cp) l w3) := ⟨H2.out.1.trans (hb3.mono H2.out.1.size), H2.out.2.2.on hb3, hvb, H2.out.2.1.on (hb3.mono H2.out.1.size)⟩
    clear hb3 hvb CR H2
    obtain ⟨aa, ca, rfl, hca, hca'⟩ := H3.out.a.shape
    obtain ⟨ab, cb, rfl, hcb, hcb'⟩ := H3.out.b.shape
    go_wp2_with fail
    go_loopw [7, 28] (fun q i wr => ∃ m : Nat, m ≤ L.length ∧ i = .int .i64 m ∧ q = .int .u8 (bitsL (L.take m) : Int) ∧ Hid (Sq w (.slice aa L.length ca) (.slice ab L.length cb) L (.slice ao l.length cp) l wr)) (fun _ i _ => L.length - (intOf i).toNat)
    case atStart => exact ⟨0, Nat.zero_le _, rfl, rfl, H3.out⟩
    case round =>
      obtain ⟨m, hm, rfl, rfl, HE⟩ := hrel
      clear H3
      by_cases hml : m < L.length
      · have hml1 : (m : Int) < L.length := by omega
        have hm8 : m < 8 := by omega
        obtain ⟨b1, o1, a1, c1, rfl, p1, W1⟩ := HE.out.a.row hml
        obtain ⟨b2, o2, a2, c2, rfl, p2, W2⟩ := HE.out.b.row hml
        have HSh : Hid _ := pm8 m hm8
        have HST : Hid _ := bits_step hml
        have hbl : bitsL (L.take m) < 256 := bitsL_lt (by rw [List.length_take]; omega)
        have HQ : Hid (m + 1 ≤ L.length) := hml
        obtain ⟨r, hr⟩ : ∃ r, L.getD m [] = r := ⟨_, rfl⟩
        rw [hr] at p1 p2 W1 W2 HST
        have hrl : r.length < 9223372036854775808 := by have := W1.shape; obtain ⟨_, _, _, _, _⟩ := this; omega
        clear W1 W2
        go_upto_region 12 with fail
        go_quiet (fail)
        have HD : Hid (Sq w (.slice (some ⟨b1, o1, none⟩) L.length ca) (.slice (some ⟨b2, o2, none⟩) L.length cb) L (.slice ao l.length cp) l (wr.drewN nq)) := HE.out.dr nq
        have p3 : (wr.drewN nq).cell? ⟨b1, o1 + m, none⟩ = some (.slice a1 r.length c1) := p1
        generalize wr.drewN nq = wd at *
        clear p1 p2 HE
        go_wp2_with fail
        clear p3
        obtain ⟨P, hP⟩ : ∃ P, bitsL (L.take m) = P := ⟨_, rfl⟩
        rw [hP] at HST hbl ⊢
        clear hP
        go_loopw [7, 47] (fun q j wq => ∃ k : Nat, k ≤ r.length ∧ j = .int .i64 k ∧ q = .int .u8 ((if k = 0 then P else P ||| 2 ^ m : Nat) : Int) ∧ Hid (Sq w (.slice (some ⟨b1, o1, none⟩) L.length ca) (.slice (some ⟨b2, o2, none⟩) L.length cb) L (.slice ao l.length cp) l wq)) (fun _ j _ => r.length - (intOf j).toNat)
        case atStart => exact ⟨0, Nat.zero_le _, rfl, rfl, HD.out⟩
        case round =>
          obtain ⟨k, hk, rfl, rfl, HF⟩ := hrel
          clear HD
          by_cases hkl : k < r.length
          · have hkl1 : (k : Int) < r.length := by omega
            have HK : Hid (k + 1 ≤ r.length) := hkl
            obtain ⟨b3, o3, a3, c3, e3, p3, W3⟩ := HF.out.a.row hml
            obtain ⟨b4, o4, a4, c4, e4, p4, W4⟩ := HF.out.b.row hml
            cases e3
            cases e4
            rw [hr] at p3 p4 W3 W4
            obtain ⟨g1, f1, rfl, d1⟩ := W3.el hkl
            obtain ⟨g2, f2, rfl, d2⟩ := W4.el hkl
            obtain ⟨s0, s1, s2⟩ := d1
            obtain ⟨t0, t1, t2⟩ := d2
            generalize r.getD k dw = x at *
            have e5 := run_neq40 x
            have hP2 : (if k = 0 then P else P ||| 2 ^ m) < 256 := by
              split
              · exact hbl
              · exact Nat.or_lt_two_pow (n := 8) hbl (Nat.pow_lt_pow_right (by decide) hm8)
            have HO : Hid (bits BinOp.or IntKind.u8 (((if k = 0 then P else P ||| 2 ^ m : Nat)) : Int) ((2 ^ m : Nat) : Int) = ((P ||| 2 ^ m : Nat) : Int)) := by
              show _ = _
              rw [or8 _ _ hP2 (Nat.pow_lt_pow_right (a := 2) (n := 8) (by decide) hm8)]
              congr 1
              split
              · rfl
              · rw [Nat.or_assoc, Nat.or_self]
            generalize (if k = 0 then P else P ||| 2 ^ m : Nat) = Q at *
            clear W3 W4
            go_upto_region 17 with fail
            go_quiet (fail)
            have HG : Hid (Sq w (.slice (some ⟨b1, o1, none⟩) L.length ca) (.slice (some ⟨b2, o2, none⟩) L.length cb) L (.slice ao l.length cp) l (wr.drewN nq)) := HF.out.dr nq
            generalize wr.drewN nq = we at *
            clear HF p3 p4 s0 s1 s2 t0 t1 t2 e5
            go_wp2_with fail
            go_roundw
            case rel => exact ⟨k + 1, HK.out, by go_num, by rw [if_neg (by omega), ← HO.out, HSh.out], HG.out⟩
            case measure => simp [intOf]; omega
          · have hkl1 : ¬ (k : Int) < r.length := by omega
            have HR : Hid ((if k = 0 then P else P ||| 2 ^ m) = bitsL (L.take (m + 1))) := by
              show _ = _
              rw [HST.out]
              have hk2 : k = r.length := by omega
              cases r with
              | nil => simp [hk2]
              | cons a t => rw [if_neg (by rw [hk2]; simp)]; simp
            go_wp2_with fail
            go_roundw
            case rel => exact ⟨m + 1, HQ.out, by go_num, by rw [← HR.out], HF.out⟩
            case measure => simp [intOf]; omega
      · have hml1 : ¬ (m : Int) < L.length := by omega
        have HTL : Hid (bitsL (L.take m) = bitsL L) := by show _ = _; rw [List.take_of_length_le (by omega)]
        go_wp2_with fail
        refine (CP.out _ ⟨HE.out.ws, HE.out.bel⟩).mono ?_
        rintro r w5 ⟨rfl, hb5⟩
        have H5 : Hid (Below w.heap.size w w5) := HE.out.bel.trans (hb5.mono HE.out.bel.size)
        clear hb5 CP HE
        rw [HTL.out]
        go_wp2_with fail
        go_ret
        exact ⟨rfl, H5.out⟩
end Go.Proofs.Ytdiellljplcjfaa
