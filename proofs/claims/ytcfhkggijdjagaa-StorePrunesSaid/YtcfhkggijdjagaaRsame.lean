/-
  The document's answer: the same pairs, the same items.
-/
import Derived.Test.YtcfhkggijdjagaaRput
import Derived.Test.YtcfhkggijdjagaaScanp
namespace Go.Proofs.Ytcfhkggijdjagaa
open Go.RowKit

theorem pr_ext {A B : List (List UInt8 × List UInt8)} (hl : A.length = B.length) (h : ∀ i, i < A.length → A.getD i dp = B.getD i dp) : A = B := by
  refine List.ext_getElem hl fun i h1 h2 => ?_
  have := h i h1
  simpa [List.getD, List.getElem?_eq_getElem h1, List.getElem?_eq_getElem h2] using this
theorem run_neq59 (a b a' b' : List UInt8) (w : World) : (binOp .neq 59 (.agg #[.string (bs a), .string (bs b)]) (.agg #[.string (bs a'), .string (bs b')])).run Try.prog w = .ok (.bool (!(a == a' && b == b'))) w := by
  simp [go_sem, bs_beq]
  repeat' split
  all_goals simp_all
/-- Pairs at a slice. -/
def PsAt (B : Nat) (v : Value) (L : List (List UInt8 × List UInt8)) (w : World) : Prop := RwAt B 2 v L.length (prc L) w
theorem PsAt.shape {B : Nat} {v : Value} {L : List (List UInt8 × List UInt8)} {w : World} (h : PsAt B v L w) : ∃ ao cap, v = .slice ao L.length cap ∧ L.length ≤ cap ∧ cap ≤ 9223372036854775807 := by
  obtain ⟨ao, cap, e, _, h1, h2, _⟩ := h
  exact ⟨ao, cap, e, h1, h2⟩
theorem PsAt.el {B : Nat} {ao : Option Addr} {cap : Nat} {L : List (List UInt8 × List UInt8)} {w : World} (h : PsAt B (.slice ao L.length cap) L w) {i : Nat} (hi : i < L.length) : ∃ b off, ao = some ⟨b, off, none⟩ ∧ w.cell? ⟨b, off + i * 2, none⟩ = some (.string (bs (L.getD i dp).1)) ∧ w.cell? ⟨b, off + i * 2 + 1, none⟩ = some (.string (bs (L.getD i dp).2)) := by
  obtain ⟨h1, h2⟩ := prc_at L i hi
  obtain ⟨b, off, e, _, hc⟩ := RwAt.cellAt h (j := 0) (by rw [prc_length]; omega)
  exact ⟨b, off, e, hc _ _ h1, hc _ _ h2⟩

set_option maxHeartbeats 1600000 in
theorem pairs21 (Ba Bb : Nat) (A B : List (List UInt8 × List UInt8)) (va vb : Value) (w : World) (ha : PsAt Ba va A w) (hb : PsAt Bb vb B w) :
    Calls Try.prog 21 #[va, vb] w fun e w' => e = .returned (.bool (A == B)) ∧ Below w.heap.size w w' := by
  have HA : Hid _ := ha
  have HB : Hid _ := hb
  obtain ⟨ao, ca, rfl, hla, hma⟩ := ha.shape
  obtain ⟨bo, cb, rfl, hlb, hmb⟩ := hb.shape
  have HEA : Hid (∀ i, i < A.length → ∃ b off, ao = some ⟨b, off, none⟩ ∧ w.cell? ⟨b, off + i * 2, none⟩ = some (.string (bs (A.getD i dp).1)) ∧ w.cell? ⟨b, off + i * 2 + 1, none⟩ = some (.string (bs (A.getD i dp).2))) := fun i hi => ha.el hi
  have HEB : Hid (∀ i, i < B.length → ∃ b off, bo = some ⟨b, off, none⟩ ∧ w.cell? ⟨b, off + i * 2, none⟩ = some (.string (bs (B.getD i dp).1)) ∧ w.cell? ⟨b, off + i * 2 + 1, none⟩ = some (.string (bs (B.getD i dp).2))) := fun i hi => hb.el hi
  obtain ⟨r, hr⟩ : ∃ r, (A == B) = r := ⟨_, rfl⟩
  rw [hr]
  have HR : Hid _ := hr
  have h63 : A.length ≤ 9223372036854775807 := Nat.le_trans hla hma
  clear hr ha hb hla hlb hma hmb HA HB
  by_cases hl : A.length = B.length
  · have hl' : ((A.length : Int) != B.length) = false := by simp [hl]
    have HL : Hid _ := hl
    clear hl
    go_enter Try.func21, Try.ntmps21
    go_wp2_with fail
    go_loopw [5] (fun i wr => ∃ k : Nat, k ≤ A.length ∧ i = .int .i64 k ∧ (∀ j, j < k → A.getD j dp = B.getD j dp) ∧ ∃ n, wr = w.drewN n) (fun i _ => A.length - (intOf i).toNat)
    case atStart => exact ⟨0, Nat.zero_le _, rfl, fun j hj => absurd hj (by omega), 0, rfl⟩
    case round =>
      obtain ⟨k, hk, rfl, hall, n, rfl⟩ := hrel
      have HE : Hid (∀ j, j < k → A.getD j dp = B.getD j dp) := hall
      clear hall
      by_cases hkl : k < A.length
      · obtain ⟨b1, o1, rfl, c0, c1⟩ := HEA.out k hkl
        obtain ⟨b2, o2, rfl, d0, d1⟩ := HEB.out k (show k < B.length by have := HL.out; omega)
        have hkb : (k : Int) < B.length := by have := HL.out; omega
        have HK : Hid (A.getD k dp = B.getD k dp → ∀ j, j < k + 1 → A.getD j dp = B.getD j dp) := fun h j hj => by
          by_cases hjk : j = k
          · subst hjk; exact h
          · exact HE.out j (by omega)
        have HN : Hid (A.getD k dp ≠ B.getD k dp → r = false) := fun h => by
          rw [← HR.out, beq_eq_false_iff_ne]
          intro e
          exact h (by rw [e])
        generalize A.getD k dp = s at c0 c1 HK HN
        generalize B.getD k dp = t at d0 d1 HK HN
        obtain ⟨s1, s2⟩ := s
        obtain ⟨t1, t2⟩ := t
        dsimp only at c0 c1 d0 d1
        have hkl' : (k : Int) < A.length := by omega
        have hrun := run_neq59 s1 s2 t1 t2
        obtain ⟨z, hz⟩ : ∃ z, (s1 == t1 && s2 == t2) = z := ⟨_, rfl⟩
        rw [hz] at hrun
        have HZ : Hid _ := hz
        clear hz
        cases z
        · have HX : Hid (r = false) := HN.out (fun e => by have := HZ.out; injection e with e1 e2; subst e1; subst e2; simp at this)
          go_wp2_with fail
          go_quiet (fail)
          go_wp2
          go_ret
          rw [HX.out]
          exact ⟨rfl, below_drewN (below_drewN (Below.refl _ _) _) _⟩
        · have HX : Hid _ := HK.out (by have := HZ.out; simp at this; rw [this.1, this.2])
          go_wp2_with fail
          go_quiet (fail)
          go_wp2
          go_roundw
          case rel => exact ⟨k + 1, by omega, by go_num, HX.out, _, rfl⟩
          case measure => simp [intOf]; omega
      · have hkl' : ¬ (k : Int) < A.length := by omega
        have HX : Hid (r = true) := by
          show _ = _
          rw [← HR.out, beq_iff_eq]
          exact pr_ext HL.out fun i hi => HE.out i (by omega)
        go_wp2
        go_ret
        rw [HX.out]
        exact ⟨rfl, below_drewN (Below.refl _ _) _⟩
  · have hl' : ((A.length : Int) != B.length) = true := by simp; omega
    have HX : Hid (r = false) := by
      show _ = _
      rw [← HR.out, beq_eq_false_iff_ne]
      exact fun e => hl (by rw [e])
    clear hl
    go_enter Try.func21, Try.ntmps21
    go_wp2
    go_ret
    rw [HX.out]
    exact ⟨rfl, Below.refl _ _⟩

/-- Items at a slice, with their chains. -/
def ItAt (v : Value) (L : Kv Sv) (S : Sk) (w : World) : Prop := RwAt w.heap.size 2 v L.length (itc L) w ∧ Chs w L S
theorem ItAt.on {v : Value} {L : Kv Sv} {S : Sk} {w w' : World} (h : ItAt v L S w) (hb : Below w.heap.size w w') : ItAt v L S w' := ⟨(RwAt.on h.1 hb).le hb.size, h.2.on hb⟩
theorem ItAt.shape {v : Value} {L : Kv Sv} {S : Sk} {w : World} (h : ItAt v L S w) : ∃ ao cap, v = .slice ao S.length cap ∧ S.length ≤ cap ∧ cap ≤ 9223372036854775807 := by
  obtain ⟨ao, cap, e, _, h1, h2, _⟩ := h.1
  rw [h.2.len] at e h1
  exact ⟨ao, cap, e, h1, h2⟩
/-- Item number i: its key, its chain. -/
theorem ItAt.el {ao : Option Addr} {cap : Nat} {L : Kv Sv} {S : Sk} {w : World} (h : ItAt (.slice ao S.length cap) L S w) {i : Nat} (hi : i < S.length) : ∃ b off ca cc, ao = some ⟨b, off, none⟩ ∧ w.cell? ⟨b, off + i * 2, none⟩ = some (.string (bs (S.getD i ds).1)) ∧ w.cell? ⟨b, off + i * 2 + 1, none⟩ = some (.slice ca (S.getD i ds).2.length cc) ∧ VsAt w.heap.size (.slice ca (S.getD i ds).2.length cc) (S.getD i ds).2 w := by
  have hiL : i < L.length := by rw [h.2.len]; exact hi
  obtain ⟨h1, h2⟩ := itc_key L i hiL
  have hr : RwAt w.heap.size 2 (.slice ao L.length cap) L.length (itc L) w := by rw [h.2.len]; have := h.1; rw [h.2.len] at this; exact this
  obtain ⟨b, off, e, _, hc⟩ := RwAt.cellAt hr (j := 0) (by rw [itc_length]; omega)
  obtain ⟨k1, k2⟩ := h.2.at i hiL
  have k1' : (L.getD i dk).1 = (S.getD i ds).1 := k1
  have k2' : VsAt w.heap.size (svV (L.getD i dk).2) (S.getD i ds).2 w := k2
  have k3 := k2'
  obtain ⟨ca, cc, e2, _⟩ := k3
  refine ⟨b, off, ca, cc, e, by rw [← k1']; exact hc _ _ h1, ?_, by rw [← e2]; exact k2'⟩
  rw [← e2]
  exact hc _ _ h2
theorem it_ext {A B : Sk} (hl : A.length = B.length) (h : ∀ i, i < A.length → A.getD i ds = B.getD i ds) : A = B := by
  refine List.ext_getElem hl fun i h1 h2 => ?_
  have := h i h1
  simpa [List.getD, List.getElem?_eq_getElem h1, List.getElem?_eq_getElem h2] using this

/-- Four cells, and what was there at w is as it was. -/
structure C4 (w : World) (a b c d : Addr) (u v x y : Value) (W : World) : Prop where
  c0 : W.cell? a = some u
  c1 : W.cell? b = some v
  c2 : W.cell? c = some x
  c3 : W.cell? d = some y
  bel : Below w.heap.size w W
theorem C4.on {w W W' : World} {a b c d : Addr} {u v x y : Value} (h : C4 w a b c d u v x y W) (hb : Below W.heap.size W W') : C4 w a b c d u v x y W' :=
  ⟨by rw [hb.cell (World.block_lt_of_cell? _ _ h.c0)]; exact h.c0, by rw [hb.cell (World.block_lt_of_cell? _ _ h.c1)]; exact h.c1, by rw [hb.cell (World.block_lt_of_cell? _ _ h.c2)]; exact h.c2, by rw [hb.cell (World.block_lt_of_cell? _ _ h.c3)]; exact h.c3, h.bel.trans (hb.mono h.bel.size)⟩
theorem C4.dr {w W : World} {a b c d : Addr} {u v x y : Value} (h : C4 w a b c d u v x y W) : C4 w a b c d u v x y W.drew := h.on (Below.refl _ _).drew
theorem C4.all {w W : World} {a b c d : Addr} {u v x y : Value} (h : C4 w a b c d u v x y W) : W.cell? a = some u ∧ W.cell? b = some v ∧ W.cell? c = some x ∧ W.cell? d = some y ∧ C4 w a b c d u v x y W := ⟨h.c0, h.c1, h.c2, h.c3, h⟩

set_option maxHeartbeats 1600000 in
theorem same24 (LA LB : Kv Sv) (S : Sk) (va vb : Value) (w : World) (ha : ItAt va LA S w) (hb : ItAt vb LB S w) :
    Calls Try.prog 24 #[va, vb] w fun e w' => e = .returned (.bool true) ∧ Below w.heap.size w w' := by
  obtain ⟨ao, ca, rfl, hla, hma⟩ := ha.shape
  obtain ⟨bo, cb, rfl, hlb, hmb⟩ := hb.shape
  have HA : Hid (∀ W, Below w.heap.size w W → ∀ i, i < S.length → ∃ b off ca cc, ao = some ⟨b, off, none⟩ ∧ W.cell? ⟨b, off + i * 2, none⟩ = some (.string (bs (S.getD i ds).1)) ∧ W.cell? ⟨b, off + i * 2 + 1, none⟩ = some (.slice ca (S.getD i ds).2.length cc) ∧ VsAt W.heap.size (.slice ca (S.getD i ds).2.length cc) (S.getD i ds).2 W) := fun W hW i hi => (ha.on hW).el hi
  have HB : Hid (∀ W, Below w.heap.size w W → ∀ i, i < S.length → ∃ b off ca cc, bo = some ⟨b, off, none⟩ ∧ W.cell? ⟨b, off + i * 2, none⟩ = some (.string (bs (S.getD i ds).1)) ∧ W.cell? ⟨b, off + i * 2 + 1, none⟩ = some (.slice ca (S.getD i ds).2.length cc) ∧ VsAt W.heap.size (.slice ca (S.getD i ds).2.length cc) (S.getD i ds).2 W) := fun W hW i hi => (hb.on hW).el hi
  have h63 : S.length ≤ 9223372036854775807 := Nat.le_trans hla hma
  clear ha hb hla hlb hma hmb
  go_enter Try.func24, Try.ntmps24
  go_wp2_with fail
  go_loopw [5] (fun i wr => ∃ k : Nat, k ≤ S.length ∧ i = .int .i64 k ∧ Below w.heap.size w wr) (fun i _ => S.length - (intOf i).toNat)
  case atStart => exact ⟨0, Nat.zero_le _, rfl, Below.refl _ _⟩
  case round =>
    obtain ⟨k, hk, rfl, hbr⟩ := hrel
    have HBr : Hid _ := hbr
    clear hbr
    by_cases hkl : k < S.length
    · obtain ⟨b1, o1, a1, n1, rfl, c0, c1, v1⟩ := HA.out _ HBr.out k hkl
      obtain ⟨b2, o2, a2, n2, rfl, d0, d1, v2⟩ := HB.out _ HBr.out k hkl
      have hkl' : (k : Int) < S.length := by omega
      generalize S.getD k ds = x at *
      obtain ⟨a, c⟩ := x
      dsimp only at c0 c1 d0 d1 v1 v2
      have CS : Hid (1 = 1 → Calls Try.prog 47 #[.slice a1 c.length n1, .slice a2 c.length n2] wr.drew fun e w' => e = .returned (.bool true) ∧ Below wr.drew.heap.size wr.drew w') := fun _ => by
        have := same14 wr.drew.heap.size wr.drew.heap.size c c _ _ wr.drew (VsAt.on v1 (Below.refl _ _).drew) (VsAt.on v2 (Below.refl _ _).drew)
        rw [sameB_self] at this
        exact this
      have q0 := bs_beq a a
      rw [show (a == a) = true from by simp] at q0
      have H4 : Hid (C4 wr ⟨b1, o1 + k * 2, none⟩ ⟨b1, o1 + k * 2 + 1, none⟩ ⟨b2, o2 + k * 2, none⟩ ⟨b2, o2 + k * 2 + 1, none⟩ (.string (bs a)) (.slice a1 c.length n1) (.string (bs a)) (.slice a2 c.length n2) wr) := ⟨c0, c1, d0, d1, Below.refl _ _⟩
      clear v1 v2 c0 c1 d0 d1
      go_upto_region 6 with fail
      go_region_held3 (fun W => W.cell? ⟨b1, o1 + k * 2, none⟩ = some (.string (bs a)) ∧ W.cell? ⟨b1, o1 + k * 2 + 1, none⟩ = some (.slice a1 c.length n1) ∧ W.cell? ⟨b2, o2 + k * 2, none⟩ = some (.string (bs a)) ∧ W.cell? ⟨b2, o2 + k * 2 + 1, none⟩ = some (.slice a2 c.length n2) ∧ C4 wr ⟨b1, o1 + k * 2, none⟩ ⟨b1, o1 + k * 2 + 1, none⟩ ⟨b2, o2 + k * 2, none⟩ ⟨b2, o2 + k * 2 + 1, none⟩ (.string (bs a)) (.slice a1 c.length n1) (.string (bs a)) (.slice a2 c.length n2) W)
        ((with_reducible refine C4.all ?_; with_reducible repeat (first | exact H4.out | exact H5.out | refine C4.dr ?_)))
        (first
        | (go_at_call 47; refine (CS.out (by trivial)).mono ?_; rintro e w2 ⟨rfl, hb2⟩; have H5 : Hid (C4 wr ⟨b1, o1 + k * 2, none⟩ ⟨b1, o1 + k * 2 + 1, none⟩ ⟨b2, o2 + k * 2, none⟩ ⟨b2, o2 + k * 2 + 1, none⟩ (.string (bs a)) (.slice a1 c.length n1) (.string (bs a)) (.slice a2 c.length n2) w2) := H4.out.dr.on hb2; clear hb2))
      rename_i hHeld
      clear hHeld CS H4
      have HB2 : Hid (Below w.heap.size w w2) := HBr.out.trans (H5.out.bel.mono HBr.out.size)
      clear H5
      go_wp2_with fail
      go_roundw
      case rel => exact ⟨k + 1, by omega, by go_num, HB2.out⟩
      case measure => simp [intOf]; omega
    · have hkl' : ¬ (k : Int) < S.length := by omega
      go_wp2_with fail
      go_ret
      exact ⟨rfl, HBr.out⟩
end Go.Proofs.Ytcfhkggijdjagaa
