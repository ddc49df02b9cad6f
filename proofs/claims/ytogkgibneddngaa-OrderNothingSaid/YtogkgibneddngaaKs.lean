/-
  Lists of keys; the document's Keys; are two lists the same?
-/
import Derived.Test.YtogkgibneddngaaRefS
namespace Go.Proofs.Ytogkgibneddngaa
open Go.RowKit

def kc (K : List (List UInt8)) : List Value := K.map fun k => .string (bs k)
theorem kc_length (K : List (List UInt8)) : (kc K).length = K.length := by simp [kc]
theorem kc_append (K R : List (List UInt8)) : kc (K ++ R) = kc K ++ kc R := by simp [kc]
theorem kc_one (K : List (List UInt8)) : ∀ u ∈ kc K, u.oneCell' = true := by
  intro u hu
  obtain ⟨_, _, rfl⟩ := List.mem_map.1 hu
  rfl
/-- The list K lies at the slice v. -/
def KsAt (B : Nat) (v : Value) (K : List (List UInt8)) (w : World) : Prop := RwAt B 1 v K.length (kc K) w
theorem KsAt.shape {B : Nat} {v : Value} {K : List (List UInt8)} {w : World} (h : KsAt B v K w) : ∃ ao cap, v = .slice ao K.length cap ∧ K.length ≤ cap ∧ cap ≤ 9223372036854775807 := by
  obtain ⟨ao, cap, e, _, h1, h2, _⟩ := h
  exact ⟨ao, cap, e, h1, h2⟩
theorem KsAt.onn {v : Value} {K : List (List UInt8)} {w w' : World} (h : KsAt w.heap.size v K w) (hb : Below w.heap.size w w') : KsAt w'.heap.size v K w' := RwAt.le (RwAt.on h hb) hb.size
theorem KsAt.el {B : Nat} {ao : Option Addr} {cap : Nat} {K : List (List UInt8)} {w : World} (h : KsAt B (.slice ao K.length cap) K w) {i : Nat} (hi : i < K.length) : ∃ b off, ao = some ⟨b, off, none⟩ ∧ b < B ∧ w.cell? ⟨b, off + i, none⟩ = some (.string (bs (K.getD i []))) := by
  obtain ⟨b, off, e, hb, hc⟩ := RwAt.cellAt h (j := i) (by rw [kc_length]; exact hi)
  exact ⟨b, off, e, hb, hc i _ (by simp [kc, List.getD, hi])⟩
theorem ks_nil (B : Nat) (w : World) : KsAt B (.slice none 0 0) [] w := RwAt.nil _ _ _
theorem ks_ext {A B : List (List UInt8)} (hl : A.length = B.length) (h : ∀ i, i < A.length → A.getD i [] = B.getD i []) : A = B := by
  apply List.ext_getElem hl
  intro i h1 h2
  have := h i h1
  simpa [List.getD, List.getElem?_eq_getElem h1, List.getElem?_eq_getElem h2] using this

set_option maxHeartbeats 1600000 in
theorem same16 (Ba Bb : Nat) (A B : List (List UInt8)) (va vb : Value) (w : World) (ha : KsAt Ba va A w) (hb : KsAt Bb vb B w) :
    Calls Try.prog 16 #[va, vb] w fun e w' => e = .returned (.bool (A == B)) ∧ Below w.heap.size w w' := by
  have HA : Hid _ := ha
  have HB : Hid _ := hb
  obtain ⟨ao, ca, rfl, hla, hma⟩ := ha.shape
  obtain ⟨bo, cb, rfl, hlb, hmb⟩ := hb.shape
  obtain ⟨r, hr⟩ : ∃ r, (A == B) = r := ⟨_, rfl⟩
  rw [hr]
  have HR : Hid _ := hr
  have h63 : A.length ≤ 9223372036854775807 := Nat.le_trans hla hma
  clear hr ha hb hla hlb hma hmb
  by_cases hl : A.length = B.length
  · have hl' : ((A.length : Int) != B.length) = false := by simp [hl]
    have HL : Hid _ := hl
    clear hl
    go_enter Try.func16, Try.ntmps16
    go_wp2_with fail
    go_loopw [5] (fun i wr => ∃ k : Nat, k ≤ A.length ∧ i = .int .i64 k ∧ (∀ j, j < k → A.getD j [] = B.getD j []) ∧ ∃ n, wr = w.drewN n) (fun i _ => A.length - (intOf i).toNat)
    case atStart => exact ⟨0, Nat.zero_le _, rfl, fun j hj => absurd hj (by omega), 0, rfl⟩
    case round =>
      obtain ⟨k, hk, rfl, hall, n, rfl⟩ := hrel
      have HE : Hid (∀ j, j < k → A.getD j [] = B.getD j []) := hall
      clear hall
      by_cases hkl : k < A.length
      · obtain ⟨b1, o1, rfl, _, c1⟩ := KsAt.el HA.out hkl
        obtain ⟨b2, o2, rfl, _, c2⟩ := KsAt.el HB.out (show k < B.length by have := HL.out; omega)
        have hkb : (k : Int) < B.length := by have := HL.out; omega
        have HK : Hid (A.getD k [] = B.getD k [] → ∀ j, j < k + 1 → A.getD j [] = B.getD j []) := fun h j hj => by
          by_cases hjk : j = k
          · subst hjk; exact h
          · exact HE.out j (by omega)
        have HN : Hid (A.getD k [] ≠ B.getD k [] → r = false) := fun h => by
          rw [← HR.out, beq_eq_false_iff_ne]
          intro e
          exact h (by rw [e])
        generalize A.getD k [] = s at c1 HK HN
        generalize B.getD k [] = t at c2 HK HN
        have hkl' : (k : Int) < A.length := by omega
        have hbe := bs_beq s t
        by_cases hst : s = t
        · have hq : (s == t) = true := by simp [hst]
          rw [hq] at hbe
          have HX : Hid _ := HK.out hst
          clear hst hq
          go_wp2_with fail
          go_quiet (fail)
          go_wp2_with fail
          go_roundw
          case rel => exact ⟨k + 1, by omega, by go_num, HX.out, _, rfl⟩
          case measure => simp [intOf]; omega
        · have hq : (s == t) = false := by simp [hst]
          rw [hq] at hbe
          have HX : Hid _ := HN.out hst
          clear hst hq
          go_wp2_with fail
          go_quiet (fail)
          go_wp2_with fail
          go_ret
          rw [HX.out]
          exact ⟨rfl, below_drewN (below_drewN (Below.refl _ _) _) _⟩
      · have hkl' : ¬ (k : Int) < A.length := by omega
        have HX : Hid (r = true) := by
          show _ = _
          rw [← HR.out, beq_iff_eq]
          exact ks_ext HL.out fun i hi => HE.out i (by omega)
        go_wp2_with fail
        go_ret
        rw [HX.out]
        exact ⟨rfl, below_drewN (Below.refl _ _) _⟩
  · have hl' : ((A.length : Int) != B.length) = true := by simp; omega
    have HX : Hid (r = false) := by
      show _ = _
      rw [← HR.out, beq_eq_false_iff_ne]
      exact fun e => hl (by rw [e])
    clear hl
    go_enter Try.func16, Try.ntmps16
    go_wp2_with fail
    go_ret
    rw [HX.out]
    exact ⟨rfl, Below.refl _ _⟩

theorem info9 : (Try.prog.info? 9).map (fun i => (i.zero, i.size, i.bytes)) = some (some (.string ⟨#[]⟩), 1, 16) := by kernel_rfl
theorem ks_one (w : World) (k : List UInt8) : RwAt (w.heap.size + 1) 1 (.slice (some ⟨w.heap.size, 0, none⟩) 1 1) 1 (kc [k]) (w.alloc (.cells #[.string (bs k)] 9)) := by
  refine ⟨_, 1, rfl, rfl, Nat.le_refl _, by omega, fun _ => ⟨w.heap.size, 0, rfl, fun _ => Nat.lt_succ_self _, fun j u hj => ?_⟩⟩
  match j, hj with
  | 0, hj => simp [kc] at hj; subst hj; simp [go_sem]
  | j + 1, hj => simp [kc] at hj

set_option maxHeartbeats 3200000 in
set_option maxRecDepth 100000 in
theorem refKeys18 (B rb : Nat) (sl : Value) (L : Kv) (lo hi : List UInt8) (limit : Int) (w : World) (h : RefAt B rb sl L w) (hl : L.length < 1000000) :
    Calls Try.prog 18 #[.pointer (some ⟨rb, 0, none⟩), .string (bs lo), .string (bs hi), .int .i64 limit] w fun e w' => ∃ v', e = .returned v' ∧ KsAt w'.heap.size v' (keysF lo hi limit L) w' ∧ Below w.heap.size w w' := by
  obtain ⟨i0, hin, hz0, hz1, hz2⟩ := info_parts info9
  obtain ⟨ao, cap, rfl, hlc, hcm⟩ := h.shape
  have H : Hid (RefAt B rb (.slice ao L.length cap) L w) := h
  have HL : Hid _ := hl
  clear h hl hlc hcm
  have HEnd : Hid ((rangeF lo hi L).length ≤ limit.toNat → keysF lo hi limit L = rangeF lo hi L) := keys_end
  have HFull : Hid (∀ i, (rangeF lo hi (L.take i)).length = limit.toNat → keysF lo hi limit L = rangeF lo hi (L.take i)) := fun i h => keys_full h
  generalize keysF lo hi limit L = y at *
  have hhe : (bs hi).toList.isEmpty = hi.isEmpty := by rw [bs_list]
  go_enter Try.func18, Try.ntmps18
  go_wp2_with fail
  go_loopw [9, 10] (fun s i wr => ∃ m : Nat, m ≤ L.length ∧ i = .int .i64 m ∧ (rangeF lo hi (L.take m)).length ≤ limit.toNat ∧ wr.ownsRow w.heap.size 9 1 s (rangeF lo hi (L.take m)).length (kc (rangeF lo hi (L.take m))) ∧ Below w.heap.size w wr) (fun _ i _ => L.length - (intOf i).toNat)
  case atStart => exact ⟨0, Nat.zero_le _, rfl, by simp [rangeF], own_nil _ _ _ _, Below.refl _ _⟩
  case round =>
    obtain ⟨m, hm, rfl, hle, hown, hbr⟩ := hrel
    obtain ⟨sa, sc, rfl, -, -, -, -⟩ := rw_own hown
    have HO : Hid _ := hown
    have HB : Hid _ := hbr
    have HLe : Hid _ := hle
    clear hown hbr hle
    have hr1000 : (rangeF lo hi (L.take m)).length < 1000000 := by
      have h1 := range_len lo hi (L.take m)
      have h2 := HL.out
      rw [List.length_take] at h1
      omega
    have H1 : Hid (RefAt B rb (.slice ao L.length cap) L wr) := H.out.on HB.out
    have c0 := H1.out.cell
    by_cases hml : m < L.length
    · obtain ⟨g, rfl, e0, e1⟩ := H1.out.el hml
      have HSn : Hid _ := range_snoc (lo := lo) (hi := hi) hml
      have hL9 : L.length < 9223372036854775807 := by have := HL.out; omega
      generalize hR : rangeF lo hi (L.take m) = R at *
      have HRe : Hid _ := hR
      clear hR
      have hml' : (m : Int) < L.length := by omega
      by_cases hroom : (R.length : Int) < limit
      · generalize (L.getD m dk).1 = a at *
        have HI : Hid (inR lo hi a = (!ltK a lo && (hi.isEmpty || ltK a hi))) := rfl
        have b1 := bl a lo
        have b2 := bl a hi
        generalize inR lo hi a = ir at *
        have HOw : Hid (Ow w.heap.size 9 1 (.slice sa R.length sc) R.length (kc R) (wr.heap.size + 1) (.slice (some ⟨wr.heap.size, 0, none⟩) 1 1) 1 (kc [a]) (wr.alloc (.cells #[.string (bs a)] 9))) := ⟨World.ownsRow.alloc HO.out _, ks_one wr a, kc_one _, Nat.le_trans HB.out.size (by simp), by omega⟩
        generalize ltK a lo = z1 at *
        generalize ltK a hi = z2 at *
        obtain ⟨z3, hz3⟩ : ∃ z, hi.isEmpty = z := ⟨_, rfl⟩
        rw [hz3] at hhe
        have HI2 : Hid (ir = (!z1 && (z3 || z2))) := by rw [← hz3]; exact HI.out
        clear hz3 HI
        cases z1
        · cases z3
          · cases z2
            · have hir : ir = false := HI2.out
              subst hir
              have HR2 : Hid (rangeF lo hi (L.take (m + 1)) = R) := HSn.out
              go_wp2_with fail
              go_roundw
              case rel => exact ⟨m + 1, by omega, by go_num, by rw [HR2.out]; exact HLe.out, by rw [HR2.out]; exact HO.out, HB.out⟩
              case measure => simp [intOf]; omega
            · have hir : ir = true := HI2.out
              subst hir
              have HR2 : Hid (rangeF lo hi (L.take (m + 1)) = R ++ [a]) := HSn.out
              go_wp2_with (at_builtin; refine wpList_append_rw HOw.out Try.underlying38 hin hz0 hz1 hz2 rfl (by decide) (by decide) (.tmp 47) (.tmp 49) rfl rfl rfl rfl ?_)
              intro v' w2 hown hg hat
              have HB2 : Hid (Below w.heap.size w w2) := below_own (HB.out.alloc HB.out.size _) HOw.out.size HOw.out.own hg
              have HO2 : Hid (w2.ownsRow w.heap.size 9 1 v' (rangeF lo hi (L.take (m + 1))).length (kc (rangeF lo hi (L.take (m + 1))))) := by
                rw [HR2.out, kc_append, List.length_append]
                exact hown
              clear hown hg hat
              go_wp2_with fail
              go_roundw
              case rel => exact ⟨m + 1, by omega, by go_num, by rw [HR2.out]; simp; omega, HO2.out, HB2.out⟩
              case measure => simp [intOf]; omega
          · have hir : ir = true := by rw [HI2.out]; rfl
            subst hir
            have HR2 : Hid (rangeF lo hi (L.take (m + 1)) = R ++ [a]) := HSn.out
            go_wp2_with (at_builtin; refine wpList_append_rw HOw.out Try.underlying38 hin hz0 hz1 hz2 rfl (by decide) (by decide) (.tmp 47) (.tmp 49) rfl rfl rfl rfl ?_)
            intro v' w2 hown hg hat
            have HB2 : Hid (Below w.heap.size w w2) := below_own (HB.out.alloc HB.out.size _) HOw.out.size HOw.out.own hg
            have HO2 : Hid (w2.ownsRow w.heap.size 9 1 v' (rangeF lo hi (L.take (m + 1))).length (kc (rangeF lo hi (L.take (m + 1))))) := by
              rw [HR2.out, kc_append, List.length_append]
              exact hown
            clear hown hg hat
            go_wp2_with fail
            go_roundw
            case rel => exact ⟨m + 1, by omega, by go_num, by rw [HR2.out]; simp; omega, HO2.out, HB2.out⟩
            case measure => simp [intOf]; omega
        · have hir : ir = false := HI2.out
          subst hir
          have HR2 : Hid (rangeF lo hi (L.take (m + 1)) = R) := HSn.out
          go_wp2_with fail
          go_roundw
          case rel => exact ⟨m + 1, by omega, by go_num, by rw [HR2.out]; exact HLe.out, by rw [HR2.out]; exact HO.out, HB.out⟩
          case measure => simp [intOf]; omega
      · have HX : Hid (y = R) := by
          have h1 := HFull.out m
          rw [HRe.out] at h1
          exact h1 (by have := HLe.out; omega)
        clear e0 e1
        go_wp2_with fail
        rw [HX.out]
        go_ret
        exact ⟨_, rfl, rw_own HO.out, HB.out⟩
    · have hml' : ¬ (m : Int) < L.length := by omega
      have HX : Hid (y = rangeF lo hi (L.take m)) := by
        have h1 := HLe.out
        rw [List.take_of_length_le (by omega)] at h1 ⊢
        exact HEnd.out h1
      go_wp2_with fail
      rw [HX.out]
      go_ret
      exact ⟨_, rfl, rw_own HO.out, HB.out⟩
end Go.Proofs.Ytogkgibneddngaa
