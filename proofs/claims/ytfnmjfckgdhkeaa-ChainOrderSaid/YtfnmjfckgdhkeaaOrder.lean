/-
  The walk of the law ChainOrder: at every input it returns true, and turns no memory that was there.
-/
import Derived.Test.YtfnmjfckgdhkeaaBuilt
import Derived.Test.YtfnmjfckgdhkeaaSame
import Derived.Test.YtfnmjfckgdhkeaaApnd
import Derived.Deep.DeepCutAuto
import Derived.Deep.CutBlock
namespace Go.Proofs.Ytfnmjfckgdhkeaa
open Go.RowKit Go.Sort

/-- The first j of the versions, from behind, turned by k. -/
def rotL (L : List Ve) (k j : Nat) : List Ve := (List.range j).map fun t => L.getD ((L.length - 1 - t + k) % L.length) dv
theorem rotL_succ (L : List Ve) (k j : Nat) : rotL L k (j + 1) = rotL L k j ++ [L.getD ((L.length - 1 - j + k) % L.length) dv] := by
  unfold rotL
  rw [List.range_succ, List.map_append]
  rfl
theorem rotL_len (L : List Ve) (k j : Nat) : (rotL L k j).length = j := by simp [rotL]
theorem rot_at {n k m : Nat} (hk : k < n) (hm : m < n) : ∃ t, t < n ∧ (n - 1 - t + k) % n = m := by
  by_cases h : k ≤ m
  · refine ⟨n - 1 - (m - k), by omega, ?_⟩
    rw [show n - 1 - (n - 1 - (m - k)) + k = m from by omega]
    exact Nat.mod_eq_of_lt hm
  · refine ⟨n - 1 - (m + n - k), by omega, ?_⟩
    rw [show n - 1 - (n - 1 - (m + n - k)) + k = m + n from by omega, Nat.add_mod_right]
    exact Nat.mod_eq_of_lt hm
theorem rotL_mem {L : List Ve} {k : Nat} (hk : k < L.length) (x : Ve) : x ∈ rotL L k L.length ↔ x ∈ L := by
  unfold rotL
  simp only [List.mem_map, List.mem_range]
  constructor
  · rintro ⟨t, ht, rfl⟩
    have hl : (L.length - 1 - t + k) % L.length < L.length := Nat.mod_lt _ (by omega)
    rw [show L.getD ((L.length - 1 - t + k) % L.length) dv = L[(L.length - 1 - t + k) % L.length] from by simp [List.getD, hl]]
    exact List.getElem_mem _
  · intro hx
    obtain ⟨m, hm, rfl⟩ := List.getElem_of_mem hx
    obtain ⟨t, ht, he⟩ := rot_at hk hm
    exact ⟨t, ht, by rw [he]; simp [List.getD, hm]⟩
theorem unlike {L : List Ve} (h : ∀ i, i < L.length → ∀ j, j < i → atB (L.getD i dv) (L.getD j dv) = false) : ∀ x y, x ∈ L → y ∈ L → x.p = y.p → x.l = y.l → x = y := by
  intro x y hx hy hp hl
  obtain ⟨i, hi, rfl⟩ := List.getElem_of_mem hx
  obtain ⟨j, hj, rfl⟩ := List.getElem_of_mem hy
  rcases Nat.lt_trichotomy i j with h1 | h1 | h1
  · have := h j hj i h1
    rw [show L.getD i dv = L[i] from by simp [List.getD, hi], show L.getD j dv = L[j] from by simp [List.getD, hj], atB_iff.2 ⟨hp.symm, hl.symm⟩] at this
    cases this
  · subst h1; rfl
  · have := h i hi j h1
    rw [show L.getD i dv = L[i] from by simp [List.getD, hi], show L.getD j dv = L[j] from by simp [List.getD, hj], atB_iff.2 ⟨hp, hl⟩] at this
    cases this

set_option maxHeartbeats 8000000 in
set_option maxRecDepth 100000 in
theorem order5 (B : Nat) (L : List Ve) (v : Value) (turn : Int) (w : World) (hv : VsAt B v L w) (hB : B ≤ w.heap.size) :
    Calls Try.prog 5 #[v, .int .i64 turn] w fun e w' => e = .returned (.bool true) ∧ Below w.heap.size w w' := by
  have hv' := hv
  obtain ⟨ao, cap, rfl, hlc, hcm, -⟩ := hv
  have H : Hid (VsAt w.heap.size (.slice ao L.length cap) L w) := hv'.le hB
  clear hv' hB hlc hcm
  have CB : Hid (∀ W v M, VsAt W.heap.size v M W → Calls Try.prog 19 #[v] W fun e w' => ∃ v', e = .returned v' ∧ VsAt w'.heap.size v' (bldF [] M) w' ∧ Below W.heap.size W w') := fun W v M h => built19 _ M v W h (Nat.le_refl _)
  have HE : Hid (∀ k W, k < L.length → Below w.heap.size w W → ∃ b off, ao = some ⟨b, off, none⟩ ∧ b < w.heap.size ∧ VeAt W b (off + k * 6) (L.getD k dv)) := fun k W hk hW => (H.out.on hW).el hk
  obtain ⟨n, hn⟩ : ∃ n, L.length = n := ⟨_, rfl⟩
  rw [hn] at H HE ⊢
  have HN : Hid _ := hn
  clear hn
  go_enter Try.func5, Try.ntmps5
  go_wp2_with fail
  refine (awake7 _).mono ?_
  rintro e w1 ⟨rfl, hb1⟩
  have HB1 : Hid (Below w.heap.size w w1) := hb1
  clear hb1
  by_cases hn0 : n = 0
  · subst hn0
    go_wp2_with fail
    go_ret
    exact ⟨rfl, HB1.out⟩
  have hn0' : ((n : Int) == 0) = false := by rw [beq_eq_false_iff_ne]; omega
  by_cases h60 : (60 : Int) < n
  · go_wp2_with fail
    go_ret
    exact ⟨rfl, HB1.out⟩
  have hpos : (0 : Int) < n := by omega
  go_wp2_with fail
  go_loopw [22] (fun i wr => ∃ k : Nat, k ≤ n ∧ i = .int .i64 k ∧ (∀ i, i < k → ∀ j, j < i → atB (L.getD i dv) (L.getD j dv) = false) ∧ Below w.heap.size w wr) (fun i _ => n - (intOf i).toNat)
  case atStart => exact ⟨0, Nat.zero_le _, rfl, fun i hi => absurd hi (by omega), HB1.out⟩
  case round =>
    obtain ⟨k, hk, rfl, hall, hbr⟩ := hrel
    have HA : Hid _ := hall
    have HBr : Hid _ := hbr
    clear hall hbr
    by_cases hkl : k < n
    · as_aux_lemma =>
      have hkl' : (k : Int) < n := by omega
      go_wp2_with fail
      go_loopw [26] (fun i wr => ∃ m : Nat, m ≤ k ∧ i = .int .i64 m ∧ (∀ j, j < m → atB (L.getD k dv) (L.getD j dv) = false) ∧ Below w.heap.size w wr) (fun i _ => k - (intOf i).toNat)
      case atStart => exact ⟨0, Nat.zero_le _, rfl, fun i hi => absurd hi (by omega), HBr.out⟩
      case round =>
        obtain ⟨m, hm, rfl, hall, hbr⟩ := hrel
        have HA2 : Hid _ := hall
        have HBr2 : Hid _ := hbr
        clear hall hbr
        by_cases hmk : m < k
        · obtain ⟨b, off, rfl, hb, hx⟩ := HE.out k _ hkl HBr2.out
          obtain ⟨b', off', e, hb', hy⟩ := HE.out m _ (by omega) HBr2.out
          injection e with e
          injection e with e1 e2
          subst e1 e2
          have HK : Hid (atB (L.getD k dv) (L.getD m dv) = false → ∀ j, j < m + 1 → atB (L.getD k dv) (L.getD j dv) = false) := fun h j hj => by
            by_cases hjm : j = m
            · subst hjm; exact h
            · exact HA2.out j (by omega)
          clear hb hb' HA2
          generalize L.getD k dv = x at *
          generalize L.getD m dv = y at hy HK
          obtain ⟨xp, xl, xc, xn, xs, xd⟩ := x
          obtain ⟨yp, yl, yc, yn, ys, yd⟩ := y
          obtain ⟨x0, x1, -, -, -, -⟩ := hx
          obtain ⟨y0, y1, -, -, -, -⟩ := hy
          dsimp only at x0 x1 y0 y1
          have hrun := run_eql26 xp xl yp yl
          have HAt : Hid (atB ⟨xp, xl, xc, xn, xs, xd⟩ ⟨yp, yl, yc, yn, ys, yd⟩ = eqB xp xl yp yl) := rfl
          obtain ⟨z, hz⟩ : ∃ z, eqB xp xl yp yl = z := ⟨_, rfl⟩
          rw [hz] at hrun HAt
          clear hz
          have hmk' : (m : Int) < k := by omega
          have hmn : (m : Int) < n := by omega
          cases z
          · have HX : Hid _ := HK.out HAt.out
            go_wp2_with fail
            go_quiet (fail)
            go_wp2_with fail
            go_roundw
            case rel => exact ⟨m + 1, by omega, by go_num, HX.out, below_drewN HBr2.out _⟩
            case measure => simp [intOf]; omega
          · go_wp2_with fail
            go_quiet (fail)
            go_wp2_with fail
            go_ret
            exact ⟨rfl, below_drewN HBr2.out _⟩
        · have hmk' : ¬ (m : Int) < k := by omega
          have HX : Hid (∀ i, i < k + 1 → ∀ j, j < i → atB (L.getD i dv) (L.getD j dv) = false) := fun i hi j hj => by
            by_cases hik : i = k
            · subst hik; exact HA2.out j (by omega)
            · exact HA.out i (by omega) j hj
          go_wp2_with fail
          go_roundw
          case rel => exact ⟨k + 1, by omega, by go_num, HX.out, HBr2.out⟩
          case measure => simp [intOf]; omega
    · skip
      have hkl' : ¬ (k : Int) < n := by omega
      have HU : Hid _ := unlike (L := L) (fun i hi j hj => HA.out i (by have := HN.out; omega) j hj)
      clear HA
      obtain ⟨K, hKn, hK⟩ : ∃ K : Nat, K < n ∧ (turn.tmod n + n).tmod n = (K : Int) := by
        have h1 := Int.lt_tmod_of_pos turn hpos
        have h2 := Int.tmod_lt_of_pos turn hpos
        rw [Int.tmod_eq_emod_of_nonneg (show (0 : Int) ≤ turn.tmod n + n by omega)]
        have h3 := Int.emod_nonneg (turn.tmod n + n) (show (n : Int) ≠ 0 by omega)
        have h4 := Int.emod_lt_of_pos (turn.tmod n + n) hpos
        exact ⟨((turn.tmod n + n) % n).toNat, by omega, by omega⟩
      have hw64 : IntKind.i64.wrap (turn.tmod n + n) = turn.tmod n + n := by
        have h1 := Int.lt_tmod_of_pos turn hpos
        have h2 := Int.tmod_lt_of_pos turn hpos
        simp [IntKind.wrap, IntKind.bits, IntKind.signed]
        omega
      have hw64b : wrap64 (turn.tmod n + n) = turn.tmod n + n := by
        have h1 := Int.lt_tmod_of_pos turn hpos
        have h2 := Int.tmod_lt_of_pos turn hpos
        unfold wrap64
        omega
      have hn0i : ¬ (n : Int) = 0 := by omega
      go_wp2_with fail
      go_loopw [8, 9] (fun s i wr => ∃ q j : Nat, q + j = n ∧ i = .int .i64 ((q : Int) - 1) ∧ VsOwn w.heap.size s (rotL L K j) wr ∧ Below w.heap.size w wr) (fun _ i _ => (intOf i + 1).toNat)
      case atStart => exact ⟨n, 0, rfl, rfl, VsOwn.nil _ _, HBr.out⟩
      case round =>
        obtain ⟨q, j, hq, rfl, hown, hb2⟩ := hrel
        have HO : Hid _ := hown
        have HB2 : Hid _ := hb2
        clear hown hb2
        cases q with
        | zero =>
          have hj : j = n := by omega
          subst hj
          have hown := HO.out
          rw [← HN.out] at hown
          have HL : Hid _ := hown
          clear hown
          have HS : Hid (bldF [] L = bldF [] (rotL L K L.length)) := order_none (by have := HN.out; omega) (by rw [rotL_len]; have := HN.out; omega) (rotL_mem (by have := HN.out; omega)) HU.out
          clear HO HU
          go_wp2_with fail
          refine (CB.out _ _ L (VsAt.le (VsAt.on H.out HB2.out) HB2.out.size)).mono ?_
          rintro e w4 ⟨v4, rfl, hv4, hb4⟩
          have HV4 : Hid _ := hv4
          have HM4 : Hid _ := VsAt.le (VsAt.on (VsOwn.at HL.out) hb4) hb4.size
          have HB4 : Hid (Below w.heap.size w w4) := HB2.out.trans (hb4.mono HB2.out.size)
          clear hv4 hb4 HL HB2
          go_wp2_with fail
          refine (CB.out _ _ _ HM4.out).mono ?_
          rintro e w5 ⟨v5, rfl, hv5, hb5⟩
          rw [← HS.out] at hv5
          have HV5 : Hid _ := hv5
          have HV4' : Hid _ := VsAt.on HV4.out hb5
          have HB5 : Hid (Below w.heap.size w w5) := HB4.out.trans (hb5.mono HB4.out.size)
          clear hv5 hb5 HV4 HM4 HB4
          go_wp2_with fail
          refine (same14 _ _ _ _ _ _ _ HV4'.out HV5.out).mono ?_
          rintro e w6 ⟨rfl, hb6⟩
          rw [sameB_self]
          have HB6 : Hid (Below w.heap.size w w6) := HB5.out.trans (hb6.mono HB5.out.size)
          clear hb6
          go_wp2_with fail
          go_ret
          exact ⟨rfl, HB6.out⟩
        | succ i0 =>
          have hcast : (((i0 + 1 : Nat) : Int) - 1) = (i0 : Int) := by omega
          rw [hcast]
          clear hcast
          obtain ⟨g, hg⟩ : ∃ g, (i0 + K) % n = g := ⟨_, rfl⟩
          have hgn : g < n := by rw [← hg]; exact Nat.mod_lt _ (by omega)
          obtain ⟨b, off, rfl, hb, hx⟩ := HE.out g _ hgn HB2.out
          have HR : Hid (rotL L K (j + 1) = rotL L K j ++ [L.getD g dv]) := by
            rw [rotL_succ, HN.out, show n - 1 - j + K = i0 + K from by omega, hg]; exact rfl
          have htm : ((i0 : Int) + K).tmod n = (g : Int) := by
            rw [show (i0 : Int) + K = ((i0 + K : Nat) : Int) from by omega, ← hg]
            exact (Int.ofNat_tmod (i0 + K) n).symm
          clear hb
          generalize L.getD g dv = x at hx HR
          obtain ⟨xp, xl, xc, xn, xs, xd⟩ := x
          obtain ⟨e0, e1, e2, e3, e4, e5⟩ := hx
          dsimp only at e0 e1 e2 e3 e4 e5
          have HLe : Hid ((rotL L K j).length + 1 ≤ 1048576) := by rw [rotL_len]; show _ ≤ _; omega
          have hadd : IntKind.i64.wrap ((i0 : Int) + K) = (i0 : Int) + K := by simp [IntKind.wrap, IntKind.bits, IntKind.signed]; omega
          have hgn' : (g : Int) < n := by omega
          have hi0 : (0 : Int) ≤ i0 := by omega
          have hi60 : i0 < 60 := by omega
          have HQ : Hid _ := hq
          clear hq hg
          have HOw : Hid (Ow w.heap.size _ (rotL L K j) (wr.heap.size + 1) (.slice (some ⟨wr.heap.size, 0, none⟩) 1 1) [⟨xp, xl, xc, xn, xs, xd⟩] (wr.alloc (.cells #[.int .u64 xp, .int .u32 xl, .int .u32 xc, .int .u32 xn, .string (bs xs), .bool xd] 30))) := ⟨VsOwn.alloc HO.out _, vs_one wr xp xl xc xn xs xd, Nat.le_trans HB2.out.size (by simp), HLe.out⟩
          go_wp2_with (at_builtin; refine wpList_append_ow HOw.out (.tmp 59) (.tmp 69) rfl rfl rfl rfl ?_)
          intro v' w2 hown hg2
          have HO2 : Hid (VsOwn w.heap.size v' (rotL L K (j + 1)) w2) := by rw [HR.out]; exact hown
          have HB3 : Hid (Below w.heap.size w w2) := below_grown (HB2.out.alloc HB2.out.size _) HOw.out.size HOw.out.own hg2
          clear hown hg2
          go_wp2_with fail
          go_roundw
          case rel => exact ⟨i0, j + 1, by have := HQ.out; omega, by go_num, HO2.out, HB3.out⟩
          case measure => simp [intOf]
end Go.Proofs.Ytfnmjfckgdhkeaa
