/-
  The document's store: Scan.
-/
import Derived.Test.YtcfhkggijdjagaaRget
import Derived.Test.YtcfhkggijdjagaaScanp
namespace Go.Proofs.Ytcfhkggijdjagaa
open Go.RowKit

theorem getD_mem {S : Sk} {m : Nat} (h : m < S.length) : S.getD m ds ∈ S := by
  simp [List.getD, h]
theorem chain_at {S : Sk} (hS : SOk S) {m : Nat} (h : m < S.length) : chainF (S.getD m ds).1 S = (S.getD m ds).2 := chain_mem hS (getD_mem h)

set_option maxHeartbeats 3200000 in
set_option maxRecDepth 100000 in
theorem scan23 (B rb : Nat) (F : Nat → Prop) (S : Sk) (lo hi : List UInt8) (p l limit : Int) (w : World) (h : RsAt B rb F S w) :
    Calls Try.prog 23 #[.pointer (some ⟨rb, 0, none⟩), .string (bs lo), .string (bs hi), .agg #[.int .u64 p, .int .u32 l], .int .i64 limit] w fun e w' => ∃ v', e = .returned v' ∧ w'.ownsRow w.heap.size 59 2 v' (scanS lo hi p l limit S).length (prc (scanS lo hi p l limit S)) ∧ Below w.heap.size w w' := by
  obtain ⟨i0, hin, hi0, hi1, hi2⟩ := info_parts info59
  have HR : Hid (∀ W, Below w.heap.size w W → RsAt B rb F S W) := fun W hb => h.on hb
  obtain ⟨sl, L, hr, rfl⟩ := h
  obtain ⟨ao, cap, rfl, hlc, hcm⟩ := hr.ref.shape
  have HA : Hid _ := hr.ref.all
  have HLS : Hid (L.length = S.length) := hr.chs.len
  have HK : Hid (∀ m, m < L.length → (L.getD m dk).1 = (S.getD m ds).1) := fun m hm => (hr.chs.at m hm).1
  have HC : Hid (∀ m, m < L.length → chainF (S.getD m ds).1 S = (S.getD m ds).2) := fun m hm => chain_at hr.sok (by rw [← hr.chs.len]; exact hm)
  have hL9 : L.length < 9223372036854775808 := by omega
  have HStep : Hid (∀ m, m < L.length → accR lo hi p l S (m + 1) = accR lo hi p l S m ++ (if inR lo hi (S.getD m ds).1 then (match seeF (S.getD m ds).2 p l with
    | some s => [((S.getD m ds).1, s)]
    | none => []) else [])) := fun m hm => accR_step (by rw [← hr.chs.len]; exact hm)
  have HFull : Hid (∀ m, (accR lo hi p l S m).length = (min limit 32).toNat → scanS lo hi p l limit S = accR lo hi p l S m) := fun m e => accR_full e
  have HEnd : Hid (∀ m, L.length ≤ m → (accR lo hi p l S m).length ≤ (min limit 32).toNat → scanS lo hi p l limit S = accR lo hi p l S m) := fun m hm e => accR_end (by rw [← hr.chs.len]; exact hm) e
  have HT : Hid (Tx w w.heap.size p l (w.alloc (.cells #[.int .u64 p, .int .u32 l] 33))) := tx_new w p l
  have H0 : Hid (accR lo hi p l S 0 = []) := rfl
  have hhe : (bs hi).toList.isEmpty = hi.isEmpty := by rw [bs_list]
  generalize scanS lo hi p l limit S = Y at *
  clear hr hlc hcm
  go_enter Try.func23, Try.ntmps23
  go_wp2_with fail
  obtain ⟨W0, hW0⟩ : ∃ W0, w.alloc (.cells #[.int .u64 p, .int .u32 l] 33) = W0 := ⟨_, rfl⟩
  rw [hW0] at HT ⊢
  obtain ⟨bx, hbx⟩ : ∃ bx, w.heap.size = bx := ⟨_, rfl⟩
  rw [hbx] at HT
  rw [hbx]
  have HBX : Hid (w.heap.size = bx) := hbx
  clear hbx hW0
  go_loopw [11, 12] (fun v i wr => ∃ m : Nat, m ≤ L.length ∧ i = .int .i64 m ∧ (accR lo hi p l S m).length ≤ (min limit 32).toNat ∧ wr.ownsRow W0.heap.size 59 2 v (accR lo hi p l S m).length (prc (accR lo hi p l S m)) ∧ Below W0.heap.size W0 wr) (fun _ i _ => L.length - (intOf i).toNat)
  case atStart => exact ⟨0, Nat.zero_le _, rfl, by rw [H0.out]; simp, by rw [H0.out]; exact own_nil _ _ _ _, Below.refl _ _⟩
  case round =>
    obtain ⟨m, hm, rfl, hle, hown, hb0⟩ := hrel
    have HB0 : Hid (Below W0.heap.size W0 wr) := hb0
    have htx := HT.out.on hb0
    clear hb0
    obtain ⟨sa, sc, rfl, -, -, -, -⟩ := rw_own hown
    have HO : Hid _ := hown
    have HX : Hid _ := htx
    have HLe : Hid _ := hle
    obtain ⟨x0, x1, hbr⟩ := htx
    obtain ⟨c0, f0, hel⟩ := HA.out _ hbr
    clear hown hle hbr
    have hle32 : (accR lo hi p l S m).length ≤ 32 := by have := HLe.out; omega
    by_cases hml : m < L.length
    · obtain ⟨g, rfl, e0, -⟩ := hel m hml
      clear hel
      have hml' : (m : Int) < L.length := by omega
      have hk := HK.out m hml
      have hc := HC.out m hml
      have hst := HStep.out m hml
      rw [hk] at e0
      have HFm : Hid _ := HFull.out m
      obtain ⟨A, hA⟩ : ∃ A, accR lo hi p l S m = A := ⟨_, rfl⟩
      obtain ⟨A1, hA1⟩ : ∃ A1, accR lo hi p l S (m + 1) = A1 := ⟨_, rfl⟩
      rw [hA] at HO HLe hle32 hst HFm
      rw [hA1] at hst
      have HA1 : Hid (accR lo hi p l S (m + 1) = A1) := hA1
      rw [hA]
      clear hA hA1 hk
      generalize S.getD m ds = x at *
      obtain ⟨a, c⟩ := x
      dsimp only at e0 hc hst
      by_cases hroom : (A.length : Int) < limit ∧ A.length < 32
      · obtain ⟨hr1, hr2⟩ := hroom
        have hr2' : (A.length : Int) < 32 := by omega
        have hr1' : ¬ limit ≤ (A.length : Int) := by omega
        have hr3' : ¬ (32 : Int) ≤ (A.length : Int) := by omega
        have HL1 : Hid (A.length + 1 ≤ (min limit 32).toNat) := by show _ ≤ _; omega
        have CG : Hid (1 = 1 → Calls Try.prog 16 #[.pointer (some ⟨rb, 0, none⟩), .string (bs a), .agg #[.int .u64 p, .int .u32 l]] wr fun e w' => e = .returned (.tuple #[.string (bs (getV (seeF c p l)).1), .bool (getV (seeF c p l)).2]) ∧ Below wr.heap.size wr w') := fun _ => by
          have := get16 B rb _ S a p l wr (HR.out wr HX.out.bel)
          rw [hc] at this
          exact this
        have b1 := bl a lo
        have b2 := bl a hi
        have HI : Hid (inR lo hi a = (!ltK a lo && (hi.isEmpty || ltK a hi))) := rfl
        generalize inR lo hi a = ir at *
        generalize ltK a lo = z1 at *
        generalize ltK a hi = z2 at *
        generalize hi.isEmpty = z3 at *
        generalize seeF c p l = y at *
        clear hc
        cases y with
        | none =>
          have HS2 : Hid (A1 = A) := by show _ = _; rw [hst]; split <;> simp
          clear hst HI
          dsimp only [getV] at CG
          go_wp2_with fail
          refine (CG.out (by trivial)).mono ?_
          rintro e w2 ⟨rfl, hb2⟩
          have HB2 : Hid (Below W0.heap.size W0 w2) := HB0.out.trans (hb2.mono HB0.out.size)
          have HO2 : Hid (w2.ownsRow W0.heap.size 59 2 (.slice sa A.length sc) A.length (prc A)) := own_on HO.out hb2
          clear hb2 CG
          go_wp2_with fail
          go_roundw
          case rel => exact ⟨m + 1, by omega, by go_num, by rw [HA1.out, HS2.out]; exact HLe.out, by rw [HA1.out, HS2.out]; exact HO2.out, HB2.out⟩
          case measure => simp [intOf]; omega
        | some s =>
          dsimp only [getV] at CG
          by_cases hin2 : ir = true
          · have HS2 : Hid (A1 = A ++ [(a, s)]) := by show _ = _; rw [hst, if_pos hin2]
            have hz : z1 = false ∧ (z3 = true ∨ z3 = false ∧ z2 = true) := by
              have := HI.out
              rw [hin2] at this
              cases z1 <;> cases z2 <;> cases z3 <;> simp at this ⊢
            clear hst HI hin2
            obtain ⟨rfl, hz⟩ := hz
            rcases hz with rfl | ⟨rfl, rfl⟩
            all_goals
              go_wp2_with fail
              refine (CG.out (by trivial)).mono ?_
              rintro e w2 ⟨rfl, hb2⟩
              have HB2 : Hid (Below W0.heap.size W0 w2) := HB0.out.trans (hb2.mono HB0.out.size)
              have HO2 : Hid (w2.ownsRow W0.heap.size 59 2 (.slice sa A.length sc) A.length (prc A)) := own_on HO.out hb2
              have HOw : Hid (Ow W0.heap.size 59 2 (.slice sa A.length sc) A.length (prc A) (w2.heap.size + 1) (.slice (some ⟨w2.heap.size, 0, none⟩) 1 1) 1 (prc [(a, s)]) (w2.alloc (.cells #[.string (bs a), .string (bs s)] 59))) := pr_ow a s HO2.out HB2.out.size (by omega)
              clear hb2 CG
              go_wp2_with (at_builtin; refine wpList_append_rw HOw.out Try.underlying49 hin hi0 hi1 hi2 rfl (by decide) (by decide) (.tmp 64) (.tmp 68) rfl rfl rfl rfl ?_)
              intro v' w3 hown hg hat
              have HB3 : Hid (Below W0.heap.size W0 w3) := below_own (HB2.out.alloc HB2.out.size _) HOw.out.size HOw.out.own hg
              obtain ⟨sa3, sc3, rfl, -, -, -, -⟩ := rw_own hown
              have HO3 : Hid (w3.ownsRow W0.heap.size 59 2 (.slice sa3 (A.length + 1) sc3) (A ++ [(a, s)]).length (prc (A ++ [(a, s)]))) := by
                rw [prc_append, List.length_append]
                exact hown
              clear hown hg hat HOw
              go_wp2_with fail
              go_roundw
              case rel => exact ⟨m + 1, by omega, by go_num, by rw [HA1.out, HS2.out]; simpa using HL1.out, by rw [HA1.out, HS2.out]; exact HO3.out, HB3.out⟩
              case measure => simp [intOf]; omega
          · have HS2 : Hid (A1 = A) := by show _ = _; rw [hst, if_neg hin2]; simp
            have hz : z1 = true ∨ z1 = false ∧ z3 = false ∧ z2 = false := by
              have := HI.out
              rw [show ir = false by simpa using hin2] at this
              cases z1 <;> cases z2 <;> cases z3 <;> simp at this ⊢
            clear hst HI hin2
            rcases hz with rfl | ⟨rfl, rfl, rfl⟩
            all_goals
              go_wp2_with fail
              refine (CG.out (by trivial)).mono ?_
              rintro e w2 ⟨rfl, hb2⟩
              have HB2 : Hid (Below W0.heap.size W0 w2) := HB0.out.trans (hb2.mono HB0.out.size)
              have HO2 : Hid (w2.ownsRow W0.heap.size 59 2 (.slice sa A.length sc) A.length (prc A)) := own_on HO.out hb2
              clear hb2 CG
              go_wp2_with fail
              go_roundw
              case rel => exact ⟨m + 1, by omega, by go_num, by rw [HA1.out, HS2.out]; exact HLe.out, by rw [HA1.out, HS2.out]; exact HO2.out, HB2.out⟩
              case measure => simp [intOf]; omega
      · have HY : Hid (Y = A) := HFm.out (by have := HLe.out; omega)
        have HBw : Hid (Below w.heap.size w wr) := HX.out.bel
        have HOw : Hid (wr.ownsRow w.heap.size 59 2 (.slice sa A.length sc) A.length (prc A)) := own_le HO.out HT.out.bel.size
        have hz : limit ≤ (A.length : Int) ∨ ¬ limit ≤ (A.length : Int) ∧ (32 : Int) ≤ (A.length : Int) := by omega
        clear hroom hst hc HFm
        rcases hz with h1 | ⟨h1, h2⟩
        all_goals
          go_wp2_with fail
          rw [HY.out]
          go_ret
          exact ⟨_, rfl, HOw.out, HBw.out⟩
    · have hml' : ¬ (m : Int) < L.length := by omega
      have HY : Hid (Y = accR lo hi p l S m) := HEnd.out m (by omega) HLe.out
      have HBw : Hid (Below w.heap.size w wr) := HX.out.bel
      have HOw : Hid (wr.ownsRow w.heap.size 59 2 (.slice sa (accR lo hi p l S m).length sc) (accR lo hi p l S m).length (prc (accR lo hi p l S m))) := own_le HO.out HT.out.bel.size
      clear hel
      go_wp2_with fail
      rw [HY.out]
      go_ret
      exact ⟨_, rfl, HOw.out, HBw.out⟩
end Go.Proofs.Ytcfhkggijdjagaa
