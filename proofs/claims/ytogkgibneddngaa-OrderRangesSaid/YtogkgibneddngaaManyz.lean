/-
  The walk of OrderMany.
-/
import Derived.Test.YtogkgibneddngaaManyw
namespace Go.Proofs.Ytogkgibneddngaa
open Go.RowKit Go.Sort Go.Maps Go.MapKept Go.ChangeMaps Go.WideMaps
variable {MA : Nat → Nat → (Nat → Prop) → Kv → World → Prop}

def NsAt (B : Nat) (v : Value) (l : List Int) (w : World) : Prop := RwAt B 1 v l.length (l.map (Value.int .u16)) w
theorem NsAt.el {B : Nat} {ao : Option Addr} {cap : Nat} {l : List Int} {w : World} (h : NsAt B (.slice ao l.length cap) l w) {i : Nat} (hi : i < l.length) : ∃ b off, ao = some ⟨b, off, none⟩ ∧ b < B ∧ w.cell? ⟨b, off + i, none⟩ = some (.int .u16 (l.getD i 0)) := by
  obtain ⟨b, off, e, hb, hc⟩ := RwAt.cellAt h (j := i) (by simpa using hi)
  exact ⟨b, off, e, hb, hc i _ (by simp [List.getD, hi])⟩

set_option maxHeartbeats 8000000 in
set_option maxRecDepth 100000 in
theorem many4 (I : Ifc MA) (B : Nat) (l : List Int) (v : Value) (cut : Int) (w : World) (hv : NsAt B v l w) (hB : B ≤ w.heap.size) :
    Calls Try.prog 4 #[v, .int .u16 cut] w fun e w' => e = .returned (.bool true) ∧ Below w.heap.size w w' := by
  have H : Hid (NsAt w.heap.size v l w) := RwAt.le hv hB
  obtain ⟨ao, cap, rfl, _, hlc, hcm, _⟩ := hv
  clear hB hlc hcm
  have CA : Hid (∀ W : World, 1 = 1 → Calls Try.prog 7 #[] W fun e w' => e = .returned (.bool true) ∧ Below W.heap.size W w') := fun W _ => awake7 I W
  have CN : Hid (∀ W : World, Below w.heap.size w W → Calls Try.prog 8 #[] W fun e w' => ∃ p, e = .returned (.pointer (some ⟨p, 0, none⟩)) ∧ Mw MA w p [] w') := fun W h => mw_new I h
  have CK : Hid (∀ n (W : World), 1 = 1 → Calls Try.prog 19 #[.int .u16 n] W fun e w' => ∃ kb : List UInt8, kb.length ≤ 1000 ∧ e = .returned (.string (bs kb)) ∧ Below W.heap.size W w') := fun n W _ => key19 n W
  have hmm := @run_makeMap Try.prog
  go_enter Try.func4, Try.ntmps4
  go_wp2_with fail
  refine (CA.out _ (by trivial)).mono ?_
  rintro e w1 ⟨rfl, hb1⟩
  have H1 : Hid _ := hb1
  clear hb1 CA
  by_cases h2000 : (2000 : Int) < l.length
  · go_wp2_with fail
    go_ret
    exact ⟨rfl, H1.out⟩
  go_wp2_with fail
  refine (CN.out _ H1.out).mono ?_
  rintro e w2 ⟨p, rfl, hm2⟩
  have H2 : Hid (My MA w p w2.heap.size [] (.map []) 0 (w2.alloc (.map #[] 0))) := my_new I hm2
  clear hm2 CN H1
  go_wp2_with fail
  generalize w2.alloc (.map #[] 0) = w3 at H2 ⊢
  generalize w2.heap.size = hb at H2 ⊢
  clear hmm
  go_loopw [29] (fun i wr => ∃ k : Nat, k ≤ l.length ∧ i = .int .i64 k ∧ ∃ L D m, My MA w p hb L D m wr ∧ Twin D L ∧ L.length ≤ k ∧ m ≤ k ∧ ∀ x ∈ L, x.1.length ≤ 1000) (fun i _ => l.length - (intOf i).toNat)
  case atStart => exact ⟨0, Nat.zero_le _, rfl, [], .map [], 0, H2.out, Twin.none, Nat.le_refl _, Nat.le_refl _, by simp⟩
  case round =>
    obtain ⟨k, hk, rfl, L, D, m, hm, htw, hLk, hmk, hkl0⟩ := hrel
    have HKl : Hid _ := hkl0
    clear hkl0
    have HM : Hid _ := hm
    have HT : Hid _ := htw
    have HLk : Hid _ := hLk
    have HMk : Hid _ := hmk
    clear hm htw hLk hmk H2
    by_cases hkl : k < l.length
    · obtain ⟨b, off, rfl, _, e0⟩ := NsAt.el (RwAt.on H.out HM.out.bel) hkl
      generalize l.getD k 0 = n at e0
      have hkl' : (k : Int) < l.length := by omega
      have hk2000 : k < 2000 := by omega
      go_wp2_with fail
      refine (CK.out _ _ (by trivial)).mono ?_
      rintro e w4 ⟨kb, hkb, rfl, hb4⟩
      have H4 : Hid (My MA w p hb L D m w4) := My.on I HM.out hb4
      have HKb : Hid _ := key_of kb hkb
      have HK1 : Hid (∀ x ∈ setF kb k L, x.1.length ≤ 1000) := fun x hx => by
        rcases setF_keys hx with rfl | hx
        · exact hkb
        · exact HKl.out x hx
      clear hb4 hkb e0
      go_wp2_with fail
      refine (my_set I kb k H4.out (by have := HLk.out; omega)).mono ?_
      rintro e w5 ⟨rfl, h5⟩
      have H5 : Hid (My MA w p hb (setF kb k L) D m w5) := h5
      have HT5 : Hid _ := Twin.put HT.out kb k
      clear h5 H4
      have hwf : (Lit.int .i64 (k : Int)).wf = true := WalkArith.wf_i64 (by omega)
      go_wp2_with (at_mapUpdate; refine wpList_mapUpdate_own _ rfl _ _ _ 43 rfl 9 3 law9 Try.underlying43 _ hb m _ rfl H5.out.own (by have := HMk.out; unfold maxLen; omega) _ _ _ rfl rfl HKb.out _ [] (plainElem_int Try.underlying3 hwf) ?_)
      intro w6 hown6 hg6
      have H6 : Hid _ := My.turn I H5.out (grown_turn hg6) hown6 rfl
      have HL1 : Hid ((setF kb k L).length ≤ k + 1) := by
        show _ ≤ _
        rw [len_set HT.out.srt]
        have := HLk.out
        split <;> omega
      clear hown6 hg6 H5 hwf HKb HT HLk HM
      generalize setF kb k L = L1 at *
      generalize D.put (Lit.string kb) (DataW.lit (Lit.int IntKind.i64 k)) = D1 at *
      go_wp2_with fail
      refine (CK.out _ _ (by trivial)).mono ?_
      rintro e w7 ⟨kc2, hkb, rfl, hb7⟩
      have H7 : Hid (My MA w p hb L1 D1 (m + 1) w7) := My.on I H6.out hb7
      have HKb : Hid _ := key_of kc2 hkb
      clear hb7 hkb H6
      obtain ⟨z, hz⟩ : ∃ z, ((k : Int) % 3 == 2) = z := ⟨_, rfl⟩
      cases z
      · go_wp2_with fail
        go_roundw
        case rel => exact ⟨k + 1, by omega, by go_num, L1, D1, m + 1, H7.out, HT5.out, HL1.out, by have := HMk.out; omega, HK1.out⟩
        case measure => simp [intOf]; omega
      · have HHas : Hid _ := HT5.out.has kc2
        have HTd : Hid _ := Twin.del HT5.out kc2
        have HLc : Hid ((cutF kc2 L1).length ≤ k + 1) := by
          show _ ≤ _
          rw [len_cut HT5.out.srt]
          have := HL1.out
          split <;> omega
        have CC : Hid (∀ W, My MA w p hb L1 D1 (m + 1) W → _) := fun W h => my_cut I kc2 h (by have := HL1.out; omega)
        generalize (getF kc2 L1).isSome = gs at *
        go_wp2_with (at_lookup; refine wpList_lookup_own_ok_int _ rfl _ _ 43 rfl 9 3 .i64 law9 Try.underlying43 Try.underlying3 (zero3 _) hb (m + 1) _ rfl H7.out.own _ _ rfl HKb.out ?_)
        intro c hat hwc
        rw [HHas.out]
        clear hat hwc
        go_wp2_with fail
        refine (CC.out _ H7.out).mono ?_
        rintro e w8 ⟨rfl, h8⟩
        have H8 : Hid (My MA w p hb (cutF kc2 L1) D1 (m + 1) w8) := h8
        clear h8 H7 CC
        go_wp2_with (at_delete; refine wpList_delete_own _ rfl _ _ 43 9 rfl 3 law9 Try.underlying43 _ hb (m + 1) D1 rfl H8.out.own _ _ rfl HKb.out ?_)
        intro w9 hown9 hturn9
        have H9 : Hid _ := My.turn I H8.out (grown_turn hturn9.grown) hown9 rfl
        clear hown9 hturn9 H8
        go_wp2_with fail
        go_roundw
        case rel => exact ⟨k + 1, by omega, by go_num, _, _, m + 1, H9.out, HTd.out, HLc.out, by have := HMk.out; omega, fun x hx => HK1.out x (cutF_sub hx)⟩
        case measure => simp [intOf]; omega
    · have hkl' : ¬ (k : Int) < l.length := by omega
      have hL2 : L.length ≤ 2000 := by have := HLk.out; omega
      have HSz : Hid _ := HT.out.size
      go_wp2_with fail
      refine (my_keys I HM.out (by omega)).mono ?_
      rintro e w4 ⟨va, rfl, hk4, hb4⟩
      obtain ⟨sa, sc, rfl, hsc, hsm⟩ := hk4.shape
      have hlm : (L.map (·.1)).length = L.length := by simp
      unfold KsAt at hk4
      rw [hlm] at hk4 ⊢
      have H4 : Hid (My MA w p hb L D m w4) := My.on I HM.out hb4
      have HK4 : Hid _ := hk4
      clear hk4 hb4 HM hlm
      have hl4 := fun ty => H4.out.own.len Try.underlying43 ty
      rw [HSz.out] at hl4
      have hne : ((L.length : Int) != L.length) = false := by simp
      go_wp2_with fail
      refine (my_len I H4.out (by omega)).mono ?_
      rintro e w5 ⟨rfl, hb5⟩
      have H5 : Hid (My MA w p hb L D m w5) := My.on I H4.out hb5
      have HK5 : Hid (RwAt w5.heap.size 1 (.slice sa L.length sc) L.length (kc (L.map (·.1))) w5) := RwAt.le (RwAt.on HK4.out hb5) hb5.size
      clear hb5 hl4 H4 HK4
      have hl5 := fun ty => H5.out.own.len Try.underlying43 ty
      rw [HSz.out] at hl5
      go_wp2_with fail
      clear hl5 hne
      go_loopw [80] (fun i wr => ∃ j : Nat, j ≤ L.length ∧ i = .int .i64 j ∧ My MA w p hb L D m wr ∧ RwAt wr.heap.size 1 (.slice sa L.length sc) L.length (kc (L.map (·.1))) wr) (fun i _ => L.length - (intOf i).toNat)
      case atStart => exact ⟨0, Nat.zero_le _, rfl, H5.out, HK5.out⟩
      case round =>
        obtain ⟨j, hj, rfl, hm, hks⟩ := hrel
        have HM : Hid _ := hm
        have HKs : Hid _ := hks
        clear hm hks H5 HK5
        by_cases hjl : j < L.length
        · have hget : ∀ i, i < L.length → (kc (L.map (·.1)))[i]? = some (.string (bs (L.getD i dk).1)) := fun i hi => by simp [kc, List.getD, hi]
          obtain ⟨b, off, rfl, _, hc⟩ := RwAt.cellAt HKs.out (j := j) (by rw [kc_length]; simpa using hjl)
          have d1 := hc j _ (hget j hjl)
          have hmem : L.getD j dk ∈ L := by rw [show L.getD j dk = L[j] from by simp [List.getD, hjl]]; exact List.getElem_mem _
          have HG : Hid (getF (L.getD j dk).1 L = some (L.getD j dk).2) := (getF_mem HT.out.srt).2 hmem
          have HKo : Hid _ := key_of (L.getD j dk).1 (HKl.out _ hmem)
          have HHas : Hid (Maps.has D (.string (L.getD j dk).1) = true) := by rw [HT.out.has, HG.out]; exact rfl
          have HAt : Hid _ := HT.out.at_ (L.getD j dk).1 (L.getD j dk).2 (.lit (.int .i64 0)) HG.out
          have HLt : Hid (∀ i, i < j → ltK (L.getD i dk).1 (L.getD j dk).1 = true) := fun i hi => by
            have := List.pairwise_iff_getElem.1 HT.out.srt i j (by omega) hjl hi
            rw [show L.getD i dk = L[i] from by simp [List.getD, show i < L.length by omega], show L.getD j dk = L[j] from by simp [List.getD, hjl]]
            exact this
          have CG : Hid (1 = 1 → _) := fun _ => my_get I (L.getD j dk).1 HM.out (by omega)
          rw [HG.out] at CG
          have HPr : Hid (∀ i, i < j → wr.cell? ⟨b, off + i, none⟩ = some (.string (bs (L.getD i dk).1))) := fun i hi => hc i _ (hget i (by omega))
          clear hc hget hmem HG
          generalize (L.getD j dk).1 = kj at *
          generalize (L.getD j dk).2 = vj at *
          have hjl' : (j : Int) < L.length := by omega
          go_wp2_with fail
          refine (CG.out (by trivial)).mono ?_
          rintro e w6 ⟨rfl, hb6⟩
          have H6 : Hid (My MA w p hb L D m w6) := My.on I HM.out hb6
          have HK6 : Hid (RwAt w6.heap.size 1 (.slice (some ⟨b, off, none⟩) L.length sc) L.length (kc (L.map (·.1))) w6) := RwAt.le (RwAt.on HKs.out hb6) hb6.size
          have HP6 : Hid (∀ i, i < j → w6.cell? ⟨b, off + i, none⟩ = some (.string (bs (L.getD i dk).1))) := fun i hi => by
            rw [hb6.cell (p := ⟨b, off + i, none⟩) (World.block_lt_of_cell? _ _ (HPr.out i hi))]
            exact HPr.out i hi
          clear hb6 d1 HM HKs HPr CG
          by_cases hj0 : j = 0
          · subst hj0
            go_wp2_with (at_lookup; refine wpList_lookup_own_ok_int _ rfl _ _ 43 rfl 9 3 .i64 law9 Try.underlying43 Try.underlying3 (zero3 _) hb m _ rfl H6.out.own _ _ rfl HKo.out ?_)
            intro c hat hwc
            rw [HHas.out]
            have hcv : c = vj := by
              rw [HAt.out] at hat
              injection hat with hat
              injection hat with _ hat
              exact hat.symm
            subst hcv
            clear hat hwc
            go_wp2_with fail
            go_roundw
            case rel => exact ⟨1, by omega, by go_num, H6.out, HK6.out⟩
            case measure => simp [intOf]; omega
          · obtain ⟨j1, hj1⟩ : ∃ j1 : Nat, j = j1 + 1 := ⟨j - 1, by omega⟩
            subst hj1
            have d0 := HP6.out j1 (by omega)
            have hlt := HLt.out j1 (by omega)
            have hbl := bl (L.getD j1 dk).1 kj
            rw [hlt] at hbl
            clear hj0 hlt HLt HP6
            generalize (L.getD j1 dk).1 = kp at *
            have hwr : IntKind.i64.wrap (j1 : Int) = j1 := by simp [IntKind.wrap, IntKind.signed, IntKind.bits]; omega
            have hjj : (0 : Int) < (j1 : Int) + 1 := by omega
            have hj1l : (j1 : Int) < L.length := by omega
            go_wp2_with (at_lookup; refine wpList_lookup_own_ok_int _ rfl _ _ 43 rfl 9 3 .i64 law9 Try.underlying43 Try.underlying3 (zero3 _) hb m _ rfl H6.out.own _ _ rfl HKo.out ?_)
            intro c hat hwc
            rw [HHas.out]
            have hcv : c = vj := by
              rw [HAt.out] at hat
              injection hat with hat
              injection hat with _ hat
              exact hat.symm
            subst hcv
            clear hat hwc
            go_wp2_with fail
            go_roundw
            case rel => exact ⟨j1 + 1 + 1, by omega, by go_num, H6.out, HK6.out⟩
            case measure => simp [intOf]; omega
        · have hjl' : ¬ (j : Int) < L.length := by omega
          go_wp2_with fail
          go_ret
          exact ⟨rfl, HM.out.bel⟩
end Go.Proofs.Ytogkgibneddngaa
