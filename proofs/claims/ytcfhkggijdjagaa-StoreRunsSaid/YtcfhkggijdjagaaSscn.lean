/-
  The program's store: Scan, the keys taken part by part.
-/
import Derived.Test.YtcfhkggijdjagaaSsc
namespace Go.Proofs.Ytcfhkggijdjagaa
open Go.RowKit

/-- Pairs that are scanned, beside a stamp's box. -/
structure Scw (w : World) (bx : Nat) (tp tl : Int) (vv : Value) (A : List (List UInt8 × List UInt8)) (W : World) : Prop where
  own : W.ownsRow w.heap.size 59 2 vv A.length (prc A)
  x : W.heap[bx]? = some (.cells #[.int .u64 tp, .int .u32 tl] 33 (0, 0))
  bel : Below w.heap.size w W
  xn : vv.ownBlock ≠ some bx
theorem Scw.on {w W W' : World} {bx : Nat} {tp tl : Int} {vv : Value} {A : List (List UInt8 × List UInt8)} (h : Scw w bx tp tl vv A W) (hb : Below W.heap.size W W') : Scw w bx tp tl vv A W' :=
  ⟨own_on h.own hb, by rw [hb.block bx (Array.getElem?_eq_some_iff.1 h.x).1]; exact h.x, h.bel.trans (hb.mono h.bel.size), h.xn⟩
theorem Scw.stamp {w W : World} {bx : Nat} {tp tl : Int} {vv : Value} {A : List (List UInt8 × List UInt8)} (h : Scw w bx tp tl vv A W) : W.cell? ⟨bx, 0, none⟩ = some (.int .u64 tp) ∧ W.cell? ⟨bx, 1, none⟩ = some (.int .u32 tl) := ⟨block_cell h.x rfl, block_cell h.x rfl⟩
theorem Scw.next {w W W' : World} {bx : Nat} {tp tl : Int} {vv kv : Value} {K : List (List UInt8)} {A A' : List (List UInt8 × List UInt8)} {sa : Option Addr} {sc : Nat} (h : Scw w bx tp tl vv A W) (hp : GPost w (fun k => vv.ownBlock = some k) W kv K A' sa sc W') : Scw w bx tp tl (.slice sa A'.length sc) A' W' := by
  have hxl := (Array.getElem?_eq_some_iff.1 h.x).1
  obtain ⟨h1, _, h3, h4, h5⟩ := hp
  refine ⟨h1, by rw [h4.block bx hxl h.xn]; exact h.x, h3, fun hx => ?_⟩
  rcases h5 bx hx with e | e
  · exact h.xn e
  · omega
/-- How much of the range is left from the text on. -/
def leftS (hi : List UInt8) (S : Sk) : Value → Nat
  | .string b => (rngS b.data.toList hi S).length
  | _ => 0
theorem leftS_bs (hi lo : List UInt8) (S : Sk) : leftS hi S (.string (bs lo)) = (rngS lo hi S).length := by
  show (rngS (bs lo).data.toList hi S).length = _
  rw [bs_data]

set_option maxHeartbeats 1600000 in
theorem so_scan {B p q : Nat} {t : Tr} {S : Sk} {w : World} (lo hi : List UInt8) (tp tl limit : Int) (h : So B p q t S w) (ht : totS S < 10000) :
    Calls Try.prog 22 #[.pointer (some ⟨p, 0, none⟩), .string (bs lo), .string (bs hi), .agg #[.int .u64 tp, .int .u32 tl], .int .i64 limit] w fun e w' => ∃ v', e = .returned v' ∧ w'.ownsRow w.heap.size 59 2 v' (scanS lo hi tp tl limit S).length (prc (scanS lo hi tp tl limit S)) ∧ Below w.heap.size w w' := by
  have HS : Hid (So B p q t S w) := h
  have HT : Hid (totS S < 10000) := ht
  have HX : Hid (Scw w w.heap.size tp tl (.slice none 0 0) [] (w.alloc (.cells #[.int .u64 tp, .int .u32 tl] 33))) := ⟨own_nil _ _ _ _, heap_alloc_new w _, al _, fun h => by cases h⟩
  have HFull : Hid (∀ m, ((scanR tp tl ((rngS lo hi S).take m)).take (min limit 32).toNat).length = (min limit 32).toNat → scanS lo hi tp tl limit S = (scanR tp tl ((rngS lo hi S).take m)).take (min limit 32).toNat) := fun m e => part_full e
  have HEnd : Hid (∀ m, (rngS lo hi S).length ≤ m → scanS lo hi tp tl limit S = (scanR tp tl ((rngS lo hi S).take m)).take (min limit 32).toNat) := fun m hm => part_end hm
  obtain ⟨mx, hmx⟩ : ∃ mx, min limit 32 = mx := ⟨_, rfl⟩
  have hm32 : mx ≤ 32 := by omega
  rw [hmx] at HFull HEnd
  have H0 : Hid ((scanR tp tl ((rngS lo hi S).take 0)).take mx.toNat = []) := by show _ = _; simp [scanR]
  generalize scanS lo hi tp tl limit S = Y at *
  have HR : Hid (rngS lo hi S = (rngS lo hi S).drop 0) := rfl
  generalize hRR : rngS lo hi S = R at HFull HEnd H0 HR
  have HR0 : Hid (rngS lo hi S = R.drop 0) := hRR
  clear h ht hRR HR
  go_enter Try.func22, Try.ntmps22
  go_upto_region 4 with fail
  go_cut [4] (fun s4 wc => s4 = .int .i64 mx ∧ wc = w.alloc (.cells #[.int .u64 tp, .int .u32 tl] 33))
  case first =>
    go_wp2_with fail
    all_goals
      go_meet
      refine ⟨?_, rfl⟩
      rw [← hmx]
      congr 1
      omega
  case rest =>
    obtain ⟨rfl, rfl⟩ := hcut
    clear hmx
    obtain ⟨W0, hW0⟩ : ∃ W0, w.alloc (.cells #[.int .u64 tp, .int .u32 tl] 33) = W0 := ⟨_, rfl⟩
    rw [hW0] at HX ⊢
    clear hW0
    obtain ⟨bx, hbx⟩ : ∃ bx, w.heap.size = bx := ⟨_, rfl⟩
    rw [hbx] at HX ⊢
    have HBX : Hid (w.heap.size = bx) := hbx
    clear hbx
    go_wp2_with fail
    go_loopw [1, 11] (fun f vv wr => ∃ (m : Nat) (lw : List UInt8), f = .string (bs lw) ∧ rngS lw hi S = R.drop m ∧ Scw w bx tp tl vv ((scanR tp tl (R.take m)).take mx.toNat) wr) (fun f _ _ => leftS hi S f)
    case atStart => exact ⟨0, lo, rfl, HR0.out, by rw [H0.out]; exact HX.out⟩
    case round =>
      obtain ⟨m, lw, rfl, hrn, hsw⟩ := hrel
      obtain ⟨va, vc, rfl, -, -, -, -⟩ := rw_own hsw.own
      obtain ⟨A, hA⟩ : ∃ A, (scanR tp tl (R.take m)).take mx.toNat = A := ⟨_, rfl⟩
      have hAl : A.length ≤ mx.toNat := by rw [← hA]; exact List.length_take_le _ _
      have HFm : Hid _ := HFull.out m
      have HPt : Hid _ := part_take tp tl R m mx.toNat
      rw [hA] at hsw HFm HPt ⊢
      have HAl : Hid _ := hAl
      have HW : Hid (Scw w bx tp tl (.slice va A.length vc) A wr) := hsw
      have HRn : Hid (rngS lw hi S = R.drop m) := hrn
      have hA32 : A.length ≤ 32 := by omega
      clear hA hsw hrn HX hAl HR0 H0 HFull
      by_cases hroom : (A.length : Int) < mx
      · have c0 := (HS.out.on HW.out.bel).cell
        have CK : Hid (1 = 1 → _) := fun _ => mc_part lw hi (HS.out.on HW.out.bel).mc HT.out
        have HNx : Hid (31 < (rngS lw hi S).length → rngS (((rngS lw hi S).getD 31 ds).1 ++ [0]) hi S = (rngS lw hi S).drop 32) := fun h => rngS_next HS.out.mc.sok.srt h
        have HCh : Hid (∀ i, i < ((rngS lw hi S).take 32).length → chainF (((rngS lw hi S).take 32).getD i ds).1 S = (((rngS lw hi S).take 32).getD i ds).2) := fun i hi' => by
          refine chain_mem HS.out.mc.sok ?_
          exact (List.mem_filter.1 (List.mem_of_mem_take (getD_mem hi'))).1
        have HKl : Hid (∀ i, i < ((rngS lw hi S).take 32).length → (((rngS lw hi S).take 32).getD i ds).1.length ≤ 32) := fun i hi' => HS.out.kl _ (List.mem_filter.1 (List.mem_of_mem_take (getD_mem hi'))).1
        have HLf := leftS_bs hi lw S
        rw [HRn.out] at CK HNx HCh HKl HLf
        obtain ⟨Q, hQ⟩ : ∃ Q, (R.drop m).take 32 = Q := ⟨_, rfl⟩
        have hQl : Q.length ≤ 32 := by rw [← hQ]; exact List.length_take_le _ _
        have HQe : Hid (Q.length < 32 → R.length ≤ m + 32) := fun h => by
          rw [← hQ, List.length_take, List.length_drop] at h
          omega
        have HQ31 : Hid (Q.length = 32 → 31 < (R.drop m).length ∧ Q.getD 31 ds = (R.drop m).getD 31 ds) := fun h => by
          rw [← hQ, List.length_take] at h
          refine ⟨by omega, ?_⟩
          rw [← hQ]
          simp [List.getD]
        rw [hQ] at CK HPt HCh HKl
        clear hQ
        have CG : Hid (∀ W ka kp, Below w.heap.size w W → W.ownsRow w.heap.size 59 2 (.slice va A.length vc) A.length (prc A) → W.ownsRow w.heap.size 9 1 (.slice ka Q.length kp) (Q.map (·.1)).length (kc (Q.map (·.1))) → (∀ k, (Value.slice va A.length vc).ownBlock = some k → (Value.slice ka Q.length kp).ownBlock ≠ some k) → _) := fun W ka kp hb ho hk hap => gather45 tp tl mx HS.out Q HCh.out hQl A HAl.out hm32 va vc ka kp W hb ho hk hap
        rw [HPt.out] at CG
        obtain ⟨A1, hA1⟩ : ∃ A1, (scanR tp tl (R.take (m + 32))).take mx.toNat = A1 := ⟨_, rfl⟩
        have HA1 : Hid (A1 = (scanR tp tl (R.take (m + 32))).take mx.toNat) := hA1.symm
        have HEm : Hid (R.length ≤ m + 32 → Y = A1) := fun h => by rw [HEnd.out _ h, hA1]
        rw [hA1] at CG
        clear hA1 HPt HCh HFm
        obtain ⟨x0, x1⟩ := HW.out.stamp
        go_wp2_with fail
        refine (CK.out (by trivial)).mono ?_
        rintro e w1 ⟨ka, kp, rfl, hk1, hb1⟩
        have H1 : Hid (Scw w bx tp tl (.slice va A.length vc) A w1) := HW.out.on hb1
        have CX : Hid (1 = 1 → _) := fun _ => CG.out w1 ka kp H1.out.bel H1.out.own (own_le hk1 HW.out.bel.size) (fun k h2 h3 => by
          have := own_blk HW.out.own h2
          have := (own_lt hk1 h3).1
          omega)
        clear hb1 hk1 CK CG c0 HW x0 x1
        obtain ⟨x0, x1⟩ := H1.out.stamp
        go_wp2_with fail
        refine (CX.out (by trivial)).mono ?_
        rintro e w2 ⟨sa, sc, rfl, hp⟩
        have H2 : Hid (Scw w bx tp tl (.slice sa A1.length sc) A1 w2) := H1.out.next hp
        have HK2 : Hid (w2.ownsRow w.heap.size 9 1 (.slice ka Q.length kp) (Q.map (·.1)).length (kc (Q.map (·.1)))) := hp.2.1
        clear hp CX H1 x0 x1
        by_cases hq : Q.length < 32
        · have hq' : (Q.length : Int) < 32 := by omega
          have HY : Hid (Y = A1) := HEm.out (HQe.out hq)
          go_wp2_with fail
          rw [HY.out]
          go_ret
          exact ⟨_, rfl, H2.out.own, H2.out.bel⟩
        · have hq2 : Q.length = 32 := by omega
          obtain ⟨h31, hq31⟩ := HQ31.out hq2
          have HNx' := HNx.out h31
          have hkl31 := HKl.out 31 (by omega)
          obtain ⟨b, off, rfl, e0⟩ := keys_at (m := 31) (by simp) HK2.out (Below.refl _ _) (by omega)
          rw [map_at Q (by omega), hq31] at e0
          rw [hq31] at hkl31
          obtain ⟨k, hk⟩ : ∃ k, ((R.drop m).getD 31 ds).1 = k := ⟨_, rfl⟩
          rw [hk] at e0 hkl31 HNx'
          have CA : Hid (∀ W, _) := fun W => above46 k W hkl31
          have HMe : Hid (leftS hi S (.string (bs (k ++ [0]))) < leftS hi S (.string (bs lw)) ∧ rngS (k ++ [0]) hi S = R.drop (m + 32)) := by
            have e1 : rngS (k ++ [0]) hi S = R.drop (m + 32) := by rw [HNx', List.drop_drop]
            refine ⟨?_, e1⟩
            rw [leftS_bs, leftS_bs, e1, HRn.out, List.length_drop, List.length_drop]
            rw [List.length_drop] at h31
            omega
          generalize Q.length = ql at *
          subst hq2
          clear HNx' hkl31 hk hq31 h31 HLf
          go_wp2_with fail
          refine (CA.out _).mono ?_
          rintro e w3 ⟨rfl, rfl⟩
          go_wp2_with fail
          go_roundw
          case rel => exact ⟨m + 32, k ++ [0], rfl, HMe.out.2, by rw [← HA1.out]; exact H2.out⟩
          case measure => exact HMe.out.1
      · have hr1' : ¬ (A.length : Int) < mx := hroom
        have HY : Hid (Y = A) := HFm.out (by have := HAl.out; omega)
        clear hroom
        go_wp2_with fail
        rw [HY.out]
        go_ret
        exact ⟨_, rfl, HW.out.own, HW.out.bel⟩
end Go.Proofs.Ytcfhkggijdjagaa
