/-
  VerdictOrder, walked.
-/
import Derived.Test.YtkadaoebehgkbaaOrq
import Derived.BigQuiet
namespace Go.Proofs.Ytkadaoebehgkbaa
open Go.RowKit
variable {BA : Nat → Nat → (Nat → Prop) → Bk → World → Prop}

theorem srt_at {K : Bk} (hs : SrtV K) {i : Nat} (h : i + 1 < K.length) : (K.getD i dv).c < (K.getD (i + 1) dv).c ∨ (K.getD i dv).c = (K.getD (i + 1) dv).c ∧ (K.getD i dv).n < (K.getD (i + 1) dv).n := by
  have h1 := List.pairwise_iff_getElem.1 hs i (i + 1) (by omega) h (by omega)
  rw [ltT_iff] at h1
  rw [show K.getD i dv = K[i] from by simp [List.getD, show i < K.length from by omega], show K.getD (i + 1) dv = K[i + 1] from by simp [List.getD, h]]
  exact h1

set_option maxHeartbeats 6400000 in
set_option maxRecDepth 100000 in
theorem order6 (I : Ifv BA) (B : Nat) (L : Bk) (va : Value) (turn : Int) (w : World) (hv : VsAt B va L w) (hr : ∀ u ∈ L, RgV u) (hB : B ≤ w.heap.size) : Calls Try.prog 6 #[va, .int .i64 turn] w fun e w' => e = .returned (.bool true) ∧ Below w.heap.size w w' := by
  obtain ⟨ao, cap, rfl, hlc, hcm⟩ := hv.shape
  have CA : Hid (∀ W : World, 1 = 1 → Calls Try.prog 7 #[] W fun e w' => e = .returned (.bool true) ∧ Below W.heap.size W w') := fun W _ => awake7 I W
  have CN : Hid (∀ W, Below w.heap.size w W → _) := fun W hW => pz_new I (F := fun _ => False) hW (fun _ h => h.elim)
  have HEl : Hid (∀ W, Below w.heap.size w W → ∀ i, i < L.length → ∃ b off, ao = some ⟨b, off, none⟩ ∧ VdAt W b (off + i * 8) (L.getD i dv)) := fun W hW i hi => VsAt.el (B := B) (show VsAt B _ L W from RwAt.on hv (hW.mono hB)) hi
  have HRg : Hid (∀ i, i < L.length → RgV (L.getD i dv)) := fun i hi => hr _ (by rw [List.getD, List.getElem?_eq_getElem hi]; exact List.getElem_mem hi)
  have hL9 : L.length < 9223372036854775808 := by omega
  have hmm := @run_makeMap Try.prog
  clear hv hB hlc hcm hr
  go_enter Try.func6, Try.ntmps6
  go_wp2_with fail
  refine (CA.out _ (by trivial)).mono ?_
  rintro e w1 ⟨rfl, hb⟩
  have H1 : Hid (Below w.heap.size w w1) := hb
  clear hb CA
  by_cases hn0 : L.length = 0
  · have q0 : ((L.length : Int) == 0) = true := by rw [hn0]; rfl
    go_wp2_with fail
    go_ret
    exact ⟨rfl, H1.out⟩
  have q0 : ((L.length : Int) == 0) = false := by rw [beq_eq_false_iff_ne]; omega
  by_cases hn60 : 60 < L.length
  · have q1 : (60 : Int) < L.length := by omega
    clear hn0
    go_wp2_with fail
    go_ret
    exact ⟨rfl, H1.out⟩
  have q1 : ¬ (60 : Int) < L.length := by omega
  have HN : Hid (0 < L.length ∧ L.length ≤ 60) := ⟨by omega, by omega⟩
  clear hn0 hn60
  have HM : Hid (GmAt w1.heap.size [] (w1.alloc (.map #[] 0)) ∧ Below w.heap.size w (w1.alloc (.map #[] 0))) := ⟨GmAt.new w1, H1.out.alloc H1.out.size _⟩
  have HSz : Hid (w.heap.size ≤ w1.heap.size) := H1.out.size
  go_upto_block 0 with fail
  obtain ⟨W2, hW2⟩ : ∃ W2, w1.alloc (.map #[] 0) = W2 := ⟨_, rfl⟩
  rw [hW2] at HM ⊢
  clear hW2 H1 hmm
  obtain ⟨mb, hmb⟩ : ∃ mb, w1.heap.size = mb := ⟨_, rfl⟩
  rw [hmb] at HM HSz ⊢
  clear hmb
  go_cut [] from 7 to 38 (fun wc => (∀ a b, a < b → b < L.length → ¬ ((L.getD a dv).c = (L.getD b dv).c ∧ (L.getD a dv).n = (L.getD b dv).n)) ∧ Below w.heap.size w wc)
  case first =>
    go_wp2_with fail
    go_loopw [27] (fun i wr => ∃ (m : Nat) (g : Mm), m ≤ L.length ∧ i = .int .i64 m ∧ Se L m g ∧ GmAt mb g wr ∧ Below w.heap.size w wr) (fun i _ => L.length - (intOf i).toNat)
    case atStart => exact ⟨0, [], Nat.zero_le _, rfl, Se.start L, HM.out⟩
    case round =>
      obtain ⟨m, g, hm, rfl, hse, hgm, hbr⟩ := hrel
      have HS : Hid (Se L m g) := hse
      have HG : Hid (GmAt mb g wr ∧ Below w.heap.size w wr) := ⟨hgm, hbr⟩
      clear hse hgm hbr HM
      by_cases hml : m < L.length
      · have hml' : (m : Int) < L.length := by omega
        obtain ⟨b, off, rfl, e0, e1, e2, e3, e4, e5, e6, e7⟩ := HEl.out wr HG.out.2 m hml
        have HNx : Hid _ := HS.out.next
        generalize L.getD m dv = x at *
        have HGa : Hid (GmAt mb g (wr.alloc (vbx x)) ∧ Below w.heap.size w (wr.alloc (vbx x))) := ⟨HG.out.1.kept (F := fun _ => False) (Kept.of_below (al _)) (fun h => h), HG.out.2.alloc HG.out.2.size _⟩
        simp only [vbx] at HGa
        have q2 : (Instr.lookup 53 (.map (some mb)) (.agg #[.int .u32 x.c, .int .u32 x.n]) false).run Try.prog (wr.alloc (.cells #[.int .u32 x.c, .int .u32 x.n, .int .u64 x.sp, .int .u32 x.sl, .int .u64 x.ap, .int .u32 x.al, .int .u8 x.pt, .bool x.dn] 37)) = .ok (.bool ((getM (x.c, x.n) g).getD false)) (wr.alloc (.cells #[.int .u32 x.c, .int .u32 x.n, .int .u64 x.sp, .int .u32 x.sl, .int .u64 x.ap, .int .u32 x.al, .int .u8 x.pt, .bool x.dn] 37)) := run_look HGa.out.1 (x.c, x.n)
        obtain ⟨w', hrun, hgm', hk'⟩ := run_upd HGa.out.1 (x.c, x.n) true
        have hrun' : (Instr.mapUpdate 53 (.map (some mb)) (.agg #[.int .u32 x.c, .int .u32 x.n]) (.bool true)).run Try.prog (wr.alloc (.cells #[.int .u32 x.c, .int .u32 x.n, .int .u64 x.sp, .int .u32 x.sl, .int .u64 x.ap, .int .u32 x.al, .int .u8 x.pt, .bool x.dn] 37)) = .ok () w' := hrun
        have HU : Hid (GmAt mb (setM (x.c, x.n) true g) w' ∧ Below w.heap.size w w') := ⟨hgm', HGa.out.2.trans (hk'.below HGa.out.2.size (fun k e => by rw [e]; exact HSz.out))⟩
        clear hgm' hk' hrun
        generalize (getM (x.c, x.n) g).getD false = z at *
        cases z
        · have HN2 : Hid _ := HNx.out rfl
          go_wp2_with fail
          go_roundw
          case rel => exact ⟨m + 1, _, by omega, by go_num, HN2.out, HU.out⟩
          case measure => simp [intOf]; omega
        · go_wp2_with fail
          go_ret
          exact ⟨rfl, HGa.out.2⟩
      · have hml' : ¬ (m : Int) < L.length := by omega
        have HD : Hid _ := HS.out.dst
        go_wp2_with fail
        go_meet
        exact ⟨fun a b h1 h2 => HD.out a b h1 (by omega), HG.out.2⟩
  case rest =>
    obtain ⟨hd, hbw⟩ := hcut
    have HD : Hid (Dst L) := dst_of hd
    have HBw : Hid (Below w.heap.size w wc) := hbw
    clear hd hbw HM
    obtain ⟨k, hk, hke⟩ := turn_at turn HN.out.1
    have hwr : (wrap64 (turn.tmod L.length + L.length)).tmod L.length = k := by
      have h1 := Int.tmod_lt_of_pos turn (b := (L.length : Int)) (by omega)
      have h2 : -(L.length : Int) < turn.tmod L.length := Int.lt_tmod_of_pos turn (by omega)
      have h3 := HN.out.2
      rw [show wrap64 (turn.tmod L.length + L.length) = turn.tmod L.length + L.length from by unfold wrap64; go_num]
      exact hke
    clear hke
    go_wp2_with fail
    refine (CN.out _ HBw.out).mono ?_
    rintro e w3 ⟨p, rfl, h3, -⟩
    have H3 : Hid _ := h3
    clear h3 CN hwr HBw
    have C2 : Hid (1 = 1 → _) := fun _ => p2_new I H3.out
    go_wp2_with fail
    refine (C2.out (by trivial)).mono ?_
    rintro e w4 ⟨q, rfl, h4⟩
    have H4 : Hid (P2 BA w p [] q [] w4) := h4
    clear h4 C2 H3
    go_upto_block 2 with fail
    go_cut [] from 11 to 77 (fun wc => ∃ (K M : Bk), P2 BA w p K q M wc ∧ Has (fwd L L.length) K ∧ Has (bwd L k L.length) M)
    case first =>
      go_wp2_with fail
      go_loopw [53] (fun i wr => ∃ (m : Nat) (K M : Bk), m ≤ L.length ∧ i = .int .i64 m ∧ K.length ≤ m ∧ M.length ≤ m ∧ P2 BA w p K q M wr ∧ Has (fwd L m) K ∧ Has (bwd L k m) M) (fun i _ => L.length - (intOf i).toNat)
      case atStart => exact ⟨0, [], [], Nat.zero_le _, rfl, by simp, by simp, H4.out, has_nil, has_nil⟩
      case round =>
        obtain ⟨m, K, M, hm, rfl, hlK, hlM, hp2, hk1, hk2⟩ := hrel
        have HP : Hid (P2 BA w p K q M wr) := hp2
        have HKs : Hid (Has (fwd L m) K ∧ Has (bwd L k m) M) := ⟨hk1, hk2⟩
        have HLn : Hid (K.length ≤ m ∧ M.length ≤ m) := ⟨hlK, hlM⟩
        clear hp2 hk1 hk2 H4 hlK hlM
        by_cases hml : m < L.length
        · have hml' : (m : Int) < L.length := by omega
          have HN60 := HN.out.2
          obtain ⟨b, off, hao, e0, e1, e2, e3, e4, e5, e6, e7⟩ := HEl.out wr HP.out.bel m hml
          have C1 : Hid (1 = 1 → _) := fun _ => p2_set1 I (L.getD m dv) HP.out (by have := HLn.out.1; omega) (HRg.out m hml)
          have HK1 : Hid (Has (fwd L (m + 1)) (setB (L.getD m dv) K).1 ∧ (setB (L.getD m dv) K).1.length ≤ m + 1) := ⟨has_set HD.out (fwd_sub (by omega)) (getD_mem hml) HKs.out.1, by have := set_len (L.getD m dv) K; have := HLn.out.1; omega⟩
          have hix := turn_ix (k := k) hml
          have hjl : (L.length - 1 - m + k) % L.length < L.length := Nat.mod_lt _ (by omega)
          have HM1 : Hid (Has (bwd L k (m + 1)) (setB (L.getD ((L.length - 1 - m + k) % L.length) dv) M).1 ∧ (setB (L.getD ((L.length - 1 - m + k) % L.length) dv) M).1.length ≤ m + 1) := ⟨has_set HD.out (bwd_sub (by omega)) (getD_mem hjl) HKs.out.2, by have := set_len (L.getD ((L.length - 1 - m + k) % L.length) dv) M; have := HLn.out.2; omega⟩
          have HRj : Hid _ := HRg.out _ hjl
          have HEj : Hid (∀ W, Below w.heap.size w W → _) := fun W hW => HEl.out W hW _ hjl
          generalize hjj : (L.length - 1 - m + k) % L.length = j at *
          have hjl' : (j : Int) < L.length := by omega
          rw [hao] at *
          clear hao hjj
          generalize L.getD m dv = x at *
          generalize (setB x K).1 = K1 at *
          go_wp2_with fail
          refine (C1.out (by trivial)).mono ?_
          rintro e w5 ⟨r5, rfl, h5⟩
          have H5 : Hid (P2 BA w p K1 q M w5) := h5
          clear h5 C1 HP e0 e1 e2 e3 e4 e5 e6 e7
          obtain ⟨b', off', hao, e0, e1, e2, e3, e4, e5, e6, e7⟩ := HEj.out w5 H5.out.bel
          injection hao with hao
          injection hao with hb1 hb2
          subst hb1 hb2
          have C2 : Hid (1 = 1 → _) := fun _ => p2_set2 I (L.getD j dv) H5.out (by have := HLn.out.2; omega) HRj.out
          generalize L.getD j dv = y at *
          generalize (setB y M).1 = M1 at *
          clear HEj HRj
          go_wp2_with fail
          refine (C2.out (by trivial)).mono ?_
          rintro e w6 ⟨r6, rfl, h6⟩
          have H6 : Hid (P2 BA w p K1 q M1 w6) := h6
          clear h6 C2 H5 e0 e1 e2 e3 e4 e5 e6 e7
          go_wp2_with fail
          go_roundw
          case rel => exact ⟨m + 1, K1, M1, by omega, by go_num, HK1.out.2, HM1.out.2, H6.out, HK1.out.1, HM1.out.1⟩
          case measure => simp [intOf]; omega
        · have hml' : ¬ (m : Int) < L.length := by omega
          have hme : m = L.length := by omega
          subst hme
          go_wp2_with fail
          go_meet
          exact ⟨K, M, HP.out, HKs.out⟩
    case rest =>
      obtain ⟨K, M, hp2, hk1, hk2⟩ := hcut
      have hKM : K = M := ord_same hk (hp2.ok1 I) (hp2.swap.ok1 I) hk1 hk2
      subst hKM
      have C1 : Hid (1 = 1 → _) := fun _ => p2_all1 I hp2
      have HSr : Hid (SrtV K) := hp2.ok1 I
      clear hp2 hk1 hk2 H4 hk
      go_wp2_with fail
      refine (C1.out (by trivial)).mono ?_
      rintro e w5 ⟨v5, rfl, hv5, h5, -⟩
      obtain ⟨ax, cx, rfl, hlx, hcx⟩ := hv5.shape
      have H5 : Hid (P2 BA w p K q K w5 ∧ VsAt w5.heap.size (.slice ax K.length cx) K w5) := ⟨h5, hv5⟩
      have hK9 : K.length < 9223372036854775808 := by omega
      clear h5 hv5 C1 hlx hcx
      go_wp2_with fail
      go_loopw [82] (fun i wr => ∃ m : Nat, m ≤ K.length ∧ i = .int .i64 m ∧ Below w5.heap.size w5 wr) (fun i _ => K.length - (intOf i).toNat)
      case atStart => exact ⟨0, Nat.zero_le _, rfl, Below.refl _ _⟩
      case round =>
        obtain ⟨m, hm, rfl, hbr⟩ := hrel
        have HB5 : Hid (Below w5.heap.size w5 wr) := hbr
        clear hbr
        by_cases hml : m < K.length
        · have hml' : (m : Int) < K.length := by omega
          have HVr : Hid (VsAt w5.heap.size (.slice ax K.length cx) K wr) := RwAt.on H5.out.2 HB5.out
          by_cases hm0 : m = 0
          · subst hm0
            go_wp2_with fail
            go_quiet (fail)
            go_wp2_with fail
            go_roundw
            case rel => exact ⟨1, by omega, by go_num, below_drewN HB5.out _⟩
            case measure => simp [intOf]; omega
          · obtain ⟨m', rfl⟩ : ∃ m', m = m' + 1 := ⟨m - 1, by omega⟩
            obtain ⟨b, off, rfl, e0, e1, -⟩ := HVr.out.el hml
            obtain ⟨b', off', hao, f0, f1, -⟩ := HVr.out.el (i := m') (by omega)
            injection hao with hao
            injection hao with hb1 hb2
            subst hb1 hb2
            have hlt := srt_at HSr.out hml
            have hpos : (0 : Int) < ((m' + 1 : Nat) : Int) := by omega
            have hsub : ((m' + 1 : Nat) : Int) - 1 = (m' : Int) := by omega
            have hml2 : (m' : Int) < K.length := by omega
            generalize K.getD (m' + 1) dv = x at *
            generalize K.getD m' dv = y at *
            clear hm0
            rcases hlt with hlt | ⟨hlt, hlt2⟩
            · have h1d : decide (x.c < y.c) = false := by simpa using (by omega : y.c ≤ x.c)
              have h2d : (x.c == y.c) = false := by rw [beq_eq_false_iff_ne]; omega
              clear hlt
              go_wp2_with fail
              go_quiet (fail)
              go_wp2_with fail
              go_roundw
              case rel => exact ⟨m' + 1 + 1, by omega, by go_num, below_drewN HB5.out _⟩
              case measure => simp [intOf]; omega
            · have h1d : decide (x.c < y.c) = false := by simpa using (by omega : y.c ≤ x.c)
              have h2d : (x.c == y.c) = true := by rw [beq_iff_eq]; omega
              have h3d : decide (x.n ≤ y.n) = false := by simpa using hlt2
              clear hlt hlt2
              go_wp2_with fail
              go_quiet (fail)
              go_wp2_with fail
              go_roundw
              case rel => exact ⟨m' + 1 + 1, by omega, by go_num, below_drewN HB5.out _⟩
              case measure => simp [intOf]; omega
        · have hml' : ¬ (m : Int) < K.length := by omega
          have C2 : Hid (1 = 1 → _) := fun _ => p2_all2 I (H5.out.1.on I HB5.out)
          go_wp2_with fail
          refine (C2.out (by trivial)).mono ?_
          rintro e w6 ⟨v6, rfl, hv6, h6, hb6⟩
          have CS : Hid (1 = 1 → _) := fun _ => same17 _ _ K (.slice ax K.length cx) v6 w6 (RwAt.on (RwAt.on H5.out.2 HB5.out) (hb6.mono HB5.out.size)) hv6
          have H6 : Hid (Below w.heap.size w w6) := h6.bel
          clear hv6 h6 hb6 C2
          go_wp2_with fail
          refine (CS.out (by trivial)).mono ?_
          rintro e w7 ⟨rfl, hb7⟩
          have H7 : Hid (Below w.heap.size w w7) := H6.out.trans (hb7.mono H6.out.size)
          clear hb7 CS H6
          go_wp2_with fail
          go_ret
          exact ⟨rfl, H7.out⟩
end Go.Proofs.Ytkadaoebehgkbaa
