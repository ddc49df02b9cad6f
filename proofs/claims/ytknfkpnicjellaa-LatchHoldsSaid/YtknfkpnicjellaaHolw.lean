/-
  LatchHolds, walked.
-/
import Derived.Test.YtknfkpnicjellaaHol
namespace Go.Proofs.Ytknfkpnicjellaa
open Go.RowKit
variable {TA : Nat → Nat → (Nat → Prop) → Tb → World → Prop}

set_option maxHeartbeats 6400000 in
set_option maxRecDepth 100000 in
theorem holds4 (I : Ifl TA) (B : Nat) (L : List Wr) (vw : Value) (A : List Ac) (va : Value) (w : World) (hw : WsAt B vw L w) (hv : AcsAt B va A w) (hB : B ≤ w.heap.size) : Calls Try.prog 4 #[vw, va] w fun e w' => e = .returned (.bool true) ∧ Below w.heap.size w w' := by
  obtain ⟨wo, wp, rfl, hwl, hwm⟩ := hw.shape
  obtain ⟨ao, cap, rfl, hlc, hcm⟩ := hv.shape
  have CA : Hid (∀ W : World, 1 = 1 → Calls Try.prog 8 #[] W fun e w' => e = .returned (.bool true) ∧ Below W.heap.size W w') := fun W _ => awake8 I W
  have CN : Hid (∀ W, Below w.heap.size w W → _) := fun W hW => pz_new I (F := fun _ => False) hW (fun _ h => h.elim)
  have CR : Hid (∀ W, Below w.heap.size w W → Calls Try.prog 24 #[.slice wo L.length wp] W fun e w' => e = .returned (.bool (rightW L)) ∧ Below W.heap.size W w') := fun W hW => I.right B L _ W (hw.on (hW.mono hB)) (Nat.le_trans hB hW.size)
  have HWl : Hid (∀ W, Below w.heap.size w W → ∀ i, i < L.length → ∃ b off, wo = some ⟨b, off, none⟩ ∧ WrAt W b (off + i * 3) (L.getD i dw)) := fun W hW i hi => (hw.on (hW.mono hB)).el hi
  have HEl : Hid (∀ W, Below w.heap.size w W → ∀ i, i < A.length → ∃ b off, ao = some ⟨b, off, none⟩ ∧ AcAt W b (off + i * 12) (A.getD i da)) := fun W hW i hi => (hv.on (hW.mono hB)).el hi
  have HOk : Hid (∀ i, i < A.length → AcOk B (A.getD i da) w) := fun i hi => hv.2 _ (getD_memA hi)
  have HW : Hid (WsAt B (.slice wo L.length wp) L w) := hw
  have HB : Hid (B ≤ w.heap.size) := hB
  have hA9 : A.length < 9223372036854775808 := by omega
  have hL9 : L.length < 9223372036854775808 := by omega
  clear hw hv hB hlc hcm hwl hwm
  go_enter Try.func4, Try.ntmps4
  go_wp2_with fail
  refine (CA.out _ (by trivial)).mono ?_
  rintro e w1 ⟨rfl, hb⟩
  have H1 : Hid (Below w.heap.size w w1) := hb
  clear hb CA
  go_wp2_with fail
  refine (CN.out _ H1.out).mono ?_
  rintro e w2 ⟨p, rfl, h2, -⟩
  have H2 : Hid (Pz TA w p [] (fun k => k = w2.heap.size) (w2.alloc (.cells #[.int .u32 77, .int .u32 7] 32)) ∧ (w2.alloc (.cells #[.int .u32 77, .int .u32 7] 32)).heap[w2.heap.size]? = some (.cells #[.int .u32 77, .int .u32 7] 32 (0, 0)) ∧ w.heap.size ≤ w2.heap.size) := ⟨h2.more I (al _) (fun k hk => .inr ⟨by omega, by rw [hk]; simp⟩), heap_alloc_new w2 _, h2.bel.size⟩
  clear h2 CN H1
  go_wp2_with fail
  obtain ⟨W2, hW2⟩ : ∃ W2, w2.alloc (.cells #[.int .u32 77, .int .u32 7] 32) = W2 := ⟨_, rfl⟩
  rw [hW2] at H2 ⊢
  clear hW2
  obtain ⟨b6, hb6⟩ : ∃ b6, w2.heap.size = b6 := ⟨_, rfl⟩
  rw [hb6] at H2 ⊢
  clear hb6
  have CL : Hid (1 = 1 → Calls Try.prog 10 #[.pointer (some ⟨p, 0, none⟩), .agg #[.int .u32 77, .int .u32 7], .agg #[.int .u64 1, .int .u32 0], .agg #[.int .u64 2, .int .u32 0], .string ⟨#[111, 119, 110]⟩, .slice wo L.length wp] W2 fun e w' => e = .returned (.int .i64 (layF (rightB 1 0 && rightB 2 0 && kOk [111, 119, 110]) 77 7 1 0 2 0 [111, 119, 110] L []).2) ∧ Pz TA w p (layF (rightB 1 0 && rightB 2 0 && kOk [111, 119, 110]) 77 7 1 0 2 0 [111, 119, 110] L []).1 (fun k => k = b6) w' ∧ w'.heap[b6]? = some (.cells #[.int .u32 77, .int .u32 7] 32 (0, 0))) := fun _ => by
    obtain ⟨h1, h2⟩ := ws_old (F := fun k => k = b6) HW.out HB.out H2.out.1.bel
    refine (pz_lay I 77 7 1 0 2 0 [111, 119, 110] L _ H2.out.1 (by simp) h1 h2 (by decide)).mono ?_
    rintro e w' ⟨rfl, h3, h4⟩
    exact ⟨rfl, h3, h4.block (.inl rfl) H2.out.2.1⟩
  have HR0 : Hid (¬ (layF (rightB 1 0 && rightB 2 0 && kOk [111, 119, 110]) 77 7 1 0 2 0 [111, 119, 110] L []).2 = 0 → rightW L = false) := fun h => lay_first rfl h
  have HM0 : Hid ((layF (rightB 1 0 && rightB 2 0 && kOk [111, 119, 110]) 77 7 1 0 2 0 [111, 119, 110] L []).2 = 0 → Mine 77 7 1 0 [111, 119, 110] L 2 0 (layF (rightB 1 0 && rightB 2 0 && kOk [111, 119, 110]) 77 7 1 0 2 0 [111, 119, 110] L []).1) := fun h => mine_start List.Pairwise.nil h
  have HL0 : Hid ((layF (rightB 1 0 && rightB 2 0 && kOk [111, 119, 110]) 77 7 1 0 2 0 [111, 119, 110] L []).1.length ≤ 16) := by
    have := len_lay TOk.nil (rightB 1 0 && rightB 2 0 && kOk [111, 119, 110]) 77 7 1 0 2 0 [111, 119, 110] L
    show _ ≤ _
    simpa using this
  generalize layF (rightB 1 0 && rightB 2 0 && kOk [111, 119, 110]) 77 7 1 0 2 0 [111, 119, 110] L [] = Y at *
  obtain ⟨T0, er⟩ := Y
  dsimp only at CL HR0 HM0 HL0
  have x0 : W2.cell? ⟨b6, 0, none⟩ = some (.int .u32 77) := block_cell H2.out.2.1 rfl
  have x1 : W2.cell? ⟨b6, 1, none⟩ = some (.int .u32 7) := block_cell H2.out.2.1 rfl
  go_wp2_with fail
  refine (CL.out (by trivial)).mono ?_
  rintro e w3 ⟨rfl, h3, k3⟩
  have H3 : Hid (Pz TA w p T0 (fun k => k = b6) w3 ∧ w3.heap[b6]? = some (.cells #[.int .u32 77, .int .u32 7] 32 (0, 0)) ∧ w.heap.size ≤ b6) := ⟨h3, k3, H2.out.2.2⟩
  clear h3 k3 CL x0 x1 H2
  by_cases her : er = 0
  · have HM : Hid (Mine 77 7 1 0 [111, 119, 110] L 2 0 T0) := HM0.out her
    subst her
    clear HR0 HM0
    have HPh : Hid (Ph TA w p T0 b6 w3.heap.size 2 0 (w3.alloc (.cells #[.int .u64 2, .int .u32 0] 35))) := by
      have hl := (Array.getElem?_eq_some_iff.1 H3.out.2.1).1
      exact ⟨H3.out.1.more I (al _) (fun k hk => by rcases hk with e | e; exact .inl e; exact .inr ⟨by omega, by rw [e]; simp⟩), by rw [(al (W := w3) _).block b6 hl]; exact H3.out.2.1, heap_alloc_new w3 _, H3.out.2.2, H3.out.1.bel.size, by omega⟩
    clear H3
    go_upto_block 0 with fail
    obtain ⟨W3, hW3⟩ : ∃ W3, w3.alloc (.cells #[.int .u64 2, .int .u32 0] 35) = W3 := ⟨_, rfl⟩
    rw [hW3] at HPh ⊢
    clear hW3
    obtain ⟨b7, hb7⟩ : ∃ b7, w3.heap.size = b7 := ⟨_, rfl⟩
    rw [hb7] at HPh ⊢
    clear hb7
    go_cut [] from 8 to 155 (fun wc => ∃ (T : Tb) (mp ml l1 l2 : Int), T.length < 5000 ∧ Mine 77 7 1 0 [111, 119, 110] L mp ml T ∧ Ph TA w p T b6 b7 l1 l2 wc)
    case first =>
      go_wp2_with fail
      go_loopw [36] (fun i wr => ∃ (m : Nat) (T : Tb) (mp ml l1 l2 : Int), m ≤ A.length ∧ m ≤ 100 ∧ i = .int .i64 m ∧ T.length ≤ 16 * (m + 1) ∧ Mine 77 7 1 0 [111, 119, 110] L mp ml T ∧ ltT mp ml l1 l2 = false ∧ Ph TA w p T b6 b7 l1 l2 wr) (fun i _ => A.length - (intOf i).toNat)
      case atStart => exact ⟨0, T0, 2, 0, 2, 0, Nat.zero_le _, by omega, rfl, by have := HL0.out; omega, HM.out, ltT_irrefl _ _, HPh.out⟩
      case round =>
        obtain ⟨m, T, mp, ml, l1, l2, hm, hm6, rfl, hT, hmi, hlt, hph⟩ := hrel
        have HP : Hid (Ph TA w p T b6 b7 l1 l2 wr) := hph
        have HMi : Hid (Mine 77 7 1 0 [111, 119, 110] L mp ml T) := hmi
        have HLt : Hid (ltT mp ml l1 l2 = false) := hlt
        clear hph hmi hlt HPh HM HL0
        by_cases hml : m < A.length ∧ m ≠ 100
        · obtain ⟨hml, hm60⟩ := hml
          have hml' : (m : Int) < A.length := by omega
          have h60 : ((m : Int) == 100) = false := by simp; omega
          obtain ⟨b, off, rfl, e0, e1, e2, e3, e4, e5, e6, e7, e8, e9, e10, e11⟩ := HEl.out wr HP.out.pz.bel m hml
          have HAc : Hid _ := HOk.out m hml
          generalize A.getD m da = a at *
          have HT : Hid (T.length ≤ 16 * (m + 1) ∧ m < 100) := ⟨hT, by omega⟩
          clear hm60 hm6 hT
          have hTl : T.length < 2000 := by have := HT.out; omega
          have HPa : Hid (Ph TA w p T b6 b7 l1 l2 (wr.alloc (abx a)) ∧ (wr.alloc (abx a)).heap[wr.heap.size]? = some (abx a)) := ⟨HP.out.on I (al _), heap_alloc_new wr _⟩
          simp only [abx] at HPa
          go_upto_block 2 with fail
          obtain ⟨W4, hW4⟩ : ∃ W4, wr.alloc (.cells #[.int .i64 a.what, .int .u32 a.c, .int .u32 a.n, .int .u64 a.sp, .int .u32 a.sl, .int .u64 a.mp, .int .u32 a.ml, .string (bs a.prim), .slice a.wa a.ws.length a.wc, .string (bs a.lo), .string (bs a.hi), .slice a.ba a.but.length a.bc] 39) = W4 := ⟨_, rfl⟩
          rw [hW4] at HPa ⊢
          clear hW4
          obtain ⟨bx, hbx⟩ : ∃ bx, wr.heap.size = bx := ⟨_, rfl⟩
          rw [hbx] at HPa ⊢
          clear hbx e0 e1 e2 e3 e4 e5 e6 e7 e8 e9 e10 e11 HP
          go_cut [] from 43 to 81 (fun wc => ∃ (T' : Tb) (mp' ml' : Int), T'.length ≤ 16 * (m + 2) ∧ Mine 77 7 1 0 [111, 119, 110] L mp' ml' T' ∧ ltT mp' ml' l1 l2 = false ∧ Ph TA w p T' b6 b7 l1 l2 wc)
          case first =>
            obtain ⟨x0, x1, x2, x3, x4, x5, x6, x7, x8, -, -, -⟩ := ac_box (a := a) HPa.out.2
            simp only [Nat.zero_add] at x0 x1 x2 x3 x4 x5 x6 x7 x8
            obtain ⟨y0, y1, -, -, -, -⟩ := HPa.out.1.four
            by_cases hw2 : a.what = 2
            · have q2 : (a.what == 2) = true := by simp [hw2]
              have CX : Hid (1 = 1 → _) := fun _ => ph_raise I a.c a.n a.mp a.ml HPa.out.1 HAc.out.st
              have HM' : Hid (∃ m1 m2, Mine 77 7 1 0 [111, 119, 110] L m1 m2 (rseF a.c a.n a.mp a.ml T) ∧ ltT m1 m2 mp ml = false) := mine_rse HMi.out a.c a.n a.mp a.ml
              have HLn := rse_len a.c a.n a.mp a.ml T
              generalize rseF a.c a.n a.mp a.ml T = T1 at *
              clear hw2
              go_wp2_with fail
              refine (CX.out (by trivial)).mono ?_
              rintro e w5 ⟨z, rfl, h5⟩
              have H5 : Hid (Ph TA w p T1 b6 b7 l1 l2 w5) := h5
              clear h5 CX
              go_wp2_with fail
              go_meet
              obtain ⟨m1, m2, hm1, hm2⟩ := HM'.out
              exact ⟨T1, m1, m2, by have := HT.out; omega, hm1, ltT_trans hm2 HLt.out, H5.out⟩
            · have q2 : (a.what == 2) = false := by simpa using hw2
              have hq := run_eql32 a.c a.n 77 7
              have HSame : Hid (∀ W, Ph TA w p T b6 b7 l1 l2 W → ∃ (T' : Tb) (mp' ml' : Int), T'.length ≤ 16 * (m + 2) ∧ Mine 77 7 1 0 [111, 119, 110] L mp' ml' T' ∧ ltT mp' ml' l1 l2 = false ∧ Ph TA w p T' b6 b7 l1 l2 W) := fun W h => ⟨T, mp, ml, by have := HT.out; omega, HMi.out, HLt.out, h⟩
              obtain ⟨zb, hzb⟩ : ∃ zb, (a.c == 77 && a.n == 7) = zb := ⟨_, rfl⟩
              have HZb : Hid ((a.c == 77 && a.n == 7) = zb) := hzb
              rw [hzb] at hq
              clear hzb hw2
              cases zb
              · have HNe : Hid (¬ (a.c = 77 ∧ a.n = 7)) := fun h => by
                  have := HZb.out
                  rw [h.1, h.2] at this
                  cases this
                by_cases hw0 : a.what = 0
                · have q0 : (a.what == 0) = true := by simp [hw0]
                  have CX : Hid (1 = 1 → _) := fun _ => ph_lay I a.c a.n a.sp a.sl a.mp a.ml a.prim HPa.out.1 (by omega) HAc.out.ws HB.out HAc.out.st
                  have HM' : Hid (Mine 77 7 1 0 [111, 119, 110] L mp ml (layF (rightB a.sp a.sl && rightB a.mp a.ml && kOk a.prim) a.c a.n a.sp a.sl a.mp a.ml a.prim a.ws T).1) := mine_lay HMi.out HNe.out
                  have HLn : Hid ((layF (rightB a.sp a.sl && rightB a.mp a.ml && kOk a.prim) a.c a.n a.sp a.sl a.mp a.ml a.prim a.ws T).1.length ≤ T.length + 16) := len_lay (Pz.ok I HPa.out.1.pz) (rightB a.sp a.sl && rightB a.mp a.ml && kOk a.prim) a.c a.n a.sp a.sl a.mp a.ml a.prim a.ws
                  generalize layF (rightB a.sp a.sl && rightB a.mp a.ml && kOk a.prim) a.c a.n a.sp a.sl a.mp a.ml a.prim a.ws T = Y at *
                  clear hw0
                  go_wp2_with fail
                  refine (CX.out (by trivial)).mono ?_
                  rintro e w5 ⟨rfl, h5⟩
                  have H5 : Hid (Ph TA w p Y.1 b6 b7 l1 l2 w5) := h5
                  clear h5 CX
                  go_wp2_with fail
                  go_meet
                  exact ⟨Y.1, mp, ml, by have := HT.out; have := HLn.out; omega, HM'.out, HLt.out, H5.out⟩
                · have q0 : (a.what == 0) = false := by simpa using hw0
                  by_cases hw1 : a.what = 1
                  · have q1 : (a.what == 1) = true := by simp [hw1]
                    have CX : Hid (1 = 1 → _) := fun _ => ph_cut I a.c a.n HPa.out.1
                    have HM' : Hid (Mine 77 7 1 0 [111, 119, 110] L mp ml (restF a.c a.n T)) := mine_cut HMi.out HNe.out
                    have HLn := len_rest a.c a.n T
                    generalize restF a.c a.n T = T1 at *
                    clear hw0 hw1
                    go_wp2_with fail
                    refine (CX.out (by trivial)).mono ?_
                    rintro e w5 ⟨ya, yc, rfl, h5⟩
                    have H5 : Hid (Ph TA w p T1 b6 b7 l1 l2 w5) := h5
                    clear h5 CX
                    go_wp2_with fail
                    go_meet
                    exact ⟨T1, mp, ml, by have := HT.out; omega, HM'.out, HLt.out, H5.out⟩
                  · have q1 : (a.what == 1) = false := by simpa using hw1
                    clear hw0 hw1
                    go_wp2_with fail
                    go_meet
                    exact HSame.out _ HPa.out.1
              · go_wp2_with fail
                go_meet
                exact HSame.out _ HPa.out.1
          case rest =>
            obtain ⟨T1, mp1, ml1, hT1, hmi1, hlt1, hph1⟩ := hcut
            have HP1 : Hid (Ph TA w p T1 b6 b7 l1 l2 wc) := hph1
            have HMi1 : Hid (Mine 77 7 1 0 [111, 119, 110] L mp1 ml1 T1) := hmi1
            have HLt1 : Hid (ltT mp1 ml1 l1 l2 = false) := hlt1
            have HT1 : Hid (T1.length ≤ 16 * (m + 2)) := hT1
            clear hT1 hmi1 hlt1 hph1 HPa HMi HLt
            go_wp2_with fail
            go_loopw [84] (fun i wq => ∃ (j : Nat) (k1 k2 : Int), j ≤ L.length ∧ i = .int .i64 j ∧ ltT mp1 ml1 k1 k2 = false ∧ Ph TA w p T1 b6 b7 k1 k2 wq) (fun i _ => L.length - (intOf i).toNat)
            case atStart => exact ⟨0, l1, l2, Nat.zero_le _, rfl, HLt1.out, HP1.out⟩
            case round =>
              obtain ⟨j, k1, k2, hj, rfl, hlt2, hph2⟩ := hrel
              have HP2 : Hid (Ph TA w p T1 b6 b7 k1 k2 wr) := hph2
              have HLt2 : Hid (ltT mp1 ml1 k1 k2 = false) := hlt2
              clear hlt2 hph2 HP1 HLt1
              by_cases hjl : j < L.length
              · have hjl' : (j : Int) < L.length := by omega
                obtain ⟨n1, hn1⟩ : ∃ n1, L.length = n1 + 1 := ⟨L.length - 1, by omega⟩
                have hwr : IntKind.i64.wrap ((L.length : Int) - 1) = (n1 : Int) := by simp [IntKind.wrap, IntKind.bits, IntKind.signed]; omega
                have hn1l : (n1 : Int) < L.length := by omega
                have HEn : Hid (∀ W, Below w.heap.size w W → ∃ b off, wo = some ⟨b, off, none⟩ ∧ WrAt W b (off + n1 * 3) (L.getD n1 dw)) := fun W hW => HWl.out W hW n1 (by omega)
                obtain ⟨b, off, rfl, e0, e1, e2⟩ := HWl.out wr HP2.out.pz.bel j hjl
                have HGet := HMi1.out.has _ (getD_memW hjl)
                clear hn1
                have CW : Hid (∀ W, Ph TA w p T1 b6 b7 k1 k2 W → Calls Try.prog 19 #[.pointer (some ⟨p, 0, none⟩), .string (bs (L.getD j dw).key)] W fun e w' => e = .returned (.tuple #[.agg #[.int .u32 77, .int .u32 7, .int .u64 1, .int .u32 0, .int .u64 mp1, .int .u32 ml1, .string ⟨#[111, 119, 110]⟩, .string (bs (L.getD j dw).key), .string (bs (L.getD j dw).val), .bool (L.getD j dw).dead], .bool true]) ∧ Ph TA w p T1 b6 b7 k1 k2 w' ∧ Below W.heap.size W w') := fun W h => by
                  have := ph_of I (L.getD j dw).key h
                  rw [HGet] at this
                  exact this
                clear HGet
                generalize L.getD j dw = x at *
                generalize L.getD n1 dw = x' at *
                obtain ⟨xk, xv, xd⟩ := x
                obtain ⟨nk, nv, nd⟩ := x'
                dsimp only at e0 e1 e2 CW
                have HP3 : Hid (Ph TA w p T1 b6 b7 k1 k2 (wr.alloc (.cells #[.string (bs xk), .string (bs xv), .bool xd] 44)) ∧ (wr.alloc (.cells #[.string (bs xk), .string (bs xv), .bool xd] 44)).heap[wr.heap.size]? = some (.cells #[.string (bs xk), .string (bs xv), .bool xd] 44 (0, 0))) := ⟨HP2.out.on I (al _), heap_alloc_new wr _⟩
                go_wp2_with fail
                obtain ⟨W5, hW5⟩ : ∃ W5, wr.alloc (.cells #[.string (bs xk), .string (bs xv), .bool xd] 44) = W5 := ⟨_, rfl⟩
                rw [hW5] at HP3 ⊢
                clear hW5
                obtain ⟨b11, hb11⟩ : ∃ b11, wr.heap.size = b11 := ⟨_, rfl⟩
                rw [hb11] at HP3 ⊢
                clear hb11 e0 e1 e2 HP2
                refine (CW.out _ HP3.out.1).mono ?_
                rintro e w7 ⟨rfl, h7, hb7'⟩
                have H7 : Hid (Ph TA w p T1 b6 b7 k1 k2 (w7.alloc (.cells #[.int .u32 77, .int .u32 7, .int .u64 1, .int .u32 0, .int .u64 mp1, .int .u32 ml1, .string ⟨#[111, 119, 110]⟩, .string (bs xk), .string (bs xv), .bool xd] 49)) ∧ (w7.alloc (.cells #[.int .u32 77, .int .u32 7, .int .u64 1, .int .u32 0, .int .u64 mp1, .int .u32 ml1, .string ⟨#[111, 119, 110]⟩, .string (bs xk), .string (bs xv), .bool xd] 49)).heap[b11]? = some (.cells #[.string (bs xk), .string (bs xv), .bool xd] 44 (0, 0)) ∧ (w7.alloc (.cells #[.int .u32 77, .int .u32 7, .int .u64 1, .int .u32 0, .int .u64 mp1, .int .u32 ml1, .string ⟨#[111, 119, 110]⟩, .string (bs xk), .string (bs xv), .bool xd] 49)).heap[w7.heap.size]? = some (.cells #[.int .u32 77, .int .u32 7, .int .u64 1, .int .u32 0, .int .u64 mp1, .int .u32 ml1, .string ⟨#[111, 119, 110]⟩, .string (bs xk), .string (bs xv), .bool xd] 49 (0, 0))) := by
                  have h8 : w7.heap[b11]? = some (.cells #[.string (bs xk), .string (bs xv), .bool xd] 44 (0, 0)) := by rw [hb7'.block b11 (Array.getElem?_eq_some_iff.1 HP3.out.2).1]; exact HP3.out.2
                  exact ⟨h7.on I (al _), by rw [(al (W := w7) _).block b11 (Array.getElem?_eq_some_iff.1 h8).1]; exact h8, heap_alloc_new w7 _⟩
                clear h7 hb7' CW HP3
                have hq1 : ∀ w, (binOp .neq 32 (.agg #[.int .u32 77, .int .u32 7]) (.agg #[.int .u32 77, .int .u32 7])).run Try.prog w = .ok (.bool false) w := fun w => run_neq32 77 7 77 7 w
                have hq2 := run_neq44 xk xv xd
                have hq3 := run_neq35 1 0
                obtain ⟨z, hq4⟩ := run_eql44 xk xv nk nv xd nd
                have hk1 : ¬ mp1 < k1 := by have := HLt2.out; simp [ltT] at this; omega
                have hk2 : mp1 = k1 → ¬ ml1 < k2 := by have := HLt2.out; simp [ltT] at this; omega
                have harm : ((mp1 == k1) = true ∧ ¬ ml1 < k2) ∨ (mp1 == k1) = false := by
                  by_cases e : mp1 = k1
                  · exact .inl ⟨by simpa using e, hk2 e⟩
                  · exact .inr (by simpa using e)
                clear hk2
                obtain ⟨W7, hW7⟩ : ∃ W7, w7.alloc (.cells #[.int .u32 77, .int .u32 7, .int .u64 1, .int .u32 0, .int .u64 mp1, .int .u32 ml1, .string ⟨#[111, 119, 110]⟩, .string (bs xk), .string (bs xv), .bool xd] 49) = W7 := ⟨_, rfl⟩
                rw [hW7] at H7
                obtain ⟨b12, hb12⟩ : ∃ b12, w7.heap.size = b12 := ⟨_, rfl⟩
                rw [hb12] at H7
                go_upto_region 23 with fail
                try rw [hW7]
                try rw [hb12]
                clear hW7 hb12
                obtain ⟨y0, y1, y2, y3, f0, f1⟩ := H7.out.1.four
                have c0 : W7.cell? ⟨b12, 0, none⟩ = some (.int .u32 77) := block_cell H7.out.2.2 rfl
                have c1 : W7.cell? ⟨b12, 1, none⟩ = some (.int .u32 7) := block_cell H7.out.2.2 rfl
                have c2 : W7.cell? ⟨b12, 2, none⟩ = some (.int .u64 1) := block_cell H7.out.2.2 rfl
                have c3 : W7.cell? ⟨b12, 3, none⟩ = some (.int .u32 0) := block_cell H7.out.2.2 rfl
                have c4 : W7.cell? ⟨b12, 4, none⟩ = some (.int .u64 mp1) := block_cell H7.out.2.2 rfl
                have c5 : W7.cell? ⟨b12, 5, none⟩ = some (.int .u32 ml1) := block_cell H7.out.2.2 rfl
                have c6 : W7.cell? ⟨b12, 6, none⟩ = some (.string ⟨#[111, 119, 110]⟩) := block_cell H7.out.2.2 rfl
                have c7 : W7.cell? ⟨b12, 7, none⟩ = some (.string (bs xk)) := block_cell H7.out.2.2 rfl
                have c8 : W7.cell? ⟨b12, 8, none⟩ = some (.string (bs xv)) := block_cell H7.out.2.2 rfl
                have c9 : W7.cell? ⟨b12, 9, none⟩ = some (.bool xd) := block_cell H7.out.2.2 rfl
                have d0 : W7.cell? ⟨b11, 0, none⟩ = some (.string (bs xk)) := block_cell H7.out.2.1 rfl
                have d1 : W7.cell? ⟨b11, 1, none⟩ = some (.string (bs xv)) := block_cell H7.out.2.1 rfl
                have d2 : W7.cell? ⟨b11, 2, none⟩ = some (.bool xd) := block_cell H7.out.2.1 rfl
                obtain ⟨b', off', e', g0, g1, g2⟩ := HEn.out W7 H7.out.1.pz.bel
                simp only [Option.some.injEq, Addr.mk.injEq] at e'
                obtain ⟨rfl, rfl, _⟩ := e'
                dsimp only at g0 g1 g2
                have HK : Hid (W7.cell? ⟨b11, 0, none⟩ = some (.string (bs xk)) ∧ W7.cell? ⟨b11, 1, none⟩ = some (.string (bs xv)) ∧ W7.cell? ⟨b11, 2, none⟩ = some (.bool xd) ∧ W7.cell? ⟨b, off + n1 * 3, none⟩ = some (.string (bs nk)) ∧ W7.cell? ⟨b, off + n1 * 3 + 1, none⟩ = some (.string (bs nv)) ∧ W7.cell? ⟨b, off + n1 * 3 + 2, none⟩ = some (.bool nd)) := ⟨d0, d1, d2, g0, g1, g2⟩
                have HPd : Hid (Ph TA w p T1 b6 b7 k1 k2 W7.drew) := H7.out.1.on I (Below.refl _ _).drew
                have HPp : Hid _ := HPd.out.put I mp1 ml1
                go_cut [143] from 95 to 143 (fun s143 wc => s143 = .bool false ∧ wc = W7)
                case first =>
                  rcases harm with ⟨h1, h2⟩ | h1
                  · go_wp2_with fail
                    go_meet
                    exact ⟨by simp [hk1, h2], rfl⟩
                  · go_wp2_with fail
                    go_meet
                    exact ⟨by simp [hk1], rfl⟩
                case rest =>
                  obtain ⟨rfl, rfl⟩ := hcut
                  clear harm hk1 hq1 hq2 hq3 c0 c1 c2 c3 c6 c7 c8 c9 y0 y1
                  go_wp2_with fail
                  go_region_held3 (fun W => W.cell? ⟨b11, 0, none⟩ = some (.string (bs xk)) ∧ W.cell? ⟨b11, 1, none⟩ = some (.string (bs xv)) ∧ W.cell? ⟨b11, 2, none⟩ = some (.bool xd) ∧ W.cell? ⟨b, off + n1 * 3, none⟩ = some (.string (bs nk)) ∧ W.cell? ⟨b, off + n1 * 3 + 1, none⟩ = some (.string (bs nv)) ∧ W.cell? ⟨b, off + n1 * 3 + 2, none⟩ = some (.bool nd))
                    (exact HK.out) (fail)
                  rename_i hHeld
                  clear hHeld d0 d1 d2 g0 g1 g2 HK hq4
                  cases z
                  · go_wp2_with fail
                    go_roundw
                    case rel => exact ⟨j + 1, k1, k2, by omega, by go_num, HLt2.out, HPd.out⟩
                    case measure => simp [intOf]; omega
                  · go_wp2_with fail
                    go_roundw
                    case rel => exact ⟨j + 1, mp1, ml1, by omega, by go_num, ltT_irrefl _ _, HPp.out⟩
                    case measure => simp [intOf]; omega
              · have hjl' : ¬ (j : Int) < L.length := by omega
                go_wp2_with fail
                go_roundw
                case rel => exact ⟨m + 1, T1, mp1, ml1, k1, k2, by omega, by have := HT.out; omega, by go_num, by have := HT1.out; omega, HMi1.out, HLt2.out, HP2.out⟩
                case measure => simp [intOf]; omega
        · have HT : Hid (T.length < 5000) := by show _ < _; omega
          by_cases hlt : m < A.length
          · have hlt' : (m : Int) < A.length := by omega
            have h60 : ((m : Int) == 100) = true := by simp; omega
            obtain ⟨b, off, rfl, e0, e1, e2, e3, e4, e5, e6, e7, e8, e9, e10, e11⟩ := HEl.out wr HP.out.pz.bel m hlt
            generalize A.getD m da = a at *
            have HPa : Hid (Ph TA w p T b6 b7 l1 l2 (wr.alloc (abx a))) := HP.out.on I (al _)
            simp only [abx] at HPa
            clear hml hm6 hT
            go_wp2_with fail
            go_meet
            exact ⟨T, mp, ml, l1, l2, HT.out, HMi.out, HPa.out⟩
          · have hlt' : ¬ (m : Int) < A.length := by omega
            clear hml hm6 hT
            go_wp2_with fail
            go_meet
            exact ⟨T, mp, ml, l1, l2, HT.out, HMi.out, HP.out⟩
    case rest =>
      obtain ⟨T, mp, ml, l1, l2, hTl, hmi, hph⟩ := hcut
      have HP : Hid (Ph TA w p T b6 b7 l1 l2 wc) := hph
      have HMi : Hid (Mine 77 7 1 0 [111, 119, 110] L mp ml T) := hmi
      clear hph hmi HPh HM HL0 HEl HOk
      have CX : Hid (1 = 1 → Calls Try.prog 13 #[.pointer (some ⟨p, 0, none⟩), .agg #[.int .u32 77, .int .u32 7]] wc fun e w' => ∃ ya yc, e = .returned (.slice ya L.length yc) ∧ Ph TA w p (restF 77 7 T) b6 b7 l1 l2 w') := fun _ => by
        have := ph_cut I 77 7 HP.out
        rw [HMi.out.cnt] at this
        exact this
      have CY : Hid (∀ W, Ph TA w p (restF 77 7 T) b6 b7 l1 l2 W → Calls Try.prog 21 #[.pointer (some ⟨p, 0, none⟩), .agg #[.int .u32 77, .int .u32 7]] W fun e w' => ∃ ya yc, e = .returned (.slice ya 0 yc) ∧ Ph TA w p (restF 77 7 T) b6 b7 l1 l2 w') := fun W h => by
        have := ph_by I 77 7 h
        rw [by_after] at this
        exact this
      have CZ : Hid (∀ j W, j < L.length → Ph TA w p (restF 77 7 T) b6 b7 l1 l2 W → Calls Try.prog 19 #[.pointer (some ⟨p, 0, none⟩), .string (bs (L.getD j dw).key)] W fun e w' => e = .returned (.tuple #[.agg #[.int .u32 0, .int .u32 0, .int .u64 0, .int .u32 0, .int .u64 0, .int .u32 0, .string ⟨#[]⟩, .string ⟨#[]⟩, .string ⟨#[]⟩, .bool false], .bool false]) ∧ Ph TA w p (restF 77 7 T) b6 b7 l1 l2 w') := fun j W hj h => by
        have := ph_of I (L.getD j dw).key h
        rw [mine_end HMi.out _ (getD_memW hj)] at this
        refine this.mono ?_
        rintro e w' ⟨rfl, h1, _⟩
        exact ⟨rfl, h1⟩
      generalize restF 77 7 T = T1 at *
      obtain ⟨y0, y1, -, -, -, -⟩ := HP.out.four
      go_wp2_with fail
      refine (CX.out (by trivial)).mono ?_
      rintro e w5 ⟨ya, yc, rfl, h5⟩
      have H5 : Hid (Ph TA w p T1 b6 b7 l1 l2 w5) := h5
      clear h5 CX y0 y1 HP
      obtain ⟨y0, y1, -, -, -, -⟩ := H5.out.four
      go_wp2_with fail
      refine (CY.out _ H5.out).mono ?_
      rintro e w6 ⟨za, zc, rfl, h6⟩
      have H6 : Hid (Ph TA w p T1 b6 b7 l1 l2 w6) := h6
      clear h6 CY y0 y1 H5
      go_wp2_with fail
      go_loopw [173] (fun i wq => ∃ j : Nat, j ≤ L.length ∧ i = .int .i64 j ∧ Ph TA w p T1 b6 b7 l1 l2 wq) (fun i _ => L.length - (intOf i).toNat)
      case atStart => exact ⟨0, Nat.zero_le _, rfl, H6.out⟩
      case round =>
        obtain ⟨j, hj, rfl, hph⟩ := hrel
        have HP : Hid (Ph TA w p T1 b6 b7 l1 l2 wr) := hph
        clear hph H6
        by_cases hjl : j < L.length
        · have hjl' : (j : Int) < L.length := by omega
          obtain ⟨b, off, rfl, e0, e1, e2⟩ := HWl.out wr HP.out.pz.bel j hjl
          have CW : Hid (∀ W, _) := fun W => CZ.out j W hjl
          generalize L.getD j dw = x at *
          obtain ⟨xk, xv, xd⟩ := x
          dsimp only at e0 e1 e2 CW
          have HP2 : Hid (Ph TA w p T1 b6 b7 l1 l2 (wr.alloc (.cells #[.string (bs xk), .string (bs xv), .bool xd] 44))) := HP.out.on I (al _)
          go_wp2_with fail
          refine (CW.out _ HP2.out).mono ?_
          rintro e w7 ⟨rfl, h7⟩
          have H7 : Hid (Ph TA w p T1 b6 b7 l1 l2 w7) := h7
          clear h7 CW
          go_wp2_with fail
          go_roundw
          case rel => exact ⟨j + 1, by omega, by go_num, H7.out.on I (al _)⟩
          case measure => simp [intOf]; omega
        · have hjl' : ¬ (j : Int) < L.length := by omega
          go_wp2_with fail
          go_ret
          exact ⟨rfl, HP.out.pz.bel⟩
  · have hR := HR0.out her
    have he : (er != 0) = true := by simpa using her
    rw [hR] at CR
    clear her HR0 HM0
    go_wp2_with fail
    refine (CR.out _ H3.out.1.bel).mono ?_
    rintro e w4 ⟨rfl, hb4⟩
    have H4 : Hid (Below w.heap.size w w4) := H3.out.1.bel.trans (hb4.mono H3.out.1.bel.size)
    clear hb4
    go_wp2_with fail
    go_ret
    exact ⟨rfl, H4.out⟩
end Go.Proofs.Ytknfkpnicjellaa
