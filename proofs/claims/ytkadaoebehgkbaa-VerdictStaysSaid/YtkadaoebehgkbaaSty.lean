/-
  VerdictStays, walked.
-/
import Derived.Test.YtkadaoebehgkbaaSyp
namespace Go.Proofs.Ytkadaoebehgkbaa
open Go.RowKit
variable {BA : Nat → Nat → (Nat → Prop) → Bk → World → Prop}

theorem ofV_is (o : Option Vd) : ofV o = .tuple #[vdV (o.getD dv), .bool o.isSome] := by
  cases o <;> rfl
theorem own_one (w : World) (x : Int × Int) : (w.alloc (.cells #[.int .u32 x.1, .int .u32 x.2] 32)).ownsRow w.heap.size 32 2 (.slice (some ⟨w.heap.size, 0, none⟩) 1 1) 1 (rowC txc [x]) :=
  ⟨rfl, .inr ⟨w.heap.size, 1, #[.int .u32 x.1, .int .u32 x.2], rfl, Nat.le_refl _, heap_alloc_new w _, Nat.le_refl _, by decide, rfl, rfl⟩⟩
theorem Sx.five {w W : World} {p bv bx : Nat} {K : Bk} {v : Vd} {a : Ac} (h : Sx BA w p K bv v bx a W) : W.cell? ⟨bv, 0, none⟩ = some (.int .u32 v.c) ∧ W.cell? ⟨bv, 1, none⟩ = some (.int .u32 v.n) ∧ W.cell? ⟨bx, 9, none⟩ = some (.int .u64 a.sp) ∧ W.cell? ⟨bx, 10, none⟩ = some (.int .u32 a.sl) ∧ W.cell? ⟨bx, 11, none⟩ = some (.slice a.ka a.keep.length a.kc) := ⟨block_cell h.b0 rfl, block_cell h.b0 rfl, block_cell h.b1 rfl, block_cell h.b1 rfl, block_cell h.b1 rfl⟩
theorem rg_cons {v : Vd} {a : Ac} {B : Nat} {w : World} (hv : RgV v) (ha : AcOk B a w) : RgT ((v.c, v.n) :: a.keep) := fun x hx => by
  rcases List.mem_cons.1 hx with rfl | hx
  · exact ⟨hv.c, hv.n⟩
  · exact ha.rk x hx

set_option maxHeartbeats 6400000 in
set_option maxRecDepth 100000 in
theorem stays4 (I : Ifv BA) (B : Nat) (v : Vd) (A : List Ac) (va : Value) (w : World) (hr : RgV v) (hv : AcsAt B va A w) (hB : B ≤ w.heap.size) : Calls Try.prog 4 #[.agg #[.int .u32 v.c, .int .u32 v.n, .int .u64 v.sp, .int .u32 v.sl, .int .u64 v.ap, .int .u32 v.al, .int .u8 v.pt, .bool v.dn], va] w fun e w' => e = .returned (.bool true) ∧ Below w.heap.size w w' := by
  obtain ⟨i0, hin, hi0, hi1, hi2⟩ := info_parts info32
  obtain ⟨vc, vn, sp, sq, ap, aq, pt, dn⟩ := v
  obtain ⟨ao, cap, rfl, hlc, hcm⟩ := hv.shape
  have HRg : Hid (RgV (Vd.mk vc vn sp sq ap aq pt false)) := ⟨hr.c, hr.n, hr.sp, hr.sl, hr.ap, hr.al, hr.pt⟩
  have CA : Hid (∀ W : World, 1 = 1 → Calls Try.prog 7 #[] W fun e w' => e = .returned (.bool true) ∧ Below W.heap.size W w') := fun W _ => awake7 I W
  have CN : Hid (∀ W, Below w.heap.size w W → (∀ k, k = w.heap.size → k < W.heap.size) → _) := fun W hW hk => pz_new I (F := fun k => k = w.heap.size) hW hk
  have HEl : Hid (∀ W, Below w.heap.size w W → ∀ i, i < A.length → ∃ b off, ao = some ⟨b, off, none⟩ ∧ AcAt W b (off + i * 12) (A.getD i da)) := fun W hW i hi => (hv.on (hW.mono hB)).el hi
  have HOk : Hid (∀ i, i < A.length → AcOk B (A.getD i da) w) := fun i hi => hv.2 _ (getD_memA hi)
  have HB : Hid (B ≤ w.heap.size) := hB
  have hA9 : A.length < 9223372036854775808 := by omega
  clear hv hB hlc hcm hr
  dsimp only
  go_enter Try.func4, Try.ntmps4
  go_wp2_with fail
  obtain ⟨W0, hW0⟩ : ∃ W0, w.alloc (.cells #[.int .u32 vc, .int .u32 vn, .int .u64 sp, .int .u32 sq, .int .u64 ap, .int .u32 aq, .int .u8 pt, .bool dn] 37) = W0 := ⟨_, rfl⟩
  have H0 : Hid (Below w.heap.size w W0 ∧ W0.heap[w.heap.size]? = some (vbx (Vd.mk vc vn sp sq ap aq pt dn))) := by
    rw [← hW0]
    exact ⟨al _, heap_alloc_new w _⟩
  rw [hW0]
  clear hW0
  refine (CA.out _ (by trivial)).mono ?_
  rintro e w1 ⟨rfl, hb⟩
  have H1 : Hid (Below w.heap.size w w1 ∧ w1.heap[w.heap.size]? = some (vbx (Vd.mk vc vn sp sq ap aq pt dn))) := ⟨H0.out.1.trans (hb.mono H0.out.1.size), heap_on hb H0.out.2⟩
  clear hb CA H0
  go_wp2_with fail
  refine (CN.out _ H1.out.1 (fun k hk => by rw [hk]; exact (Array.getElem?_eq_some_iff.1 H1.out.2).1)).mono ?_
  rintro e w2 ⟨p, rfl, h2, hb⟩
  have H2 : Hid (Sv BA w p [] w.heap.size (Vd.mk vc vn sp sq ap aq pt dn) w2) := ⟨h2, heap_on hb H1.out.2⟩
  have HS : Hid (Sv BA w p [] w.heap.size (Vd.mk vc vn sp sq ap aq pt false) (w2.setCell ⟨w.heap.size, 7, none⟩ (.bool false))) := ⟨H2.out.pz.own I (set_kept' _ _ _ _) (fun k hk => Nat.le_of_eq hk.symm), block_set _ H2.out.b0⟩
  clear h2 hb CN H1
  obtain ⟨bv, hbv⟩ : ∃ bv, w.heap.size = bv := ⟨_, rfl⟩
  rw [hbv] at H2 HS ⊢
  clear hbv
  have f7 : w2.frozen? ⟨bv, 7, none⟩ = false := block_frozen H2.out.b0 7
  have g7 : w2.cell? ⟨bv, 7, none⟩ = some (.bool dn) := block_cell H2.out.b0 rfl
  have CS : Hid (∀ W, Sv BA w p [] bv (Vd.mk vc vn sp sq ap aq pt false) W → Calls Try.prog 9 #[.pointer (some ⟨p, 0, none⟩), .agg #[.int .u32 vc, .int .u32 vn, .int .u64 sp, .int .u32 sq, .int .u64 ap, .int .u32 aq, .int .u8 pt, .bool false]] W fun e w' => e = .returned (.int .i64 (setB (Vd.mk vc vn sp sq ap aq pt false) []).2) ∧ Sv BA w p (setB (Vd.mk vc vn sp sq ap aq pt false) []).1 bv (Vd.mk vc vn sp sq ap aq pt false) w') := fun W h => by
    refine (pz_set I (Vd.mk vc vn sp sq ap aq pt false) h.pz (by simp) HRg.out).mono ?_
    rintro e w' ⟨rfl, h3, h4⟩
    exact ⟨rfl, h3, h4.block (.inl rfl) h.b0⟩
  go_upto_region 5 with fail
  generalize w2.setCell ⟨bv, 7, none⟩ (.bool false) = W3 at *
  clear f7 g7 H2
  obtain ⟨j0, j1, j2, j3, j4, j5, j6, j7⟩ := HS.out.all
  dsimp only at j0 j1 j2 j3 j4 j5 j6 j7
  go_wp2_with fail
  refine (CS.out _ HS.out).mono ?_
  rintro e w4 ⟨rfl, h4⟩
  have H4 : Hid _ := h4
  clear h4 CS j0 j1 j2 j3 j4 j5 j6 j7 HS
  cases hok : okV (Vd.mk vc vn sp sq ap aq pt false)
  · rw [set_bad hok] at H4 ⊢
    have CL : Hid (1 = 1 → _) := fun _ => pz_all I H4.out.pz
    clear hok
    dsimp only
    go_wp2_with fail
    refine (CL.out (by trivial)).mono ?_
    rintro e w5 ⟨v5, rfl, hi5, -, h5, -⟩
    obtain ⟨a5, c5, rfl, -, -⟩ := hi5.shape
    have H5 : Hid (Below w.heap.size w w5) := h5.bel
    clear hi5 h5 CL H4
    go_wp2_with fail
    go_ret
    exact ⟨rfl, H5.out⟩
  · rw [set_one hok] at H4 ⊢
    have HR : Hid (rightB sp sq = true) := by
      show _ = _
      unfold okV at hok
      simp only [Bool.and_eq_true] at hok
      exact hok.1.1
    have HG0 : Hid (getB vc vn [(Vd.mk vc vn sp sq ap aq pt false)] = some (Vd.mk vc vn sp sq ap aq pt false)) := by
      show _ = _
      simp [getB, ofN]
    clear hok
    dsimp only at H4 ⊢
    go_upto_block 0 with fail
    go_cut [6] from 6 to 108 (fun s6 wc => ∃ (K : Bk) (d : Bool), s6 = .bool d ∧ K.length < 5000 ∧ getB vc vn K = some (Vd.mk vc vn sp sq ap aq pt d) ∧ Sv BA w p K bv (Vd.mk vc vn sp sq ap aq pt false) wc)
    case first =>
      go_wp2_with fail
      go_loopw [6, 30] (fun s6 i wr => ∃ (m : Nat) (K : Bk) (d : Bool), m ≤ A.length ∧ m ≤ 100 ∧ i = .int .i64 m ∧ s6 = .bool d ∧ K.length ≤ m + 1 ∧ getB vc vn K = some (Vd.mk vc vn sp sq ap aq pt d) ∧ Sv BA w p K bv (Vd.mk vc vn sp sq ap aq pt false) wr) (fun _ i _ => A.length - (intOf i).toNat)
      case atStart => exact ⟨0, _, false, Nat.zero_le _, by omega, rfl, rfl, by simp, HG0.out, H4.out⟩
      case round =>
        obtain ⟨m, K, d, hm, hm6, rfl, rfl, hK, hg, hsv⟩ := hrel
        have HP : Hid (Sv BA w p K bv (Vd.mk vc vn sp sq ap aq pt false) wr) := hsv
        have HGK : Hid (getB vc vn K = some (Vd.mk vc vn sp sq ap aq pt d)) := hg
        clear hsv hg H4 HG0
        by_cases hml : m < A.length ∧ m ≠ 100
        · obtain ⟨hml, hm60⟩ := hml
          have hml' : (m : Int) < A.length := by omega
          have h60 : ((m : Int) == 100) = false := by simp; omega
          obtain ⟨b, off, rfl, e0, e1, e2, e3, e4, e5, e6, e7, e8, e9, e10, e11⟩ := HEl.out wr HP.out.pz.bel m hml
          have HAc : Hid _ := HOk.out m hml
          generalize A.getD m da = a at *
          have HT : Hid (K.length ≤ m + 1 ∧ m < 100) := ⟨hK, by omega⟩
          clear hm60 hm6 hK
          have hKl : K.length < 2000 := by have := HT.out; omega
          have HPa : Hid (Sx BA w p K bv (Vd.mk vc vn sp sq ap aq pt false) wr.heap.size a (wr.alloc (abx a))) := HP.out.sx I
          simp only [abx] at HPa
          go_upto_block 2 with fail
          obtain ⟨W4, hW4⟩ : ∃ W4, wr.alloc (.cells #[.int .i64 a.what, .int .u32 a.v.c, .int .u32 a.v.n, .int .u64 a.v.sp, .int .u32 a.v.sl, .int .u64 a.v.ap, .int .u32 a.v.al, .int .u8 a.v.pt, .bool a.v.dn, .int .u64 a.sp, .int .u32 a.sl, .slice a.ka a.keep.length a.kc] 40) = W4 := ⟨_, rfl⟩
          rw [hW4] at HPa ⊢
          clear hW4
          obtain ⟨bx, hbx⟩ : ∃ bx, wr.heap.size = bx := ⟨_, rfl⟩
          rw [hbx] at HPa ⊢
          clear hbx e0 e1 e2 e3 e4 e5 e6 e7 e8 e9 e10 e11 HP
          have HX : Hid (Sx BA w p K bv (Vd.mk vc vn sp sq ap aq pt false) bx a W4) := HPa.out
          clear HPa
          obtain ⟨e0, e1, e2, e3, e4, e5, e6, e7, e8, e9, e10, e11⟩ := ac_box HX.out.b1
          simp only [Nat.zero_add] at e0 e1 e2 e3 e4 e5 e6 e7 e8 e9 e10 e11
          by_cases hw0 : a.what = 0
          · have q0 : (a.what == 0) = true := by simp [hw0]
            have CP : Hid (1 = 1 → _) := fun _ => sx_set I HX.out (by omega) HAc.out.rg
            have HG : Hid (getB vc vn (setB a.v K).1 = some (Vd.mk vc vn sp sq ap aq pt d)) := stay_set HGK.out
            have HLn : (setB a.v K).1.length ≤ K.length + 1 := set_len a.v K
            clear hw0
            go_wp2_with fail
            refine (CP.out (by trivial)).mono ?_
            rintro e w5 ⟨r5, rfl, h5⟩
            have H5 : Hid (Sv BA w p (setB a.v K).1 bv (Vd.mk vc vn sp sq ap aq pt false) w5) := h5.sv
            clear h5 CP HX e0 e1 e2 e3 e4 e5 e6 e7 e8 e9 e10 e11 HGK
            generalize (setB a.v K).1 = K1 at *
            obtain ⟨j0, j1, j2, j3, j4, j5, j6, j7⟩ := H5.out.all
            have CO : Hid (∀ W, Sv BA w p K1 bv (Vd.mk vc vn sp sq ap aq pt false) W → Calls Try.prog 15 #[.pointer (some ⟨p, 0, none⟩), .agg #[.int .u32 vc, .int .u32 vn]] W fun e w' => e = .returned (.tuple #[.agg #[.int .u32 vc, .int .u32 vn, .int .u64 sp, .int .u32 sq, .int .u64 ap, .int .u32 aq, .int .u8 pt, .bool d], .bool true]) ∧ Sv BA w p K1 bv (Vd.mk vc vn sp sq ap aq pt false) w') := fun W h => by
              have := sv_of I h HRg.out
              dsimp only at this
              rw [HG.out] at this
              exact this
            dsimp only at j0 j1 j2 j3 j4 j5 j6 j7
            go_wp2_with fail
            refine (CO.out _ H5.out).mono ?_
            rintro e w8 ⟨rfl, h8⟩
            have H8 : Hid (Sv BA w p K1 bv (Vd.mk vc vn sp sq ap aq pt false) (w8.alloc (vbx (Vd.mk vc vn sp sq ap aq pt d))) ∧ (w8.alloc (vbx (Vd.mk vc vn sp sq ap aq pt d))).heap[w8.heap.size]? = some (vbx (Vd.mk vc vn sp sq ap aq pt d))) := ⟨h8.on I (al _), heap_alloc_new w8 _⟩
            clear h8 CO j0 j1 j2 j3 j4 j5 j6 j7 H5
            simp only [vbx] at H8
            obtain ⟨j0, j1, j2, j3, j4, j5, j6, j7⟩ := H8.out.1.all
            dsimp only at j0 j1 j2 j3 j4 j5 j6 j7
            have hq1 := run_neq35 sp sq sp sq
            have hq2 := run_neq35 ap aq ap aq
            simp only [beq_self_eq_true, Bool.and_self, Bool.not_true] at hq1 hq2
            go_wp2_with fail
            go_roundw
            case rel => exact ⟨m + 1, K1, d, by omega, by have := HT.out; omega, by go_num, rfl, by have := HT.out; omega, HG.out, H8.out.1⟩
            case measure => simp [intOf]; omega
          · have q0 : (a.what == 0) = false := by simpa using hw0
            by_cases hw1 : a.what = 1
            · have q1 : (a.what == 1) = true := by simp [hw1]
              have CP : Hid (1 = 1 → _) := fun _ => sx_done I HX.out HAc.out.rg
              have HLn : (doneB a.v.c a.v.n K).1.length ≤ K.length + 1 := by rw [doneB_len]; omega
              have HSd : Hid (getB vc vn (doneB a.v.c a.v.n K).1 = some (Vd.mk vc vn sp sq ap aq pt (((doneB a.v.c a.v.n K).2 && (a.v.c == vc && a.v.n == vn)) || d))) := stay_done HGK.out
              clear hw0 hw1
              go_wp2_with fail
              refine (CP.out (by trivial)).mono ?_
              rintro e w5 ⟨rfl, h5⟩
              have H5 : Hid (Sx BA w p (doneB a.v.c a.v.n K).1 bv (Vd.mk vc vn sp sq ap aq pt false) bx a w5) := h5
              clear h5 CP HX e0 e1 e2 e3 e4 e5 e6 e7 e8 e9 e10 e11 HGK
              have hq := run_eql32 a.v.c a.v.n vc vn
              generalize (a.v.c == vc && a.v.n == vn) = eq at *
              generalize (doneB a.v.c a.v.n K).1 = K1 at *
              generalize (doneB a.v.c a.v.n K).2 = r at *
              obtain ⟨e0, e1, e2, e3, e4, e5, e6, e7, e8, e9, e10, e11⟩ := ac_box H5.out.b1
              simp only [Nat.zero_add] at e0 e1 e2 e3 e4 e5 e6 e7 e8 e9 e10 e11
              obtain ⟨j0, j1, j2, j3, j4, j5, j6, j7⟩ := H5.out.sv.all
              dsimp only at j0 j1 j2 j3 j4 j5 j6 j7
              cases r
              · have HG : Hid (getB vc vn K1 = some (Vd.mk vc vn sp sq ap aq pt d)) := by show _ = _; rw [HSd.out]; rfl
                have H6 : Hid (Sv BA w p K1 bv (Vd.mk vc vn sp sq ap aq pt false) w5) := H5.out.sv
                clear HSd H5 e0 e1 e2 e3 e4 e5 e6 e7 e8 e9 e10 e11
                clear j0 j1 j2 j3 j4 j5 j6 j7 hq
                obtain ⟨j0, j1, j2, j3, j4, j5, j6, j7⟩ := H6.out.all
                have CO : Hid (∀ W, Sv BA w p K1 bv (Vd.mk vc vn sp sq ap aq pt false) W → Calls Try.prog 15 #[.pointer (some ⟨p, 0, none⟩), .agg #[.int .u32 vc, .int .u32 vn]] W fun e w' => e = .returned (.tuple #[.agg #[.int .u32 vc, .int .u32 vn, .int .u64 sp, .int .u32 sq, .int .u64 ap, .int .u32 aq, .int .u8 pt, .bool d], .bool true]) ∧ Sv BA w p K1 bv (Vd.mk vc vn sp sq ap aq pt false) w') := fun W h => by
                  have := sv_of I h HRg.out
                  dsimp only at this
                  rw [HG.out] at this
                  exact this
                dsimp only at j0 j1 j2 j3 j4 j5 j6 j7
                go_wp2_with fail
                refine (CO.out _ H6.out).mono ?_
                rintro e w8 ⟨rfl, h8⟩
                have H8 : Hid (Sv BA w p K1 bv (Vd.mk vc vn sp sq ap aq pt false) (w8.alloc (vbx (Vd.mk vc vn sp sq ap aq pt d))) ∧ (w8.alloc (vbx (Vd.mk vc vn sp sq ap aq pt d))).heap[w8.heap.size]? = some (vbx (Vd.mk vc vn sp sq ap aq pt d))) := ⟨h8.on I (al _), heap_alloc_new w8 _⟩
                clear h8 CO j0 j1 j2 j3 j4 j5 j6 j7 H6
                simp only [vbx] at H8
                obtain ⟨j0, j1, j2, j3, j4, j5, j6, j7⟩ := H8.out.1.all
                dsimp only at j0 j1 j2 j3 j4 j5 j6 j7
                have hq1 := run_neq35 sp sq sp sq
                have hq2 := run_neq35 ap aq ap aq
                simp only [beq_self_eq_true, Bool.and_self, Bool.not_true] at hq1 hq2
                go_wp2_with fail
                go_roundw
                case rel => exact ⟨m + 1, K1, d, by omega, by have := HT.out; omega, by go_num, rfl, by have := HT.out; omega, HG.out, H8.out.1⟩
                case measure => simp [intOf]; omega
              · cases eq
                · have HG : Hid (getB vc vn K1 = some (Vd.mk vc vn sp sq ap aq pt d)) := by show _ = _; rw [HSd.out]; rfl
                  have H6 : Hid (Sv BA w p K1 bv (Vd.mk vc vn sp sq ap aq pt false) w5) := H5.out.sv
                  clear HSd H5
                  go_upto_region 20 with fail
                  clear j0 j1 j2 j3 j4 j5 j6 j7 e0 e1 e2 e3 e4 e5 e6 e7 e8 e9 e10 e11 hq
                  obtain ⟨j0, j1, j2, j3, j4, j5, j6, j7⟩ := H6.out.all
                  have CO : Hid (∀ W, Sv BA w p K1 bv (Vd.mk vc vn sp sq ap aq pt false) W → Calls Try.prog 15 #[.pointer (some ⟨p, 0, none⟩), .agg #[.int .u32 vc, .int .u32 vn]] W fun e w' => e = .returned (.tuple #[.agg #[.int .u32 vc, .int .u32 vn, .int .u64 sp, .int .u32 sq, .int .u64 ap, .int .u32 aq, .int .u8 pt, .bool d], .bool true]) ∧ Sv BA w p K1 bv (Vd.mk vc vn sp sq ap aq pt false) w') := fun W h => by
                    have := sv_of I h HRg.out
                    dsimp only at this
                    rw [HG.out] at this
                    exact this
                  dsimp only at j0 j1 j2 j3 j4 j5 j6 j7
                  go_wp2_with fail
                  refine (CO.out _ H6.out).mono ?_
                  rintro e w8 ⟨rfl, h8⟩
                  have H8 : Hid (Sv BA w p K1 bv (Vd.mk vc vn sp sq ap aq pt false) (w8.alloc (vbx (Vd.mk vc vn sp sq ap aq pt d))) ∧ (w8.alloc (vbx (Vd.mk vc vn sp sq ap aq pt d))).heap[w8.heap.size]? = some (vbx (Vd.mk vc vn sp sq ap aq pt d))) := ⟨h8.on I (al _), heap_alloc_new w8 _⟩
                  clear h8 CO j0 j1 j2 j3 j4 j5 j6 j7 H6
                  simp only [vbx] at H8
                  obtain ⟨j0, j1, j2, j3, j4, j5, j6, j7⟩ := H8.out.1.all
                  dsimp only at j0 j1 j2 j3 j4 j5 j6 j7
                  have hq1 := run_neq35 sp sq sp sq
                  have hq2 := run_neq35 ap aq ap aq
                  simp only [beq_self_eq_true, Bool.and_self, Bool.not_true] at hq1 hq2
                  go_wp2_with fail
                  go_roundw
                  case rel => exact ⟨m + 1, K1, d, by omega, by have := HT.out; omega, by go_num, rfl, by have := HT.out; omega, HG.out, H8.out.1⟩
                  case measure => simp [intOf]; omega
                · have HG : Hid (getB vc vn K1 = some (Vd.mk vc vn sp sq ap aq pt true)) := by show _ = _; rw [HSd.out]; rfl
                  have H6 : Hid (Sv BA w p K1 bv (Vd.mk vc vn sp sq ap aq pt false) w5) := H5.out.sv
                  clear HSd H5
                  go_upto_region 20 with fail
                  clear j0 j1 j2 j3 j4 j5 j6 j7 e0 e1 e2 e3 e4 e5 e6 e7 e8 e9 e10 e11 hq
                  obtain ⟨j0, j1, j2, j3, j4, j5, j6, j7⟩ := H6.out.all
                  have CO : Hid (∀ W, Sv BA w p K1 bv (Vd.mk vc vn sp sq ap aq pt false) W → Calls Try.prog 15 #[.pointer (some ⟨p, 0, none⟩), .agg #[.int .u32 vc, .int .u32 vn]] W fun e w' => e = .returned (.tuple #[.agg #[.int .u32 vc, .int .u32 vn, .int .u64 sp, .int .u32 sq, .int .u64 ap, .int .u32 aq, .int .u8 pt, .bool true], .bool true]) ∧ Sv BA w p K1 bv (Vd.mk vc vn sp sq ap aq pt false) w') := fun W h => by
                    have := sv_of I h HRg.out
                    dsimp only at this
                    rw [HG.out] at this
                    exact this
                  dsimp only at j0 j1 j2 j3 j4 j5 j6 j7
                  go_wp2_with fail
                  refine (CO.out _ H6.out).mono ?_
                  rintro e w8 ⟨rfl, h8⟩
                  have H8 : Hid (Sv BA w p K1 bv (Vd.mk vc vn sp sq ap aq pt false) (w8.alloc (vbx (Vd.mk vc vn sp sq ap aq pt true))) ∧ (w8.alloc (vbx (Vd.mk vc vn sp sq ap aq pt true))).heap[w8.heap.size]? = some (vbx (Vd.mk vc vn sp sq ap aq pt true))) := ⟨h8.on I (al _), heap_alloc_new w8 _⟩
                  clear h8 CO j0 j1 j2 j3 j4 j5 j6 j7 H6
                  simp only [vbx] at H8
                  obtain ⟨j0, j1, j2, j3, j4, j5, j6, j7⟩ := H8.out.1.all
                  dsimp only at j0 j1 j2 j3 j4 j5 j6 j7
                  have hq1 := run_neq35 sp sq sp sq
                  have hq2 := run_neq35 ap aq ap aq
                  simp only [beq_self_eq_true, Bool.and_self, Bool.not_true] at hq1 hq2
                  go_wp2_with fail
                  go_roundw
                  case rel => exact ⟨m + 1, K1, true, by omega, by have := HT.out; omega, by go_num, rfl, by have := HT.out; omega, HG.out, H8.out.1⟩
                  case measure => simp [intOf]; omega
            · have q1 : (a.what == 1) = false := by simpa using hw1
              by_cases hw2 : a.what = 2
              · have q2 : (a.what == 2) = true := by simp [hw2]
                have HOw : Hid (Owb W4.heap.size 32 2 8 (.slice (some ⟨W4.heap.size, 0, none⟩) 1 1) 1 (rowC txc [(vc, vn)]) B (.slice a.ka a.keep.length a.kc) a.keep.length (rowC txc a.keep) (W4.alloc (.cells #[.int .u32 vc, .int .u32 vn] 32)).drew) := ⟨own_one W4 (vc, vn), RwAt.on HAc.out.ts ((HX.out.pz.bel.alloc HX.out.pz.bel.size _).drew.mono HB.out), rowC_cells txc txc_one _, by simp, by have := HAc.out.len; omega, by omega⟩
                have CR : Hid (∀ W' v', Below W4.heap.size W4 W' → W'.ownsRow W4.heap.size 32 2 v' ((vc, vn) :: a.keep).length (rowC txc ((vc, vn) :: a.keep)) → _) := fun W' v' hb ho => sx_ret (v' := v') I HX.out hb ho HAc.out.sf (rg_cons HRg.out HAc.out) (by have := HAc.out.len; rw [List.length_cons]; omega)
                have HG : Hid (getB vc vn (retB a.sp a.sl ((vc, vn) :: a.keep) K) = some (Vd.mk vc vn sp sq ap aq pt d)) := stay_ret (HX.out.sv.ok I) HGK.out
                have HLn : (retB a.sp a.sl ((vc, vn) :: a.keep) K).length ≤ K.length + 1 := Nat.le_succ_of_le (ret_len _ _ _ _)
                have HXd : Hid (Sx BA w p K bv (Vd.mk vc vn sp sq ap aq pt false) bx a W4.drew) := HX.out.on I (Below.refl _ _).drew
                have HXa : Hid (Sx BA w p K bv (Vd.mk vc vn sp sq ap aq pt false) bx a ((W4.alloc (.cells #[.int .u32 vc, .int .u32 vn] 32)).drew)) := HX.out.on I (al _).drew
                have HXo : Hid (∀ W', Below W4.heap.size W4 W' → Sx BA w p K bv (Vd.mk vc vn sp sq ap aq pt false) bx a W') := fun W' hb => HX.out.on I hb
                clear hw0 hw1 hw2 e0 e1 e2 e3 e4 e5 e6 e7 e8 e9 e10 e11 HGK
                generalize (retB a.sp a.sl ((vc, vn) :: a.keep) K) = K1 at *
                go_upto_region 19 with fail
                go_region_held3 (fun W => W.cell? ⟨bv, 0, none⟩ = some (.int .u32 vc) ∧ W.cell? ⟨bv, 1, none⟩ = some (.int .u32 vn) ∧ W.cell? ⟨bx, 9, none⟩ = some (.int .u64 a.sp) ∧ W.cell? ⟨bx, 10, none⟩ = some (.int .u32 a.sl) ∧ W.cell? ⟨bx, 11, none⟩ = some (.slice a.ka a.keep.length a.kc))
                  (with_reducible first | exact Sx.five HXd.out | exact Sx.five HX.out | exact Sx.five HXa.out | exact Sx.five H9.out.1 | exact Sx.five H10.out)
                  (first
                  | (refine step_append_rwb HOw.out Try.underlying38 hin hi0 hi1 hi2 rfl (by decide) (.tmp 67) (.tmp 69) (by rfl) (by rfl) (by rfl) (by rfl) ?_; intro v9 w9 hown hg hat; have HB9 : Hid (Below W4.heap.size W4 w9) := below_own (al _).drew HOw.out.size HOw.out.own hg; have H9 : Hid (Sx BA w p K bv (Vd.mk vc vn sp sq ap aq pt false) bx a w9 ∧ w9.ownsRow W4.heap.size 32 2 v9 ((vc, vn) :: a.keep).length (rowC txc ((vc, vn) :: a.keep))) := ⟨HXo.out _ HB9.out, (by have h := hown; rw [← rowC_append, Nat.add_comm] at h; exact h)⟩; clear hown hg hat)
                  | (go_at_call 13; refine (CR.out _ v9 HB9.out H9.out.2).mono ?_; rintro e w10 ⟨r10, rfl, h10⟩; have H10 : Hid (Sx BA w p K1 bv (Vd.mk vc vn sp sq ap aq pt false) bx a w10) := h10; clear h10))
                rename_i hHeld
                clear hHeld
                have H6 : Hid (Sv BA w p K1 bv (Vd.mk vc vn sp sq ap aq pt false) w10) := H10.out.sv
                clear HX HXd HXa HXo HOw CR H9 H10 HB9
                obtain ⟨j0, j1, j2, j3, j4, j5, j6, j7⟩ := H6.out.all
                have CO : Hid (∀ W, Sv BA w p K1 bv (Vd.mk vc vn sp sq ap aq pt false) W → Calls Try.prog 15 #[.pointer (some ⟨p, 0, none⟩), .agg #[.int .u32 vc, .int .u32 vn]] W fun e w' => e = .returned (.tuple #[.agg #[.int .u32 vc, .int .u32 vn, .int .u64 sp, .int .u32 sq, .int .u64 ap, .int .u32 aq, .int .u8 pt, .bool d], .bool true]) ∧ Sv BA w p K1 bv (Vd.mk vc vn sp sq ap aq pt false) w') := fun W h => by
                  have := sv_of I h HRg.out
                  dsimp only at this
                  rw [HG.out] at this
                  exact this
                dsimp only at j0 j1 j2 j3 j4 j5 j6 j7
                go_wp2_with fail
                refine (CO.out _ H6.out).mono ?_
                rintro e w8 ⟨rfl, h8⟩
                have H8 : Hid (Sv BA w p K1 bv (Vd.mk vc vn sp sq ap aq pt false) (w8.alloc (vbx (Vd.mk vc vn sp sq ap aq pt d))) ∧ (w8.alloc (vbx (Vd.mk vc vn sp sq ap aq pt d))).heap[w8.heap.size]? = some (vbx (Vd.mk vc vn sp sq ap aq pt d))) := ⟨h8.on I (al _), heap_alloc_new w8 _⟩
                clear h8 CO j0 j1 j2 j3 j4 j5 j6 j7 H6
                simp only [vbx] at H8
                obtain ⟨j0, j1, j2, j3, j4, j5, j6, j7⟩ := H8.out.1.all
                dsimp only at j0 j1 j2 j3 j4 j5 j6 j7
                have hq1 := run_neq35 sp sq sp sq
                have hq2 := run_neq35 ap aq ap aq
                simp only [beq_self_eq_true, Bool.and_self, Bool.not_true] at hq1 hq2
                go_wp2_with fail
                go_roundw
                case rel => exact ⟨m + 1, K1, d, by omega, by have := HT.out; omega, by go_num, rfl, by have := HT.out; omega, HG.out, H8.out.1⟩
                case measure => simp [intOf]; omega
              · have q2 : (a.what == 2) = false := by simpa using hw2
                have HG : Hid (getB vc vn K = some (Vd.mk vc vn sp sq ap aq pt d)) := HGK.out
                have H6 : Hid (Sv BA w p K bv (Vd.mk vc vn sp sq ap aq pt false) W4) := HX.out.sv
                clear hw0 hw1 hw2 HX HGK
                go_upto_region 20 with fail
                clear e0 e1 e2 e3 e4 e5 e6 e7 e8 e9 e10 e11
                obtain ⟨j0, j1, j2, j3, j4, j5, j6, j7⟩ := H6.out.all
                have CO : Hid (∀ W, Sv BA w p K bv (Vd.mk vc vn sp sq ap aq pt false) W → Calls Try.prog 15 #[.pointer (some ⟨p, 0, none⟩), .agg #[.int .u32 vc, .int .u32 vn]] W fun e w' => e = .returned (.tuple #[.agg #[.int .u32 vc, .int .u32 vn, .int .u64 sp, .int .u32 sq, .int .u64 ap, .int .u32 aq, .int .u8 pt, .bool d], .bool true]) ∧ Sv BA w p K bv (Vd.mk vc vn sp sq ap aq pt false) w') := fun W h => by
                  have := sv_of I h HRg.out
                  dsimp only at this
                  rw [HG.out] at this
                  exact this
                dsimp only at j0 j1 j2 j3 j4 j5 j6 j7
                go_wp2_with fail
                refine (CO.out _ H6.out).mono ?_
                rintro e w8 ⟨rfl, h8⟩
                have H8 : Hid (Sv BA w p K bv (Vd.mk vc vn sp sq ap aq pt false) (w8.alloc (vbx (Vd.mk vc vn sp sq ap aq pt d))) ∧ (w8.alloc (vbx (Vd.mk vc vn sp sq ap aq pt d))).heap[w8.heap.size]? = some (vbx (Vd.mk vc vn sp sq ap aq pt d))) := ⟨h8.on I (al _), heap_alloc_new w8 _⟩
                clear h8 CO j0 j1 j2 j3 j4 j5 j6 j7 H6
                simp only [vbx] at H8
                obtain ⟨j0, j1, j2, j3, j4, j5, j6, j7⟩ := H8.out.1.all
                dsimp only at j0 j1 j2 j3 j4 j5 j6 j7
                have hq1 := run_neq35 sp sq sp sq
                have hq2 := run_neq35 ap aq ap aq
                simp only [beq_self_eq_true, Bool.and_self, Bool.not_true] at hq1 hq2
                go_wp2_with fail
                go_roundw
                case rel => exact ⟨m + 1, K, d, by omega, by have := HT.out; omega, by go_num, rfl, by have := HT.out; omega, HG.out, H8.out.1⟩
                case measure => simp [intOf]; omega
        · have HKl : Hid (K.length < 5000) := (by omega : K.length < 5000)
          by_cases hml2 : m < A.length
          · have h60 : ((m : Int) == 100) = true := by simp; omega
            have hml' : (m : Int) < A.length := by omega
            obtain ⟨b, off, rfl, e0, e1, e2, e3, e4, e5, e6, e7, e8, e9, e10, e11⟩ := HEl.out wr HP.out.pz.bel m hml2
            generalize A.getD m da = a at *
            have HPa : Hid (Sv BA w p K bv (Vd.mk vc vn sp sq ap aq pt false) (wr.alloc (abx a))) := HP.out.on I (al _)
            simp only [abx] at HPa
            clear hml hm6 hK
            go_wp2_with fail
            go_meet
            exact ⟨K, d, rfl, HKl.out, HGK.out, HPa.out⟩
          · have hml' : ¬ (m : Int) < A.length := by omega
            clear hml hm6 hK
            go_wp2_with fail
            go_meet
            exact ⟨K, d, rfl, HKl.out, HGK.out, HP.out⟩
    case rest =>
      obtain ⟨K, d, rfl, hK, hg, hsv⟩ := hcut
      have HS : Hid (Sv BA w p K bv (Vd.mk vc vn sp sq ap aq pt false) wc) := hsv
      have HG1 : Hid (getB vc vn (retB sp sq [] K) = some (Vd.mk vc vn sp sq ap aq pt d)) := stay_own (o := (Vd.mk vc vn sp sq ap aq pt d)) (hsv.ok I) hg
      have HG2 : Hid (∀ W, Sv BA w p (retB sp sq [] K) bv (Vd.mk vc vn sp sq ap aq pt false) W → (getB vc vn (retB 281474976710656 4095 [] (retB sp sq [] K))).isSome = ((sp == 281474976710656 && sq == 4095) || (!(ap == 0 && aq == 0) && !d))) := fun W h => stay_end (o := (Vd.mk vc vn sp sq ap aq pt d)) (h.ok I) HG1.out HR.out
      have C1 : Hid (1 = 1 → _) := fun _ => sv_ret (sp := sp) (sl := sq) I hsv ⟨HRg.out.sp, HRg.out.sl⟩
      clear hK hg hsv H4 HG0
      generalize retB sp sq [] K = K1 at *
      have C2 : Hid (∀ W, Sv BA w p K1 bv (Vd.mk vc vn sp sq ap aq pt false) W → Calls Try.prog 15 #[.pointer (some ⟨p, 0, none⟩), .agg #[.int .u32 vc, .int .u32 vn]] W fun e w' => e = .returned (.tuple #[.agg #[.int .u32 vc, .int .u32 vn, .int .u64 sp, .int .u32 sq, .int .u64 ap, .int .u32 aq, .int .u8 pt, .bool d], .bool true]) ∧ Sv BA w p K1 bv (Vd.mk vc vn sp sq ap aq pt false) w') := fun W h => by
        have := sv_of I h HRg.out
        dsimp only at this
        rw [HG1.out] at this
        exact this
      have C3 : Hid (∀ W, Sv BA w p K1 bv (Vd.mk vc vn sp sq ap aq pt false) W → _) := fun W h => sv_ret (sp := 281474976710656) (sl := 4095) I h (by simp [R64, R32])
      have C4 : Hid (∀ W, Sv BA w p (retB 281474976710656 4095 [] K1) bv (Vd.mk vc vn sp sq ap aq pt false) W → _) := fun W h => sv_of I h HRg.out
      simp only [ofV_is, vdV] at C4
      generalize retB 281474976710656 4095 [] K1 = K2 at *
      generalize (getB vc vn K2).getD dv = y at *
      obtain ⟨j0, j1, j2, j3, j4, j5, j6, j7⟩ := HS.out.all
      dsimp only at j0 j1 j2 j3 j4 j5 j6 j7
      go_wp2_with fail
      refine (C1.out (by trivial)).mono ?_
      rintro e w5 ⟨r5, rfl, h5⟩
      have H5 : Hid _ := h5
      clear h5 C1 HS j0 j1 j2 j3 j4 j5 j6 j7
      have hst := HG2.out _ H5.out
      generalize (getB vc vn K2).isSome = st at *
      subst hst
      clear HG2
      obtain ⟨j0, j1, j2, j3, j4, j5, j6, j7⟩ := H5.out.all
      dsimp only at j0 j1 j2 j3 j4 j5 j6 j7
      go_wp2_with fail
      refine (C2.out _ H5.out).mono ?_
      rintro e w6 ⟨rfl, h6⟩
      have H6 : Hid (Sv BA w p K1 bv (Vd.mk vc vn sp sq ap aq pt false) (w6.alloc (vbx (Vd.mk vc vn sp sq ap aq pt d)))) := h6.on I (al _)
      clear h6 C2 H5 j0 j1 j2 j3 j4 j5 j6 j7
      simp only [vbx] at H6
      go_wp2_with fail
      refine (C3.out _ H6.out).mono ?_
      rintro e w7 ⟨r7, rfl, h7⟩
      have H7 : Hid _ := h7
      clear h7 C3 H6
      obtain ⟨j0, j1, j2, j3, j4, j5, j6, j7⟩ := H7.out.all
      dsimp only at j0 j1 j2 j3 j4 j5 j6 j7
      go_wp2_with fail
      refine (C4.out _ H7.out).mono ?_
      rintro e w8 ⟨rfl, h8⟩
      have H8 : Hid (Sv BA w p K2 bv (Vd.mk vc vn sp sq ap aq pt false) (w8.alloc (vbx y))) := h8.on I (al _)
      clear h8 C4 H7 j0 j1 j2 j3 j4 j5 j6 j7
      simp only [vbx] at H8
      obtain ⟨j0, j1, j2, j3, j4, j5, j6, j7⟩ := H8.out.all
      dsimp only at j0 j1 j2 j3 j4 j5 j6 j7
      have hq1 := run_eql35 sp sq 281474976710656 4095
      have hq2 := run_neq35 ap aq 0 0
      generalize (sp == 281474976710656 && sq == 4095) = g at *
      generalize (ap == 0 && aq == 0) = z at *
      cases g <;> cases z <;> cases d <;> (go_wp2_with fail; go_ret; exact ⟨rfl, H8.out.pz.bel⟩)
end Go.Proofs.Ytkadaoebehgkbaa
