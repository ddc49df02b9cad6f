/-
  LatchRuns, walked.
-/
import Derived.Test.YtknfkpnicjellaaRnt
namespace Go.Proofs.Ytknfkpnicjellaa
open Go.RowKit
variable {TA : Nat → Nat → (Nat → Prop) → Tb → World → Prop}

theorem Rx.five {w W : World} {p rb bx : Nat} {Tp Td : Tb} {a : Ac} (h : Rx TA w p rb Tp Td a bx W) : W.cell? ⟨bx, 5, none⟩ = some (.int .u64 a.mp) ∧ W.cell? ⟨bx, 6, none⟩ = some (.int .u32 a.ml) ∧ W.cell? ⟨bx, 9, none⟩ = some (.string (bs a.lo)) ∧ W.cell? ⟨bx, 10, none⟩ = some (.string (bs a.hi)) ∧ W.cell? ⟨bx, 11, none⟩ = some (.slice a.ba a.but.length a.bc) := ⟨block_cell h.b0 rfl, block_cell h.b0 rfl, block_cell h.b0 rfl, block_cell h.b0 rfl, block_cell h.b0 rfl⟩
theorem heap_on {W W' : World} {b : Nat} {o : Obj} (hb : Below W.heap.size W W') (h : W.heap[b]? = some o) : W'.heap[b]? = some o := by
  rw [hb.block b (Array.getElem?_eq_some_iff.1 h).1]
  exact h

set_option maxHeartbeats 6400000 in
set_option maxRecDepth 100000 in
theorem runs3 (I : Ifl TA) (B : Nat) (A : List Ac) (va : Value) (w : World) (hv : AcsAt B va A w) (hB : B ≤ w.heap.size) : Calls Try.prog 3 #[va] w fun e w' => e = .returned (.bool true) ∧ Below w.heap.size w w' := by
  obtain ⟨ao, cap, rfl, hlc, hcm⟩ := hv.shape
  have CA : Hid (∀ W : World, 1 = 1 → Calls Try.prog 8 #[] W fun e w' => e = .returned (.bool true) ∧ Below W.heap.size W w') := fun W _ => awake8 I W
  have CN : Hid (∀ W, Below w.heap.size w W → _) := fun W hW => pz_new I (F := fun _ => False) hW (fun _ h => h.elim)
  have HEl : Hid (∀ W, Below w.heap.size w W → ∀ i, i < A.length → ∃ b off, ao = some ⟨b, off, none⟩ ∧ AcAt W b (off + i * 12) (A.getD i da)) := fun W hW i hi => (hv.on (hW.mono hB)).el hi
  have HOk : Hid (∀ i, i < A.length → AcOk B (A.getD i da) w) := fun i hi => hv.2 _ (getD_memA hi)
  have HB : Hid (B ≤ w.heap.size) := hB
  obtain ⟨i0, hin, hi0, hi1, hi2⟩ := info_parts info44
  have hA9 : A.length < 9223372036854775808 := by omega
  clear hv hB hlc hcm
  go_enter Try.func3, Try.ntmps3
  go_wp2_with fail
  refine (CA.out _ (by trivial)).mono ?_
  rintro e w1 ⟨rfl, hb⟩
  have H1 : Hid (Below w.heap.size w w1) := hb
  clear hb CA
  go_wp2_with fail
  refine (CN.out _ H1.out).mono ?_
  rintro e w2 ⟨p, rfl, h2, -⟩
  have H2 : Hid (Pr TA w p w2.heap.size [] [] (fun _ => False) (w2.alloc (.cells #[.slice none 0 0] 29))) := pr_start I h2
  clear h2 CN H1
  go_wp2_with fail
  obtain ⟨W2, hW2⟩ : ∃ W2, w2.alloc (.cells #[.slice none 0 0] 29) = W2 := ⟨_, rfl⟩
  rw [hW2] at H2 ⊢
  clear hW2
  obtain ⟨rb, hrb⟩ : ∃ rb, w2.heap.size = rb := ⟨_, rfl⟩
  rw [hrb] at H2 ⊢
  clear hrb
  go_loopw [24] (fun i wr => ∃ (m : Nat) (T : Tb), m ≤ A.length ∧ m ≤ 120 ∧ i = .int .i64 m ∧ T.length ≤ 16 * m ∧ Pr TA w p rb T T (fun _ => False) wr) (fun i _ => A.length - (intOf i).toNat)
  case atStart => exact ⟨0, [], Nat.zero_le _, by omega, rfl, by simp, H2.out⟩
  case round =>
    obtain ⟨m, T, hm, hm6, rfl, hT, hpr⟩ := hrel
    have HP : Hid (Pr TA w p rb T T (fun _ => False) wr) := hpr
    clear hpr H2
    by_cases hml : m < A.length
    · have hml' : (m : Int) < A.length := by omega
      obtain ⟨b, off, rfl, e0, e1, e2, e3, e4, e5, e6, e7, e8, e9, e10, e11⟩ := HEl.out wr HP.out.bel m hml
      have HAc : Hid _ := HOk.out m hml
      generalize A.getD m da = a at *
      have HPa : Hid (Rx TA w p rb T T a wr.heap.size (wr.alloc (abx a))) := ⟨HP.out.more I (al _) (fun k hk => .inr ⟨by omega, by rw [hk]; simp⟩), heap_alloc_new wr _⟩
      simp only [abx] at HPa
      by_cases h120 : m = 120
      · have h60 : ((m : Int) == 120) = true := by simp; omega
        clear h120 hm6 hT
        go_wp2_with fail
        go_ret
        exact ⟨rfl, HPa.out.pr.bel⟩
      · have h60 : ((m : Int) == 120) = false := by simp; omega
        have HT : Hid (T.length ≤ 16 * m ∧ m < 120) := ⟨hT, by omega⟩
        clear h120 hm6 hT
        have hTl : T.length < 2000 := by have := HT.out; omega
        by_cases hws : a.ws.length ≤ 200
        · have hws' : ¬ (200 : Int) < a.ws.length := by omega
          go_upto_block 2 with fail
          obtain ⟨W4, hW4⟩ : ∃ W4, wr.alloc (.cells #[.int .i64 a.what, .int .u32 a.c, .int .u32 a.n, .int .u64 a.sp, .int .u32 a.sl, .int .u64 a.mp, .int .u32 a.ml, .string (bs a.prim), .slice a.wa a.ws.length a.wc, .string (bs a.lo), .string (bs a.hi), .slice a.ba a.but.length a.bc] 39) = W4 := ⟨_, rfl⟩
          rw [hW4] at HPa ⊢
          clear hW4
          obtain ⟨bx, hbx⟩ : ∃ bx, wr.heap.size = bx := ⟨_, rfl⟩
          rw [hbx] at HPa ⊢
          clear hbx e0 e1 e2 e3 e4 e5 e6 e7 e8 e9 e10 e11 HP
          have HX : Hid (Rx TA w p rb T T a bx W4) := HPa.out
          clear HPa
          go_cut [] from 35 to 113 (fun wc => ∃ T' : Tb, T'.length ≤ 16 * (m + 1) ∧ Rx TA w p rb T' T' a bx wc)
          case first =>
            have x0 : W4.cell? ⟨bx, 0, none⟩ = some (.int .i64 a.what) := block_cell HX.out.b0 rfl
            have x8 : W4.cell? ⟨bx, 8, none⟩ = some (.slice a.wa a.ws.length a.wc) := block_cell HX.out.b0 rfl
            by_cases hw0 : a.what = 0
            · have q0 : (a.what == 0) = true := by simp [hw0]
              have HOw : Hid _ := rx_ow HX.out HAc.out HB.out hws
              have HMd : Hid (∀ v W', _) := fun v W' => ry_made (v := v) (W' := W') I HX.out
              have CP : Hid (∀ W base v, Ry TA w p rb T T a bx base v a.ws W → _) := fun W base v h => ry_layP I h (by omega) HAc.out.st
              have CD : Hid (∀ W base v, Ry TA w p rb (layA a T).1 T a bx base v a.ws W → _) := fun W base v h => ry_layD (K := a.ws) I h (by omega) HAc.out HB.out
              have HLn : Hid ((layA a T).1.length ≤ T.length + 16) := len_lay (Pr.oks I HX.out.pr) (rightB a.sp a.sl && rightB a.mp a.ml && kOk a.prim) a.c a.n a.sp a.sl a.mp a.ml a.prim a.ws
              generalize layA a T = Y at *
              obtain ⟨T1, er⟩ := Y
              dsimp only at CP CD HLn
              clear hw0
              obtain ⟨bw, hbw⟩ : ∃ bw, W4.heap.size = bw := ⟨_, rfl⟩
              rw [hbw] at HOw HMd
              have HBW : Hid (W4.heap.size = bw) := hbw
              have x8b : (W4.alloc (.cells #[] 44)).cell? ⟨bx, 8, none⟩ = some (.slice a.wa a.ws.length a.wc) := block_cell (heap_on (al _) HX.out.b0) rfl
              go_wp2_with (at_builtin; refine wpList_append_rw HOw.out Try.underlying36 hin hi0 hi1 hi2 rfl (by decide) (by decide) (.tmp 39) (.tmp 41) rfl rfl rfl rfl ?_)
              intro v5 w5 hown hg hat
              have H5 : Hid (Ry TA w p rb T T a bx bw v5 a.ws w5) := HMd.out v5 w5 (by rw [Nat.zero_add, List.nil_append]; exact hown) hg
              clear hown hg hat HMd HOw x0 x8 x8b HX hbw HBW
              go_upto_region 13 with fail
              go_region_held3 (fun W => W.cell? ⟨bx, 1, none⟩ = some (.int .u32 a.c) ∧ W.cell? ⟨bx, 2, none⟩ = some (.int .u32 a.n) ∧ W.cell? ⟨bx, 3, none⟩ = some (.int .u64 a.sp) ∧ W.cell? ⟨bx, 4, none⟩ = some (.int .u32 a.sl) ∧ W.cell? ⟨bx, 5, none⟩ = some (.int .u64 a.mp) ∧ W.cell? ⟨bx, 6, none⟩ = some (.int .u32 a.ml) ∧ W.cell? ⟨bx, 7, none⟩ = some (.string (bs a.prim)) ∧ W.cell? ⟨bx, 8, none⟩ = some (.slice a.wa a.ws.length a.wc))
                (with_reducible first | exact Ry.eight (Ry.dr I H5.out) | exact Ry.eight H5.out | exact Ry.eight H6.out | exact Ry.eight H7.out)
                (first
                | (go_at_call 10; refine (CP.out _ bw v5 (Ry.dr I H5.out)).mono ?_; rintro e w6 ⟨rfl, h6⟩; have H6 : Hid (Ry TA w p rb T1 T a bx bw v5 a.ws w6) := h6; clear h6)
                | (go_at_call 11; refine (CD.out _ bw v5 H6.out).mono ?_; rintro e w7 ⟨rfl, h7⟩; have H7 : Hid (Ry TA w p rb T1 T1 a bx bw v5 a.ws w7) := h7; clear h7))
              rename_i hHeld
              clear hHeld CP CD
              obtain ⟨sa, sc, rfl, -, -, -, -⟩ := rw_own H7.out.row
              go_wp2_with fail
              go_loopw [69] (fun i wq => ∃ k : Nat, k ≤ a.ws.length ∧ i = .int .i64 k ∧ Ry TA w p rb T1 T1 a bx bw (.slice sa a.ws.length sc) (inN a.ws k) wq) (fun i _ => a.ws.length - (intOf i).toNat)
              case atStart => exact ⟨0, Nat.zero_le _, rfl, H7.out⟩
              case round =>
                obtain ⟨k, hk, rfl, hry⟩ := hrel
                have HY : Hid (Ry TA w p rb T1 T1 a bx bw (.slice sa a.ws.length sc) (inN a.ws k) wr) := hry
                clear hry H7
                by_cases hkl : k < a.ws.length
                · have hkl' : (k : Int) < a.ws.length := by omega
                  obtain ⟨g, rfl, ⟨g0, g1, g2⟩, gf⟩ := Ry.el rfl HY.out hkl
                  obtain ⟨b, off, hwa, e0, e1, e2⟩ := (HAc.out.ws.on (HY.out.pr.bel.mono HB.out)).el hkl
                  have hx8 := HY.out.eight.2.2.2.2.2.2.2
                  have HY2 : Hid (Ry TA w p rb T1 T1 a bx bw (.slice (some ⟨g, 0, none⟩) a.ws.length sc) (inN a.ws (k + 1)) (wr.drew.setCell ⟨g, k * 3, none⟩ (.string ⟨#[111, 116, 104, 101, 114]⟩))) := Ry.put I rfl (HY.out.dr I) hkl
                  have f0 : wr.drew.frozen? ⟨g, k * 3, none⟩ = false := own_frozen (by have := (HY.out.dr I).row; rw [inN_len] at this; exact this) _
                  have hq := run_neq44e (a.ws.getD k dw)
                  generalize a.ws.getD k dw = x at *
                  rw [hwa] at hx8
                  clear gf
                  go_upto_region 18 with fail
                  go_region_held3 (fun W => W.cell? ⟨g, k * 3, none⟩ = some (.string (bs x.key)) ∧ W.cell? ⟨g, k * 3 + 1, none⟩ = some (.string (bs x.val)) ∧ W.cell? ⟨g, k * 3 + 2, none⟩ = some (.bool x.dead) ∧ W.cell? ⟨b, off + k * 3, none⟩ = some (.string (bs x.key)) ∧ W.cell? ⟨b, off + k * 3 + 1, none⟩ = some (.string (bs x.val)) ∧ W.cell? ⟨b, off + k * 3 + 2, none⟩ = some (.bool x.dead) ∧ W.cell? ⟨bx, 8, none⟩ = some (.slice (some ⟨b, off, none⟩) a.ws.length a.wc))
                    (exact ⟨g0, g1, g2, e0, e1, e2, hx8⟩)
                    (fail)
                  go_wp2_with fail
                  go_roundw
                  case rel => exact ⟨k + 1, by omega, by go_num, HY2.out⟩
                  case measure => simp [intOf]; omega
                · have hkl' : ¬ (k : Int) < a.ws.length := by omega
                  go_wp2_with fail
                  go_meet
                  exact ⟨T1, by have := HT.out; have := HLn.out; omega, HY.out.rx I⟩
            · have q0 : (a.what == 0) = false := by simpa using hw0
              by_cases hw1 : a.what = 1
              · have q1 : (a.what == 1) = true := by simp [hw1]
                have CP : Hid (∀ W, Rx TA w p rb T T a bx W → _) := fun W h => rx_cutP I h
                have CD : Hid (∀ W v, Rx TA w p rb (restF a.c a.n T) T a bx W → IsAt W.heap.size v (byF a.c a.n T) W → (∀ k, v.ownBlock = some k → k ≠ rb) → _) := fun W v h hv hn => rx_cutD (K := byF a.c a.n T) (v := v) I h (by omega) hv hn
                have CS : Hid (∀ W va vb, Rx TA w p rb (restF a.c a.n T) (restF a.c a.n T) a bx W → IsAt W.heap.size va (byF a.c a.n T) W → IsAt W.heap.size vb (byF a.c a.n T) W → _) := fun W va vb h ha hb => rx_same (va := va) (vb := vb) I h ha hb
                have HLn := len_rest a.c a.n T
                generalize restF a.c a.n T = T1 at *
                generalize byF a.c a.n T = K at *
                clear hw0 hw1
                go_upto_region 23 with fail
                go_region_held3 (fun W => W.cell? ⟨bx, 1, none⟩ = some (.int .u32 a.c) ∧ W.cell? ⟨bx, 2, none⟩ = some (.int .u32 a.n))
                  (with_reducible first | exact Rx.two (Rx.dr I HX.out) | exact Rx.two HX.out | exact Rx.two H5.out.2.2 | exact Rx.two H6.out.2.2 | exact Rx.two H7.out)
                  (first
                  | (go_at_call 13; refine (CP.out _ (Rx.dr I HX.out)).mono ?_; rintro e w5 ⟨v5, rfl, h5⟩; have H5 : Hid (IsAt w5.heap.size v5 K w5 ∧ (∀ k, v5.ownBlock = some k → k ≠ rb) ∧ Rx TA w p rb T1 T a bx w5) := h5; clear h5)
                  | (go_at_call 14; refine (CD.out _ v5 H5.out.2.2 H5.out.1 H5.out.2.1).mono ?_; rintro e w6 ⟨v6, rfl, h6⟩; have H6 : Hid (IsAt w6.heap.size v6 K w6 ∧ IsAt w6.heap.size v5 K w6 ∧ Rx TA w p rb T1 T1 a bx w6) := h6; clear h6)
                  | (go_at_call 12; refine (CS.out _ v5 v6 H6.out.2.2 H6.out.2.1 H6.out.1).mono ?_; rintro e w7 ⟨rfl, h7⟩; have H7 : Hid (Rx TA w p rb T1 T1 a bx w7) := h7.1; clear h7))
                rename_i hHeld
                clear hHeld
                go_wp2_with fail
                go_meet
                exact ⟨T1, by have := HT.out; omega, H7.out⟩
              · have q1 : (a.what == 1) = false := by simpa using hw1
                by_cases hw2 : a.what = 2
                · have q2 : (a.what == 2) = true := by simp [hw2]
                  have CP : Hid (∀ W, Rx TA w p rb T T a bx W → _) := fun W h => rx_raiseP I h HAc.out.st
                  have CD : Hid (∀ W, Rx TA w p rb (rseF a.c a.n a.mp a.ml T) T a bx W → _) := fun W h => rx_raiseD I h (by omega)
                  have HLn := rse_len a.c a.n a.mp a.ml T
                  generalize rseF a.c a.n a.mp a.ml T = T1 at *
                  generalize rseB a.c a.n a.mp a.ml T = z at *
                  clear hw0 hw1 hw2
                  go_upto_region 26 with fail
                  go_region_held3 (fun W => W.cell? ⟨bx, 1, none⟩ = some (.int .u32 a.c) ∧ W.cell? ⟨bx, 2, none⟩ = some (.int .u32 a.n) ∧ W.cell? ⟨bx, 5, none⟩ = some (.int .u64 a.mp) ∧ W.cell? ⟨bx, 6, none⟩ = some (.int .u32 a.ml))
                    (with_reducible first | exact Rx.four (Rx.dr I HX.out) | exact Rx.four HX.out | exact Rx.four H5.out | exact Rx.four H6.out)
                    (first
                    | (go_at_call 15; refine (CP.out _ (Rx.dr I HX.out)).mono ?_; rintro e w5 ⟨rfl, h5⟩; have H5 : Hid (Rx TA w p rb T1 T a bx w5) := h5; clear h5)
                    | (go_at_call 16; refine (CD.out _ H5.out).mono ?_; rintro e w6 ⟨rfl, h6⟩; have H6 : Hid (Rx TA w p rb T1 T1 a bx w6) := h6; clear h6))
                  rename_i hHeld
                  clear hHeld
                  go_wp2_with fail
                  go_meet
                  exact ⟨T1, by have := HT.out; omega, H6.out⟩
                · have q2 : (a.what == 2) = false := by simpa using hw2
                  clear hw0 hw1 hw2
                  go_wp2_with fail
                  go_meet
                  exact ⟨T, by have := HT.out; omega, HX.out⟩
          case rest =>
            obtain ⟨T1, hT1, hx1⟩ := hcut
            have HX1 : Hid (Rx TA w p rb T1 T1 a bx wc) := hx1
            have HT1 : Hid (T1.length ≤ 16 * (m + 1)) := hT1
            have hl1 : T1.length < 8900 := by have := HT.out; omega
            clear hT1 hx1 HX
            have C17 : Hid (∀ W, Rx TA w p rb T1 T1 a bx W → _) := fun W h => rx_firstP I h HAc.out HB.out
            have C18 : Hid (∀ W, Rx TA w p rb T1 T1 a bx W → _) := fun W h => rx_firstD I h hl1 HAc.out HB.out
            have C19 : Hid (∀ W, Rx TA w p rb T1 T1 a bx W → _) := fun W h => rx_ofP I h
            have C20 : Hid (∀ W, Rx TA w p rb T1 T1 a bx W → _) := fun W h => rx_ofD I h
            obtain ⟨x, xf, hxf⟩ := fsV_ex (firstF a.lo a.hi a.mp a.ml a.but T1)
            obtain ⟨y, yf, hyf⟩ := ofV_ex a.lo (getF a.lo T1)
            rw [hxf] at C17 C18
            rw [hyf] at C19 C20
            simp only [inV] at C17 C18 C19 C20
            clear hxf hyf
            obtain ⟨x5, x6, x9, x10, x11⟩ := HX1.out.five
            go_wp2_with fail
            refine (C17.out _ HX1.out).mono ?_
            rintro e w5 ⟨rfl, h5, hb5⟩
            have H5 : Hid (Rx TA w p rb T1 T1 a bx (w5.alloc (ibx x)) ∧ (w5.alloc (ibx x)).heap[w5.heap.size]? = some (ibx x)) := ⟨h5.on I (al _), heap_alloc_new w5 _⟩
            clear h5 hb5 C17 HX1 x5 x6 x9 x10 x11
            simp only [ibx] at H5
            obtain ⟨x5, x6, x9, x10, x11⟩ := H5.out.1.five
            go_wp2_with fail
            obtain ⟨W5, hW5⟩ : ∃ W5, w5.alloc (.cells #[.int .u32 x.2.c, .int .u32 x.2.n, .int .u64 x.2.sp, .int .u32 x.2.sl, .int .u64 x.2.mp, .int .u32 x.2.ml, .string (bs x.2.prim), .string (bs x.1), .string (bs x.2.val), .bool x.2.dead] 49) = W5 := ⟨_, rfl⟩
            rw [hW5] at H5 ⊢
            clear hW5
            obtain ⟨b9, hb9⟩ : ∃ b9, w5.heap.size = b9 := ⟨_, rfl⟩
            rw [hb9] at H5 ⊢
            clear hb9
            refine (C18.out _ H5.out.1).mono ?_
            rintro e w6 ⟨rfl, h6, hb6⟩
            have H6 : Hid (Rx TA w p rb T1 T1 a bx (w6.alloc (ibx x)) ∧ (w6.alloc (ibx x)).heap[b9]? = some (ibx x) ∧ (w6.alloc (ibx x)).heap[w6.heap.size]? = some (ibx x)) := ⟨h6.on I (al _), heap_on (al _) (heap_on hb6 H5.out.2), heap_alloc_new w6 _⟩
            clear h6 hb6 C18 H5 x5 x6 x9 x10 x11
            simp only [ibx] at H6
            obtain ⟨-, -, x9, -, -⟩ := H6.out.1.five
            go_wp2_with fail
            obtain ⟨W6, hW6⟩ : ∃ W6, w6.alloc (.cells #[.int .u32 x.2.c, .int .u32 x.2.n, .int .u64 x.2.sp, .int .u32 x.2.sl, .int .u64 x.2.mp, .int .u32 x.2.ml, .string (bs x.2.prim), .string (bs x.1), .string (bs x.2.val), .bool x.2.dead] 49) = W6 := ⟨_, rfl⟩
            rw [hW6] at H6 ⊢
            clear hW6
            obtain ⟨b11, hb11⟩ : ∃ b11, w6.heap.size = b11 := ⟨_, rfl⟩
            rw [hb11] at H6 ⊢
            clear hb11
            refine (C19.out _ H6.out.1).mono ?_
            rintro e w7 ⟨rfl, h7, hb7⟩
            have H7 : Hid (Rx TA w p rb T1 T1 a bx (w7.alloc (ibx y)) ∧ (w7.alloc (ibx y)).heap[b9]? = some (ibx x) ∧ (w7.alloc (ibx y)).heap[b11]? = some (ibx x) ∧ (w7.alloc (ibx y)).heap[w7.heap.size]? = some (ibx y)) := ⟨h7.on I (al _), heap_on (al _) (heap_on hb7 H6.out.2.1), heap_on (al _) (heap_on hb7 H6.out.2.2), heap_alloc_new w7 _⟩
            clear h7 hb7 C19 H6 x9
            simp only [ibx] at H7
            obtain ⟨-, -, x9, -, -⟩ := H7.out.1.five
            go_wp2_with fail
            obtain ⟨W7, hW7⟩ : ∃ W7, w7.alloc (.cells #[.int .u32 y.2.c, .int .u32 y.2.n, .int .u64 y.2.sp, .int .u32 y.2.sl, .int .u64 y.2.mp, .int .u32 y.2.ml, .string (bs y.2.prim), .string (bs y.1), .string (bs y.2.val), .bool y.2.dead] 49) = W7 := ⟨_, rfl⟩
            rw [hW7] at H7 ⊢
            clear hW7
            obtain ⟨b13, hb13⟩ : ∃ b13, w7.heap.size = b13 := ⟨_, rfl⟩
            rw [hb13] at H7 ⊢
            clear hb13
            refine (C20.out _ H7.out.1).mono ?_
            rintro e w8 ⟨rfl, h8, hb8⟩
            have H8 : Hid (∃ sl, Rq TA w p rb sl T1 a bx b9 b11 b13 w8.heap.size x y (w8.alloc (ibx y))) := by
              have h9 := h8.on I (al (ibx y))
              obtain ⟨B1, sl, _, hr, _⟩ := h9.pr.ex
              exact ⟨sl, h9, ⟨B1, hr⟩, heap_on (al _) (heap_on hb8 H7.out.2.1), heap_on (al _) (heap_on hb8 H7.out.2.2.1), heap_on (al _) (heap_on hb8 H7.out.2.2.2), heap_alloc_new w8 _⟩
            clear h8 hb8 C20 H7 x9
            simp only [ibx] at H8
            obtain ⟨sl, h8⟩ := H8.out
            have H9 : Hid _ := h8
            clear H8 h8
            go_upto_region 32 with fail
            obtain ⟨W8, hW8⟩ : ∃ W8, w8.alloc (.cells #[.int .u32 y.2.c, .int .u32 y.2.n, .int .u64 y.2.sp, .int .u32 y.2.sl, .int .u64 y.2.mp, .int .u32 y.2.ml, .string (bs y.2.prim), .string (bs y.1), .string (bs y.2.val), .bool y.2.dead] 49) = W8 := ⟨_, rfl⟩
            rw [hW8] at H9 ⊢
            clear hW8
            obtain ⟨b15, hb15⟩ : ∃ b15, w8.heap.size = b15 := ⟨_, rfl⟩
            rw [hb15] at H9 ⊢
            clear hb15
            have C21 : Hid (∀ W, Rq TA w p rb sl T1 a bx b9 b11 b13 b15 x y W → _) := fun W h => rq_byP I h
            have C22 : Hid (∀ W v, Rq TA w p rb sl T1 a bx b9 b11 b13 b15 x y W → IsAt W.heap.size v (byF a.c a.n T1) W → _) := fun W v h hv => rq_byD (v := v) I h hl1 hv
            have C12 : Hid (∀ W va vb, Rq TA w p rb sl T1 a bx b9 b11 b13 b15 x y W → IsAt W.heap.size va (byF a.c a.n T1) W → IsAt W.heap.size vb (byF a.c a.n T1) W → _) := fun W va vb h ha hb => rq_same (va := va) (vb := vb) I h ha hb
            have C23 : Hid (∀ W, Rq TA w p rb sl T1 a bx b9 b11 b13 b15 x y W → _) := fun W h => rq_all I h
            have C12b : Hid (∀ W va, Rq TA w p rb sl T1 a bx b9 b11 b13 b15 x y W → IsAt W.heap.size va T1 W → _) := fun W va h ha => rq_list (va := va) I h ha
            have C24 : Hid (∀ W, Rq TA w p rb sl T1 a bx b9 b11 b13 b15 x y W → _) := fun W h => rq_rightP I h HAc.out HB.out
            have C25 : Hid (∀ W, Rq TA w p rb sl T1 a bx b9 b11 b13 b15 x y W → _) := fun W h => rq_rightD I h HAc.out HB.out
            generalize byF a.c a.n T1 = K at *
            generalize rightW a.ws = z at *
            have hq1 := run_neq49x x
            have hq2 := run_neq49x y
            clear hl1
            go_region_held3 (fun W => W.cell? ⟨b9, 0, none⟩ = some (.int .u32 x.2.c) ∧ W.cell? ⟨b9, 1, none⟩ = some (.int .u32 x.2.n) ∧ W.cell? ⟨b9, 2, none⟩ = some (.int .u64 x.2.sp) ∧ W.cell? ⟨b9, 3, none⟩ = some (.int .u32 x.2.sl) ∧ W.cell? ⟨b9, 4, none⟩ = some (.int .u64 x.2.mp) ∧ W.cell? ⟨b9, 5, none⟩ = some (.int .u32 x.2.ml) ∧ W.cell? ⟨b9, 6, none⟩ = some (.string (bs x.2.prim)) ∧ W.cell? ⟨b9, 7, none⟩ = some (.string (bs x.1)) ∧ W.cell? ⟨b9, 8, none⟩ = some (.string (bs x.2.val)) ∧ W.cell? ⟨b9, 9, none⟩ = some (.bool x.2.dead) ∧ W.cell? ⟨b11, 0, none⟩ = some (.int .u32 x.2.c) ∧ W.cell? ⟨b11, 1, none⟩ = some (.int .u32 x.2.n) ∧ W.cell? ⟨b11, 2, none⟩ = some (.int .u64 x.2.sp) ∧ W.cell? ⟨b11, 3, none⟩ = some (.int .u32 x.2.sl) ∧ W.cell? ⟨b11, 4, none⟩ = some (.int .u64 x.2.mp) ∧ W.cell? ⟨b11, 5, none⟩ = some (.int .u32 x.2.ml) ∧ W.cell? ⟨b11, 6, none⟩ = some (.string (bs x.2.prim)) ∧ W.cell? ⟨b11, 7, none⟩ = some (.string (bs x.1)) ∧ W.cell? ⟨b11, 8, none⟩ = some (.string (bs x.2.val)) ∧ W.cell? ⟨b11, 9, none⟩ = some (.bool x.2.dead) ∧ W.cell? ⟨b13, 0, none⟩ = some (.int .u32 y.2.c) ∧ W.cell? ⟨b13, 1, none⟩ = some (.int .u32 y.2.n) ∧ W.cell? ⟨b13, 2, none⟩ = some (.int .u64 y.2.sp) ∧ W.cell? ⟨b13, 3, none⟩ = some (.int .u32 y.2.sl) ∧ W.cell? ⟨b13, 4, none⟩ = some (.int .u64 y.2.mp) ∧ W.cell? ⟨b13, 5, none⟩ = some (.int .u32 y.2.ml) ∧ W.cell? ⟨b13, 6, none⟩ = some (.string (bs y.2.prim)) ∧ W.cell? ⟨b13, 7, none⟩ = some (.string (bs y.1)) ∧ W.cell? ⟨b13, 8, none⟩ = some (.string (bs y.2.val)) ∧ W.cell? ⟨b13, 9, none⟩ = some (.bool y.2.dead) ∧ W.cell? ⟨b15, 0, none⟩ = some (.int .u32 y.2.c) ∧ W.cell? ⟨b15, 1, none⟩ = some (.int .u32 y.2.n) ∧ W.cell? ⟨b15, 2, none⟩ = some (.int .u64 y.2.sp) ∧ W.cell? ⟨b15, 3, none⟩ = some (.int .u32 y.2.sl) ∧ W.cell? ⟨b15, 4, none⟩ = some (.int .u64 y.2.mp) ∧ W.cell? ⟨b15, 5, none⟩ = some (.int .u32 y.2.ml) ∧ W.cell? ⟨b15, 6, none⟩ = some (.string (bs y.2.prim)) ∧ W.cell? ⟨b15, 7, none⟩ = some (.string (bs y.1)) ∧ W.cell? ⟨b15, 8, none⟩ = some (.string (bs y.2.val)) ∧ W.cell? ⟨b15, 9, none⟩ = some (.bool y.2.dead) ∧ W.cell? ⟨bx, 1, none⟩ = some (.int .u32 a.c) ∧ W.cell? ⟨bx, 2, none⟩ = some (.int .u32 a.n) ∧ W.cell? ⟨bx, 8, none⟩ = some (.slice a.wa a.ws.length a.wc) ∧ W.cell? ⟨rb, 0, none⟩ = some sl)
              (with_reducible first | exact Rq.all (Rq.dr I H9.out) | exact Rq.all H9.out | exact Rq.all H10.out.2 | exact Rq.all H11.out.2.2 | exact Rq.all H12.out | exact Rq.all H13.out.2 | exact Rq.all H14.out | exact Rq.all H15.out | exact Rq.all H16.out)
              (first
              | (go_at_call 21; refine (C21.out _ (Rq.dr I H9.out)).mono ?_; rintro e w10 ⟨v10, rfl, h10⟩; have H10 : Hid (IsAt w10.heap.size v10 K w10 ∧ Rq TA w p rb sl T1 a bx b9 b11 b13 b15 x y w10) := h10; clear h10)
              | (go_at_call 22; refine (C22.out _ v10 H10.out.2 H10.out.1).mono ?_; rintro e w11 ⟨v11, rfl, h11⟩; have H11 : Hid (IsAt w11.heap.size v11 K w11 ∧ IsAt w11.heap.size v10 K w11 ∧ Rq TA w p rb sl T1 a bx b9 b11 b13 b15 x y w11) := h11; clear h11)
              | (go_at_call 12; (with_reducible refine (C12.out _ v10 v11 H11.out.2.2 H11.out.2.1 H11.out.1).mono ?_); rintro e w12 ⟨rfl, h12⟩; have H12 : Hid (Rq TA w p rb sl T1 a bx b9 b11 b13 b15 x y w12) := h12; clear h12)
              | (go_at_call 23; refine (C23.out _ H12.out).mono ?_; rintro e w13 ⟨v13, rfl, h13⟩; have H13 : Hid (IsAt w13.heap.size v13 T1 w13 ∧ Rq TA w p rb sl T1 a bx b9 b11 b13 b15 x y w13) := h13; clear h13)
              | (go_at_call 12; (with_reducible refine (C12b.out _ v13 H13.out.2 H13.out.1).mono ?_); rintro e w14 ⟨rfl, h14⟩; have H14 : Hid (Rq TA w p rb sl T1 a bx b9 b11 b13 b15 x y w14) := h14; clear h14)
              | (go_at_call 24; refine (C24.out _ H14.out).mono ?_; rintro e w15 ⟨rfl, h15⟩; have H15 : Hid (Rq TA w p rb sl T1 a bx b9 b11 b13 b15 x y w15) := h15; clear h15)
              | (go_at_call 25; refine (C25.out _ H15.out).mono ?_; rintro e w16 ⟨rfl, h16⟩; have H16 : Hid (Rq TA w p rb sl T1 a bx b9 b11 b13 b15 x y w16) := h16; clear h16))
            rename_i hHeld
            clear hHeld
            go_wp2_with fail
            go_roundw
            case rel => exact ⟨m + 1, T1, by omega, by have := HT.out; omega, by go_num, HT1.out, H16.out.rx.pr.more I (Below.refl _ _) (fun _ h => h.elim)⟩
            case measure => simp [intOf]; omega
        · have hws' : (200 : Int) < a.ws.length := by omega
          clear hws
          go_wp2_with fail
          go_ret
          exact ⟨rfl, HPa.out.pr.bel⟩
    · have hml' : ¬ (m : Int) < A.length := by omega
      clear hml hm6 hT
      go_wp2_with fail
      go_ret
      exact ⟨rfl, HP.out.bel⟩
end Go.Proofs.Ytknfkpnicjellaa
