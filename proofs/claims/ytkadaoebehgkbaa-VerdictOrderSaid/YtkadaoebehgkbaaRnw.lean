/-
  VerdictRuns, walked.
-/
import Derived.Test.YtkadaoebehgkbaaRun
namespace Go.Proofs.Ytkadaoebehgkbaa
open Go.RowKit
variable {BA : Nat → Nat → (Nat → Prop) → Bk → World → Prop}

theorem heap_on {W W' : World} {b : Nat} {o : Obj} (hb : Below W.heap.size W W') (h : W.heap[b]? = some o) : W'.heap[b]? = some o := by
  rw [hb.block b (Array.getElem?_eq_some_iff.1 h).1]
  exact h
def vbx (x : Vd) : Obj := .cells #[.int .u32 x.c, .int .u32 x.n, .int .u64 x.sp, .int .u32 x.sl, .int .u64 x.ap, .int .u32 x.al, .int .u8 x.pt, .bool x.dn] 37 (0, 0)
theorem ofV_ex (o : Option Vd) : ∃ x f, ofV o = .tuple #[vdV x, .bool f] := by
  cases o
  · exact ⟨_, _, rfl⟩
  · exact ⟨_, _, rfl⟩
theorem rx_ofP (I : Ifv BA) {w W : World} {p rb bx : Nat} {K : Bk} {a : Ac} (h : Rx BA w p rb K K a bx W) (hv : RgV a.v) : Calls Try.prog 15 #[.pointer (some ⟨p, 0, none⟩), .agg #[.int .u32 a.v.c, .int .u32 a.v.n]] W fun e w' => e = .returned (ofV (getB a.v.c a.v.n K)) ∧ Rx BA w p rb K K a bx w' ∧ Below W.heap.size W w' := by
  refine (pr_ofP I a.v.c a.v.n h.pr ⟨hv.c, hv.n⟩).mono ?_
  rintro e w' ⟨rfl, hb⟩
  exact ⟨rfl, h.on I hb, hb⟩
theorem rx_ofD (I : Ifv BA) {w W : World} {p rb bx : Nat} {K : Bk} {a : Ac} (h : Rx BA w p rb K K a bx W) (hl : K.length < 8900) : Calls Try.prog 16 #[.pointer (some ⟨rb, 0, none⟩), .agg #[.int .u32 a.v.c, .int .u32 a.v.n]] W fun e w' => e = .returned (ofV (getB a.v.c a.v.n K)) ∧ Rx BA w p rb K K a bx w' ∧ Below W.heap.size W w' := by
  refine (pr_ofD a.v.c a.v.n h.pr hl).mono ?_
  rintro e w' ⟨rfl, hb⟩
  exact ⟨rfl, h.on I hb, hb⟩
/-- Behind the switch: the act, the two answers of Of. -/
structure Rq (BA : Nat → Nat → (Nat → Prop) → Bk → World → Prop) (w : World) (p rb : Nat) (sl : Value) (K : Bk) (a : Ac) (bx b7 b9 : Nat) (x : Vd) (W : World) : Prop where
  rx : Rx BA w p rb K K a bx W
  rt : ∃ B, RbAt B rb sl K W
  i7 : W.heap[b7]? = some (vbx x)
  i9 : W.heap[b9]? = some (vbx x)
theorem Rq.on (I : Ifv BA) {w W : World} {p rb bx b7 b9 : Nat} {sl : Value} {K : Bk} {a : Ac} {x : Vd} {W' : World} (h : Rq BA w p rb sl K a bx b7 b9 x W) (hb : Below W.heap.size W W') : Rq BA w p rb sl K a bx b7 b9 x W' := by
  obtain ⟨B, hr⟩ := h.rt
  exact ⟨h.rx.on I hb, ⟨B, hr.on hb⟩, heap_on hb h.i7, heap_on hb h.i9⟩
theorem Rq.dr (I : Ifv BA) {w W : World} {p rb bx b7 b9 : Nat} {sl : Value} {K : Bk} {a : Ac} {x : Vd} (h : Rq BA w p rb sl K a bx b7 b9 x W) : Rq BA w p rb sl K a bx b7 b9 x W.drew := h.on I (Below.refl _ _).drew
theorem Rq.lst {w W : World} {p rb bx b7 b9 : Nat} {sl : Value} {K : Bk} {a : Ac} {x : Vd} (h : Rq BA w p rb sl K a bx b7 b9 x W) : W.cell? ⟨rb, 0, none⟩ = some sl := by
  obtain ⟨B, hr⟩ := h.rt
  exact hr.cell
theorem Rq.all {w W : World} {p rb bx b7 b9 : Nat} {sl : Value} {K : Bk} {a : Ac} {x : Vd} (h : Rq BA w p rb sl K a bx b7 b9 x W) : W.cell? ⟨b7, 0, none⟩ = some (.int .u32 x.c) ∧ W.cell? ⟨b7, 1, none⟩ = some (.int .u32 x.n) ∧ W.cell? ⟨b7, 2, none⟩ = some (.int .u64 x.sp) ∧ W.cell? ⟨b7, 3, none⟩ = some (.int .u32 x.sl) ∧ W.cell? ⟨b7, 4, none⟩ = some (.int .u64 x.ap) ∧ W.cell? ⟨b7, 5, none⟩ = some (.int .u32 x.al) ∧ W.cell? ⟨b7, 6, none⟩ = some (.int .u8 x.pt) ∧ W.cell? ⟨b7, 7, none⟩ = some (.bool x.dn) ∧ W.cell? ⟨b9, 0, none⟩ = some (.int .u32 x.c) ∧ W.cell? ⟨b9, 1, none⟩ = some (.int .u32 x.n) ∧ W.cell? ⟨b9, 2, none⟩ = some (.int .u64 x.sp) ∧ W.cell? ⟨b9, 3, none⟩ = some (.int .u32 x.sl) ∧ W.cell? ⟨b9, 4, none⟩ = some (.int .u64 x.ap) ∧ W.cell? ⟨b9, 5, none⟩ = some (.int .u32 x.al) ∧ W.cell? ⟨b9, 6, none⟩ = some (.int .u8 x.pt) ∧ W.cell? ⟨b9, 7, none⟩ = some (.bool x.dn) ∧ W.cell? ⟨rb, 0, none⟩ = some sl :=
  ⟨block_cell h.i7 rfl, block_cell h.i7 rfl, block_cell h.i7 rfl, block_cell h.i7 rfl, block_cell h.i7 rfl, block_cell h.i7 rfl, block_cell h.i7 rfl, block_cell h.i7 rfl, block_cell h.i9 rfl, block_cell h.i9 rfl, block_cell h.i9 rfl, block_cell h.i9 rfl, block_cell h.i9 rfl, block_cell h.i9 rfl, block_cell h.i9 rfl, block_cell h.i9 rfl, h.lst⟩
theorem rq_all (I : Ifv BA) {w W : World} {p rb bx b7 b9 : Nat} {sl : Value} {K : Bk} {a : Ac} {x : Vd} (h : Rq BA w p rb sl K a bx b7 b9 x W) : Calls Try.prog 18 #[.pointer (some ⟨p, 0, none⟩)] W fun e w' => ∃ v', e = .returned v' ∧ VsAt w'.heap.size v' K w' ∧ Rq BA w p rb sl K a bx b7 b9 x w' := by
  refine (pr_allP I h.rx.pr).mono ?_
  rintro e w' ⟨v', rfl, h1, hb⟩
  exact ⟨v', rfl, h1, h.on I hb⟩
theorem rq_list (I : Ifv BA) {w W : World} {p rb bx b7 b9 : Nat} {sl : Value} {K : Bk} {a : Ac} {x : Vd} {va : Value} (h : Rq BA w p rb sl K a bx b7 b9 x W) (ha : VsAt W.heap.size va K W) : Calls Try.prog 17 #[va, sl] W fun e w' => e = .returned (.bool true) ∧ Rq BA w p rb sl K a bx b7 b9 x w' := by
  obtain ⟨B, hr⟩ := h.rt
  refine (same17 _ _ K va sl W ha hr.is).mono ?_
  rintro e w' ⟨rfl, h1⟩
  exact ⟨rfl, h.on I h1⟩

set_option maxHeartbeats 6400000 in
set_option maxRecDepth 100000 in
theorem runs3 (I : Ifv BA) (B : Nat) (A : List Ac) (va : Value) (w : World) (hv : AcsAt B va A w) (hB : B ≤ w.heap.size) : Calls Try.prog 3 #[va] w fun e w' => e = .returned (.bool true) ∧ Below w.heap.size w w' := by
  obtain ⟨ao, cap, rfl, hlc, hcm⟩ := hv.shape
  have CA : Hid (∀ W : World, 1 = 1 → Calls Try.prog 7 #[] W fun e w' => e = .returned (.bool true) ∧ Below W.heap.size W w') := fun W _ => awake7 I W
  have CN : Hid (∀ W, Below w.heap.size w W → _) := fun W hW => pz_new I (F := fun _ => False) hW (fun _ h => h.elim)
  have HEl : Hid (∀ W, Below w.heap.size w W → ∀ i, i < A.length → ∃ b off, ao = some ⟨b, off, none⟩ ∧ AcAt W b (off + i * 12) (A.getD i da)) := fun W hW i hi => (hv.on (hW.mono hB)).el hi
  have HOk : Hid (∀ i, i < A.length → AcOk B (A.getD i da) w) := fun i hi => hv.2 _ (getD_memA hi)
  have HB : Hid (B ≤ w.heap.size) := hB
  have hA9 : A.length < 9223372036854775808 := by omega
  clear hv hB hlc hcm
  go_enter Try.func3, Try.ntmps3
  go_wp2_with fail
  refine (CA.out _ (by trivial)).mono ?_
  rintro e w1 ⟨rfl, hb⟩
  have H1 : Hid (Below w.heap.size w w1) := hb
  clear hb CA
  go_wp2_with fail
  refine (CN.out _ H1.out).mono ?_
  rintro e w2 ⟨p, rfl, h2, -⟩
  have H2 : Hid (Pr BA w p w2.heap.size [] [] (fun _ => False) (w2.alloc (.cells #[.slice none 0 0] 29))) := pr_start I h2
  clear h2 CN H1
  go_wp2_with fail
  obtain ⟨W2, hW2⟩ : ∃ W2, w2.alloc (.cells #[.slice none 0 0] 29) = W2 := ⟨_, rfl⟩
  rw [hW2] at H2 ⊢
  clear hW2
  obtain ⟨rb, hrb⟩ : ∃ rb, w2.heap.size = rb := ⟨_, rfl⟩
  rw [hrb] at H2 ⊢
  clear hrb
  go_loopw [18] (fun i wr => ∃ (m : Nat) (K : Bk), m ≤ A.length ∧ m ≤ 150 ∧ i = .int .i64 m ∧ K.length ≤ m ∧ Pr BA w p rb K K (fun _ => False) wr) (fun i _ => A.length - (intOf i).toNat)
  case atStart => exact ⟨0, [], Nat.zero_le _, by omega, rfl, by simp, H2.out⟩
  case round =>
    obtain ⟨m, K, hm, hm6, rfl, hK, hpr⟩ := hrel
    have HP : Hid (Pr BA w p rb K K (fun _ => False) wr) := hpr
    clear hpr H2
    by_cases hml : m < A.length
    · have hml' : (m : Int) < A.length := by omega
      obtain ⟨b, off, rfl, e0, e1, e2, e3, e4, e5, e6, e7, e8, e9, e10, e11⟩ := HEl.out wr HP.out.bel m hml
      have HAc : Hid _ := HOk.out m hml
      generalize A.getD m da = a at *
      have HPa : Hid (Rx BA w p rb K K a wr.heap.size (wr.alloc (abx a))) := ⟨HP.out.more I (al _) (fun k hk => .inr ⟨by omega, by rw [hk]; simp⟩), heap_alloc_new wr _⟩
      simp only [abx] at HPa
      by_cases h150 : m = 150
      · have h60 : ((m : Int) == 150) = true := by simp; omega
        clear h150 hm6 hK
        go_wp2_with fail
        go_ret
        exact ⟨rfl, HPa.out.pr.bel⟩
      · have h60 : ((m : Int) == 150) = false := by simp; omega
        have HT : Hid (K.length ≤ m ∧ m < 150) := ⟨hK, by omega⟩
        have hKl : K.length < 2000 := by have := HT.out; omega
        clear h150 hm6 hK
        go_upto_block 2 with fail
        obtain ⟨W4, hW4⟩ : ∃ W4, wr.alloc (.cells #[.int .i64 a.what, .int .u32 a.v.c, .int .u32 a.v.n, .int .u64 a.v.sp, .int .u32 a.v.sl, .int .u64 a.v.ap, .int .u32 a.v.al, .int .u8 a.v.pt, .bool a.v.dn, .int .u64 a.sp, .int .u32 a.sl, .slice a.ka a.keep.length a.kc] 40) = W4 := ⟨_, rfl⟩
        rw [hW4] at HPa ⊢
        clear hW4
        obtain ⟨bx, hbx⟩ : ∃ bx, wr.heap.size = bx := ⟨_, rfl⟩
        rw [hbx] at HPa ⊢
        clear hbx e0 e1 e2 e3 e4 e5 e6 e7 e8 e9 e10 e11 HP
        have HX : Hid (Rx BA w p rb K K a bx W4) := HPa.out
        clear HPa
        go_cut [] from 27 to 65 (fun wc => ∃ K' : Bk, K'.length ≤ m + 1 ∧ Rx BA w p rb K' K' a bx wc)
        case first =>
          by_cases hw0 : a.what = 0
          · have q0 : (a.what == 0) = true := by simp [hw0]
            have CP : Hid (∀ W, Rx BA w p rb K K a bx W → _) := fun W h => rx_setP I h (by omega) HAc.out.rg
            have CD : Hid (∀ W, Rx BA w p rb (setB a.v K).1 K a bx W → _) := fun W h => rx_setD I h (by omega)
            have HLn : (setB a.v K).1.length ≤ K.length + 1 := set_len a.v K
            generalize (setB a.v K).1 = K1 at *
            generalize (setB a.v K).2 = z at *
            clear hw0
            go_upto_region 10 with fail
            go_region_held3 (fun W => W.cell? ⟨bx, 1, none⟩ = some (.int .u32 a.v.c) ∧ W.cell? ⟨bx, 2, none⟩ = some (.int .u32 a.v.n) ∧ W.cell? ⟨bx, 3, none⟩ = some (.int .u64 a.v.sp) ∧ W.cell? ⟨bx, 4, none⟩ = some (.int .u32 a.v.sl) ∧ W.cell? ⟨bx, 5, none⟩ = some (.int .u64 a.v.ap) ∧ W.cell? ⟨bx, 6, none⟩ = some (.int .u32 a.v.al) ∧ W.cell? ⟨bx, 7, none⟩ = some (.int .u8 a.v.pt) ∧ W.cell? ⟨bx, 8, none⟩ = some (.bool a.v.dn))
              (with_reducible first | exact Rx.eight (Rx.dr I HX.out) | exact Rx.eight HX.out | exact Rx.eight H5.out | exact Rx.eight H6.out)
              (first
              | (go_at_call 9; refine (CP.out _ (Rx.dr I HX.out)).mono ?_; rintro e w5 ⟨rfl, h5⟩; have H5 : Hid (Rx BA w p rb K1 K a bx w5) := h5; clear h5)
              | (go_at_call 10; refine (CD.out _ H5.out).mono ?_; rintro e w6 ⟨rfl, h6⟩; have H6 : Hid (Rx BA w p rb K1 K1 a bx w6) := h6; clear h6))
            rename_i hHeld
            clear hHeld
            go_wp2_with fail
            go_meet
            exact ⟨K1, by have := HT.out; omega, H6.out⟩
          · have q0 : (a.what == 0) = false := by simpa using hw0
            by_cases hw1 : a.what = 1
            · have q1 : (a.what == 1) = true := by simp [hw1]
              have CP : Hid (∀ W, Rx BA w p rb K K a bx W → _) := fun W h => rx_doneP I h HAc.out.rg
              have CD : Hid (∀ W, Rx BA w p rb (doneB a.v.c a.v.n K).1 K a bx W → _) := fun W h => rx_doneD I h (by omega)
              have HLn : (doneB a.v.c a.v.n K).1.length ≤ K.length + 1 := by rw [doneB_len]; omega
              generalize (doneB a.v.c a.v.n K).1 = K1 at *
              generalize (doneB a.v.c a.v.n K).2 = z at *
              clear hw0 hw1
              go_upto_region 13 with fail
              go_region_held3 (fun W => W.cell? ⟨bx, 1, none⟩ = some (.int .u32 a.v.c) ∧ W.cell? ⟨bx, 2, none⟩ = some (.int .u32 a.v.n))
                (with_reducible first | exact Rx.two (Rx.dr I HX.out) | exact Rx.two HX.out | exact Rx.two H5.out | exact Rx.two H6.out)
                (first
                | (go_at_call 11; refine (CP.out _ (Rx.dr I HX.out)).mono ?_; rintro e w5 ⟨rfl, h5⟩; have H5 : Hid (Rx BA w p rb K1 K a bx w5) := h5; clear h5)
                | (go_at_call 12; refine (CD.out _ H5.out).mono ?_; rintro e w6 ⟨rfl, h6⟩; have H6 : Hid (Rx BA w p rb K1 K1 a bx w6) := h6; clear h6))
              rename_i hHeld
              clear hHeld
              go_wp2_with fail
              go_meet
              exact ⟨K1, by have := HT.out; omega, H6.out⟩
            · have q1 : (a.what == 1) = false := by simpa using hw1
              by_cases hw2 : a.what = 2
              · have q2 : (a.what == 2) = true := by simp [hw2]
                have CP : Hid (∀ W, Rx BA w p rb K K a bx W → _) := fun W h => rx_retP I h HAc.out HB.out
                have CD : Hid (∀ W, Rx BA w p rb (retB a.sp a.sl a.keep K) K a bx W → _) := fun W h => rx_retD I h (by omega) HAc.out HB.out
                have HLn : (retB a.sp a.sl a.keep K).length ≤ K.length + 1 := Nat.le_succ_of_le (ret_len _ _ _ _)
                generalize (retB a.sp a.sl a.keep K) = K1 at *
                generalize ((K.length - K1.length : Nat) : Int) = z at *
                clear hw0 hw1 hw2
                go_upto_region 16 with fail
                go_region_held3 (fun W => W.cell? ⟨bx, 9, none⟩ = some (.int .u64 a.sp) ∧ W.cell? ⟨bx, 10, none⟩ = some (.int .u32 a.sl) ∧ W.cell? ⟨bx, 11, none⟩ = some (.slice a.ka a.keep.length a.kc))
                  (with_reducible first | exact Rx.three (Rx.dr I HX.out) | exact Rx.three HX.out | exact Rx.three H5.out | exact Rx.three H6.out)
                  (first
                  | (go_at_call 13; refine (CP.out _ (Rx.dr I HX.out)).mono ?_; rintro e w5 ⟨rfl, h5⟩; have H5 : Hid (Rx BA w p rb K1 K a bx w5) := h5; clear h5)
                  | (go_at_call 14; refine (CD.out _ H5.out).mono ?_; rintro e w6 ⟨rfl, h6⟩; have H6 : Hid (Rx BA w p rb K1 K1 a bx w6) := h6; clear h6))
                rename_i hHeld
                clear hHeld
                go_wp2_with fail
                go_meet
                exact ⟨K1, by have := HT.out; omega, H6.out⟩
              · have q2 : (a.what == 2) = false := by simpa using hw2
                clear hw0 hw1 hw2
                go_wp2_with fail
                go_meet
                exact ⟨K, by have := HT.out; omega, HX.out⟩
        case rest =>
          obtain ⟨K1, hK1, hx1⟩ := hcut
          have HX1 : Hid (Rx BA w p rb K1 K1 a bx wc) := hx1
          have HT1 : Hid (K1.length ≤ m + 1) := hK1
          have hl1 : K1.length < 8900 := by have := HT.out; omega
          clear hK1 hx1 HX
          have C15 : Hid (∀ W, Rx BA w p rb K1 K1 a bx W → _) := fun W h => rx_ofP I h HAc.out.rg
          have C16 : Hid (∀ W, Rx BA w p rb K1 K1 a bx W → _) := fun W h => rx_ofD I h hl1
          obtain ⟨x, xf, hxf⟩ := ofV_ex (getB a.v.c a.v.n K1)
          rw [hxf] at C15 C16
          simp only [vdV] at C15 C16
          clear hxf
          obtain ⟨x1, x2⟩ := HX1.out.two
          go_wp2_with fail
          refine (C15.out _ HX1.out).mono ?_
          rintro e w5 ⟨rfl, h5, hb5⟩
          have H5 : Hid (Rx BA w p rb K1 K1 a bx (w5.alloc (vbx x)) ∧ (w5.alloc (vbx x)).heap[w5.heap.size]? = some (vbx x)) := ⟨h5.on I (al _), heap_alloc_new w5 _⟩
          clear h5 hb5 C15 HX1 x1 x2
          simp only [vbx] at H5
          obtain ⟨x1, x2⟩ := H5.out.1.two
          go_wp2_with fail
          obtain ⟨W5, hW5⟩ : ∃ W5, w5.alloc (.cells #[.int .u32 x.c, .int .u32 x.n, .int .u64 x.sp, .int .u32 x.sl, .int .u64 x.ap, .int .u32 x.al, .int .u8 x.pt, .bool x.dn] 37) = W5 := ⟨_, rfl⟩
          rw [hW5] at H5 ⊢
          clear hW5
          obtain ⟨b7, hb7⟩ : ∃ b7, w5.heap.size = b7 := ⟨_, rfl⟩
          rw [hb7] at H5 ⊢
          clear hb7
          refine (C16.out _ H5.out.1).mono ?_
          rintro e w6 ⟨rfl, h6, hb6⟩
          have H8 : Hid (∃ sl, Rq BA w p rb sl K1 a bx b7 w6.heap.size x (w6.alloc (vbx x))) := by
            have h9 := h6.on I (al (vbx x))
            obtain ⟨B1, sl, _, hr, _⟩ := h9.pr.ex
            exact ⟨sl, h9, ⟨B1, hr⟩, heap_on (al _) (heap_on hb6 H5.out.2), heap_alloc_new w6 _⟩
          clear h6 hb6 C16 H5 x1 x2
          simp only [vbx] at H8
          obtain ⟨sl, h8⟩ := H8.out
          have H9 : Hid _ := h8
          clear H8 h8
          go_upto_region 20 with fail
          obtain ⟨W8, hW8⟩ : ∃ W8, w6.alloc (.cells #[.int .u32 x.c, .int .u32 x.n, .int .u64 x.sp, .int .u32 x.sl, .int .u64 x.ap, .int .u32 x.al, .int .u8 x.pt, .bool x.dn] 37) = W8 := ⟨_, rfl⟩
          rw [hW8] at H9 ⊢
          clear hW8
          obtain ⟨b9, hb9⟩ : ∃ b9, w6.heap.size = b9 := ⟨_, rfl⟩
          rw [hb9] at H9 ⊢
          clear hb9
          have C18 : Hid (∀ W, Rq BA w p rb sl K1 a bx b7 b9 x W → _) := fun W h => rq_all I h
          have C17 : Hid (∀ W va, Rq BA w p rb sl K1 a bx b7 b9 x W → VsAt W.heap.size va K1 W → _) := fun W va h ha => rq_list (va := va) I h ha
          have hq1 := run_neq37 x
          clear hl1
          go_region_held3 (fun W => W.cell? ⟨b7, 0, none⟩ = some (.int .u32 x.c) ∧ W.cell? ⟨b7, 1, none⟩ = some (.int .u32 x.n) ∧ W.cell? ⟨b7, 2, none⟩ = some (.int .u64 x.sp) ∧ W.cell? ⟨b7, 3, none⟩ = some (.int .u32 x.sl) ∧ W.cell? ⟨b7, 4, none⟩ = some (.int .u64 x.ap) ∧ W.cell? ⟨b7, 5, none⟩ = some (.int .u32 x.al) ∧ W.cell? ⟨b7, 6, none⟩ = some (.int .u8 x.pt) ∧ W.cell? ⟨b7, 7, none⟩ = some (.bool x.dn) ∧ W.cell? ⟨b9, 0, none⟩ = some (.int .u32 x.c) ∧ W.cell? ⟨b9, 1, none⟩ = some (.int .u32 x.n) ∧ W.cell? ⟨b9, 2, none⟩ = some (.int .u64 x.sp) ∧ W.cell? ⟨b9, 3, none⟩ = some (.int .u32 x.sl) ∧ W.cell? ⟨b9, 4, none⟩ = some (.int .u64 x.ap) ∧ W.cell? ⟨b9, 5, none⟩ = some (.int .u32 x.al) ∧ W.cell? ⟨b9, 6, none⟩ = some (.int .u8 x.pt) ∧ W.cell? ⟨b9, 7, none⟩ = some (.bool x.dn) ∧ W.cell? ⟨rb, 0, none⟩ = some sl)
            (with_reducible first | exact Rq.all (Rq.dr I H9.out) | exact Rq.all H9.out | exact Rq.all H10.out.2 | exact Rq.all H11.out)
            (first
            | (go_at_call 18; refine (C18.out _ (Rq.dr I H9.out)).mono ?_; rintro e w10 ⟨v10, rfl, h10⟩; have H10 : Hid (VsAt w10.heap.size v10 K1 w10 ∧ Rq BA w p rb sl K1 a bx b7 b9 x w10) := h10; clear h10)
            | (go_at_call 17; refine (C17.out _ v10 H10.out.2 H10.out.1).mono ?_; rintro e w11 ⟨rfl, h11⟩; have H11 : Hid (Rq BA w p rb sl K1 a bx b7 b9 x w11) := h11; clear h11))
          rename_i hHeld
          clear hHeld
          go_wp2_with fail
          go_roundw
          case rel => exact ⟨m + 1, K1, by omega, by have := HT.out; omega, by go_num, HT1.out, H11.out.rx.pr.more I (Below.refl _ _) (fun _ h => h.elim)⟩
          case measure => simp [intOf]; omega
    · have hml' : ¬ (m : Int) < A.length := by omega
      clear hml hm6 hK
      go_wp2_with fail
      go_ret
      exact ⟨rfl, HP.out.bel⟩
end Go.Proofs.Ytkadaoebehgkbaa
