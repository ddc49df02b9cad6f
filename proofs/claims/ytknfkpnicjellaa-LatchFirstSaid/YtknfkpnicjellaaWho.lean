/-
  LatchWhole, walked.
-/
import Derived.Test.YtknfkpnicjellaaAct
namespace Go.Proofs.Ytknfkpnicjellaa
open Go.RowKit
variable {TA : Nat → Nat → (Nat → Prop) → Tb → World → Prop}

/-- The table, and an act in its box. -/
structure Pa (TA : Nat → Nat → (Nat → Prop) → Tb → World → Prop) (w : World) (p : Nat) (T : Tb) (a : Ac) (bx : Nat) (W : World) : Prop where
  pz : Pz TA w p T (fun k => k = bx) W
  b0 : W.heap[bx]? = some (abx a)
theorem Pa.on (I : Ifl TA) {w W W' : World} {p bx : Nat} {T : Tb} {a : Ac} (h : Pa TA w p T a bx W) (hb : Below W.heap.size W W') : Pa TA w p T a bx W' := ⟨h.pz.on I hb, by rw [hb.block _ (Array.getElem?_eq_some_iff.1 h.b0).1]; exact h.b0⟩
theorem Pa.begin (I : Ifl TA) {w W : World} {p : Nat} {T : Tb} {F : Nat → Prop} (a : Ac) (h : Pz TA w p T F W) : Pa TA w p T a W.heap.size (W.alloc (abx a)) := ⟨h.more I (al _) (fun k hk => .inr ⟨by omega, by rw [hk]; simp⟩), heap_alloc_new W _⟩
theorem Pa.ac {w W : World} {p bx : Nat} {T : Tb} {a : Ac} (h : Pa TA w p T a bx W) : AcAt W bx 0 a := ac_box h.b0
theorem Pa.two {w W : World} {p bx : Nat} {T : Tb} {a : Ac} (h : Pa TA w p T a bx W) : W.cell? ⟨bx, 1, none⟩ = some (.int .u32 a.c) ∧ W.cell? ⟨bx, 2, none⟩ = some (.int .u32 a.n) := ⟨block_cell h.b0 rfl, block_cell h.b0 rfl⟩
theorem Pa.out {w W : World} {p bx : Nat} {T : Tb} {a : Ac} (h : Pa TA w p T a bx W) : Pz TA w p T (fun _ => False) W := h.pz.less (fun _ h => h.elim)
abbrev layA (a : Ac) (T : Tb) : Tb × Int := layF (rightB a.sp a.sl && rightB a.mp a.ml && kOk a.prim) a.c a.n a.sp a.sl a.mp a.ml a.prim a.ws T
theorem pa_lay (I : Ifl TA) {w W : World} {p bx : Nat} {T : Tb} {a : Ac} {B : Nat} (h : Pa TA w p T a bx W) (hl : T.length < 8900) (ha : AcOk B a w) (hB : B ≤ w.heap.size) : Calls Try.prog 10 #[.pointer (some ⟨p, 0, none⟩), .agg #[.int .u32 a.c, .int .u32 a.n], .agg #[.int .u64 a.sp, .int .u32 a.sl], .agg #[.int .u64 a.mp, .int .u32 a.ml], .string (bs a.prim), .slice a.wa a.ws.length a.wc] W fun e w' => e = .returned (.int .i64 (layA a T).2) ∧ Pa TA w p (layA a T).1 a bx w' := by
  have hv := ha.ws.on (h.pz.bel.mono hB)
  refine (pz_lay I a.c a.n a.sp a.sl a.mp a.ml a.prim a.ws _ h.pz hl (RwAt.le hv (Nat.le_trans hB h.pz.bel.size)) (fun h0 k hk => .inl ?_) ha.st).mono ?_
  · obtain ⟨ao, cap, e, _, h1, _, h3⟩ := hv
    obtain ⟨b, off, e2, h4, _⟩ := h3 (by omega)
    simp only [Value.slice.injEq] at e
    rw [e.1, e2] at hk
    injection hk with hk
    have := h4 h0
    simp only at hk
    omega
  rintro e w' ⟨rfl, h1, h2⟩
  exact ⟨rfl, h1, h2.block (.inl rfl) h.b0⟩
theorem pa_cut (I : Ifl TA) {w W : World} {p bx : Nat} {T : Tb} {a : Ac} (h : Pa TA w p T a bx W) : Calls Try.prog 13 #[.pointer (some ⟨p, 0, none⟩), .agg #[.int .u32 a.c, .int .u32 a.n]] W fun e w' => ∃ ya yc, e = .returned (.slice ya (byF a.c a.n T).length yc) ∧ Pa TA w p (restF a.c a.n T) a bx w' := by
  refine (pz_cut I a.c a.n h.pz).mono ?_
  rintro e w' ⟨v', rfl, hi, _, h1, h2⟩
  obtain ⟨ya, yc, rfl, _⟩ := hi.shape
  exact ⟨ya, yc, rfl, h1, h2.block (.inl rfl) h.b0⟩
theorem pa_by (I : Ifl TA) {w W : World} {p bx : Nat} {T : Tb} {a : Ac} (h : Pa TA w p T a bx W) : Calls Try.prog 21 #[.pointer (some ⟨p, 0, none⟩), .agg #[.int .u32 a.c, .int .u32 a.n]] W fun e w' => ∃ ya yc, e = .returned (.slice ya (byF a.c a.n T).length yc) ∧ Pa TA w p T a bx w' := by
  refine (pz_by I a.c a.n h.pz).mono ?_
  rintro e w' ⟨v', rfl, hi, _, _, hb⟩
  obtain ⟨ya, yc, rfl, _⟩ := hi.shape
  exact ⟨ya, yc, rfl, h.on I hb⟩
theorem pa_all (I : Ifl TA) {w W : World} {p bx : Nat} {T : Tb} {a : Ac} (h : Pa TA w p T a bx W) : Calls Try.prog 23 #[.pointer (some ⟨p, 0, none⟩)] W fun e w' => ∃ ya yc, e = .returned (.slice ya T.length yc) ∧ Pa TA w p T a bx w' := by
  refine (pz_all I h.pz).mono ?_
  rintro e w' ⟨v', rfl, hi, _, _, hb⟩
  obtain ⟨ya, yc, rfl, _⟩ := hi.shape
  exact ⟨ya, yc, rfl, h.on I hb⟩
theorem lay_zero {a : Ac} {T : Tb} (h : (layA a T).2 = 0) : a.ws.length ≤ 16 := by
  rcases lay_cases (rightB a.sp a.sl && rightB a.mp a.ml && kOk a.prim) a.c a.n a.sp a.sl a.mp a.ml a.prim a.ws T with ⟨e, h1, h2⟩ | ⟨_, hr, _⟩
  · rw [show layA a T = (T, e) from h1] at h
    simp only at h
    omega
  · exact (right_parts hr).2.2.2

set_option maxHeartbeats 3200000 in
set_option maxRecDepth 100000 in
theorem whole7 (I : Ifl TA) (B : Nat) (A : List Ac) (v : Value) (w : World) (hv : AcsAt B v A w) (hB : B ≤ w.heap.size) : Calls Try.prog 7 #[v] w fun e w' => e = .returned (.bool true) ∧ Below w.heap.size w w' := by
  obtain ⟨ao, cap, rfl, hlc, hcm⟩ := hv.shape
  have CA : Hid (1 = 1 → _) := fun _ => awake8 I w
  have CN : Hid (∀ W, Below w.heap.size w W → _) := fun W hW => pz_new I (F := fun _ => False) hW (fun _ h => h.elim)
  have HEl : Hid (∀ W, Below w.heap.size w W → ∀ i, i < A.length → ∃ b off, ao = some ⟨b, off, none⟩ ∧ AcAt W b (off + i * 12) (A.getD i da)) := fun W hW i hi => (hv.on (hW.mono hB)).el hi
  have HOk : Hid (∀ i, i < A.length → AcOk B (A.getD i da) w) := fun i hi => hv.2 _ (getD_memA hi)
  have HB : Hid (B ≤ w.heap.size) := hB
  have hL9 : A.length < 9223372036854775808 := by omega
  clear hv hB hlc hcm
  go_enter Try.func7, Try.ntmps7
  go_wp2_with fail
  refine (CA.out (by trivial)).mono ?_
  rintro e w1 ⟨rfl, hb1⟩
  have H1 : Hid (Below w.heap.size w w1) := hb1
  clear hb1 CA
  go_wp2_with fail
  refine (CN.out _ H1.out).mono ?_
  rintro e w2 ⟨p, rfl, h2, -⟩
  have H2 : Hid (Pz TA w p [] (fun _ => False) w2) := h2
  clear h2 CN H1
  go_wp2_with fail
  go_loopw [15] (fun i wr => ∃ (m : Nat) (T : Tb), m ≤ A.length ∧ m ≤ 60 ∧ i = .int .i64 m ∧ T.length ≤ 16 * m ∧ Pz TA w p T (fun _ => False) wr) (fun i _ => A.length - (intOf i).toNat)
  case atStart => exact ⟨0, [], Nat.zero_le _, by omega, rfl, by simp, H2.out⟩
  case round =>
    obtain ⟨m, T, hm, hm6, rfl, hT, hpz⟩ := hrel
    have HP : Hid (Pz TA w p T (fun _ => False) wr) := hpz
    clear hpz H2
    by_cases hml : m < A.length
    · have hml' : (m : Int) < A.length := by omega
      obtain ⟨b, off, rfl, e0, e1, e2, e3, e4, e5, e6, e7, e8, e9, e10, e11⟩ := HEl.out wr HP.out.bel m hml
      have HAc : Hid _ := HOk.out m hml
      generalize A.getD m da = a at *
      have HPa : Hid (Pa TA w p T a wr.heap.size (wr.alloc (abx a))) := Pa.begin I a HP.out
      simp only [abx] at HPa
      by_cases hm60 : m = 60
      · have h60 : ((m : Int) == 60) = true := by simp; omega
        have HBl : Hid (Below w.heap.size w _) := HPa.out.pz.bel
        clear hm60 hm6 hT
        go_wp2_with fail
        go_ret
        exact ⟨rfl, HBl.out⟩
      · have h60 : ((m : Int) == 60) = false := by simp; omega
        go_wp2_with fail
        obtain ⟨W0, hW0⟩ : ∃ W0, wr.alloc (.cells #[.int .i64 a.what, .int .u32 a.c, .int .u32 a.n, .int .u64 a.sp, .int .u32 a.sl, .int .u64 a.mp, .int .u32 a.ml, .string (bs a.prim), .slice a.wa a.ws.length a.wc, .string (bs a.lo), .string (bs a.hi), .slice a.ba a.but.length a.bc] 39) = W0 := ⟨_, rfl⟩
        rw [hW0] at HPa ⊢
        clear hW0
        obtain ⟨bx, hbx⟩ : ∃ bx, wr.heap.size = bx := ⟨_, rfl⟩
        rw [hbx] at HPa ⊢
        clear hbx e0 e1 e2 e3 e4 e5 e6 e7 e8 e9 e10 e11 HP
        have HT : Hid (T.length ≤ 16 * m ∧ m < 60) := ⟨hT, by omega⟩
        clear hm60 hm6 hT
        have hTl : T.length < 1000 := by have := HT.out; omega
        have hol : (byF a.c a.n T).length < 1000 := by have := len_by a.c a.n T; omega
        have CAl : Hid (∀ T W, Pa TA w p T a bx W → _) := fun T W h => pa_all I h
        have CBy : Hid (∀ T W, Pa TA w p T a bx W → _) := fun T W h => pa_by I h
        obtain ⟨x1, x2⟩ := HPa.out.two
        go_region_held3 (fun W => W.cell? ⟨bx, 1, none⟩ = some (.int .u32 a.c) ∧ W.cell? ⟨bx, 2, none⟩ = some (.int .u32 a.n))
          (first | exact HPa.out.two | exact H3.out.two | exact H4.out.two)
          (first
          | (go_at_call 23; refine (CAl.out T _ (HPa.out.on I (Below.refl _ _).drew)).mono ?_; rintro e w3 ⟨ya, yc, rfl, h3⟩; have H3 : Hid (Pa TA w p T a bx w3) := h3; clear h3)
          | (go_at_call 21; refine (CBy.out T _ H3.out).mono ?_; rintro e w4 ⟨za, zc, rfl, h4⟩; have H4 : Hid (Pa TA w p T a bx w4) := h4; clear h4))
        rename_i hHeld
        clear hHeld x1 x2 HPa H3
        obtain ⟨x0, x1, x2, x3, x4, x5, x6, x7, x8, -, -, -⟩ := H4.out.ac
        simp only [Nat.zero_add] at x0 x1 x2 x3 x4 x5 x6 x7 x8
        have HSl : Hid (∀ W, ∀ {T' : Tb}, Pa TA w p T' a bx W → W.cell? ⟨bx, 8, none⟩ = some (.slice a.wa a.ws.length a.wc)) := fun W _ h => block_cell h.b0 rfl
        by_cases hw : a.what = 0 ∨ a.what = 3
        · have CLy : Hid (1 = 1 → _) := fun _ => pa_lay I H4.out (by omega) HAc.out HB.out
          obtain ⟨hc1, hc2⟩ := lay_counts (r := rightB a.sp a.sl && rightB a.mp a.ml && kOk a.prim) (c := a.c) (n := a.n) (sp := a.sp) (sl := a.sl) (mp := a.mp) (ml := a.ml) (prim := a.prim) (l := a.ws) (Pz.ok I H4.out.pz).srt
          have hz := lay_zero (a := a) (T := T)
          change (layA a T).1.length = T.length + (if (layA a T).2 = 0 then a.ws.length else 0) at hc1
          change (byF a.c a.n (layA a T).1).length = (byF a.c a.n T).length + (if (layA a T).2 = 0 then a.ws.length else 0) at hc2
          have hlen := len_lay (Pz.ok I H4.out.pz) (rightB a.sp a.sl && rightB a.mp a.ml && kOk a.prim) a.c a.n a.sp a.sl a.mp a.ml a.prim a.ws
          change (layA a T).1.length ≤ T.length + 16 at hlen
          have HLn : Hid ((layA a T).1.length ≤ T.length + 16) := hlen
          clear hlen
          generalize layA a T = Y at *
          obtain ⟨T1, er⟩ := Y
          dsimp only at CLy hc1 hc2 hz HLn
          have harm : (a.what == 0) = true ∨ (a.what == 0) = false ∧ (a.what == 3) = true := by
            rcases hw with e | e
            · exact .inl (by simp [e])
            · exact .inr ⟨by simp [e], by simp [e]⟩
          clear hw
          have CA1 : Hid (∀ W, Pa TA w p T1 a bx W → Calls Try.prog 23 #[.pointer (some ⟨p, 0, none⟩)] W fun e w' => ∃ ya yc, e = .returned (.slice ya T1.length yc) ∧ Pa TA w p T1 a bx w') := fun W h => pa_all I h
          have CB1 : Hid (∀ W, Pa TA w p T1 a bx W → Calls Try.prog 21 #[.pointer (some ⟨p, 0, none⟩), .agg #[.int .u32 a.c, .int .u32 a.n]] W fun e w' => ∃ ya yc, e = .returned (.slice ya (byF a.c a.n T1).length yc) ∧ Pa TA w p T1 a bx w') := fun W h => pa_by I h
          have HRel : Hid (∀ W, Pa TA w p T1 a bx W → ∃ (k : Nat) (T' : Tb), k ≤ A.length ∧ k ≤ 60 ∧ (Value.int .i64 ((m + 1 : Nat) : Int)) = .int .i64 k ∧ T'.length ≤ 16 * k ∧ Pz TA w p T' (fun _ => False) W) := fun W h => ⟨m + 1, T1, by omega, by have := HT.out; omega, rfl, by have := HT.out; have := HLn.out; omega, h.out⟩
          generalize hn1 : T1.length = n1 at *
          generalize ho1 : (byF a.c a.n T1).length = o1 at *
          generalize T.length = n0 at *
          generalize (byF a.c a.n T).length = o0 at *
          clear hn1 ho1
          by_cases her : er = 0
          · rw [if_pos her] at hc1 hc2
            have hws := hz her
            subst her
            clear hz
            generalize hmo : a.ws.length = mo at *
            clear hmo
            have hwr1 : IntKind.i64.wrap ((n0 : Int) + mo) = (n0 : Int) + mo := by simp [IntKind.wrap, IntKind.bits, IntKind.signed]; omega
            have hwr2 : IntKind.i64.wrap ((o0 : Int) + mo) = (o0 : Int) + mo := by simp [IntKind.wrap, IntKind.bits, IntKind.signed]; omega
            have hq1 : ((n1 : Int) != (n0 : Int) + mo) = false := by simp; omega
            have hq2 : ((o1 : Int) != (o0 : Int) + mo) = false := by simp; omega
            clear hc1 hc2
            rcases harm with q0 | ⟨q0, q3⟩
            all_goals
              go_wp2_with fail
              refine (CLy.out (by trivial)).mono ?_
              rintro e w5 ⟨rfl, h5⟩
              have H5 : Hid (Pa TA w p T1 a bx w5) := h5
              clear h5 CLy x0 x1 x2 x3 x4 x5 x6 x7 x8 H4
              have y8 : w5.cell? ⟨bx, 8, none⟩ = some (.slice a.wa mo a.wc) := HSl.out w5 H5.out
              go_wp2_with fail
              refine (CA1.out _ H5.out).mono ?_
              rintro e w6 ⟨ya6, yc6, rfl, h6⟩
              have H6 : Hid (Pa TA w p T1 a bx w6) := h6
              clear h6 y8 H5
              obtain ⟨x1, x2⟩ := H6.out.two
              go_wp2_with fail
              refine (CB1.out _ H6.out).mono ?_
              rintro e w7 ⟨ya7, yc7, rfl, h7⟩
              have H7 : Hid (Pa TA w p T1 a bx w7) := h7
              clear h7 H6 x1 x2
              go_wp2_with fail
              go_roundw
              case rel => exact HRel.out _ H7.out
              case measure => simp [intOf]; omega
          · rw [if_neg her] at hc1 hc2
            have he : (er == 0) = false := by simpa using her
            clear hz her
            have hq1 : ((n1 : Int) != (n0 : Int)) = false := by simp; omega
            have hq2 : ((o1 : Int) != (o0 : Int)) = false := by simp; omega
            clear hc1 hc2
            rcases harm with q0 | ⟨q0, q3⟩
            all_goals
              go_wp2_with fail
              refine (CLy.out (by trivial)).mono ?_
              rintro e w5 ⟨rfl, h5⟩
              have H5 : Hid (Pa TA w p T1 a bx w5) := h5
              clear h5 CLy x0 x1 x2 x3 x4 x5 x6 x7 x8 H4
              go_wp2_with fail
              refine (CA1.out _ H5.out).mono ?_
              rintro e w6 ⟨ya6, yc6, rfl, h6⟩
              have H6 : Hid (Pa TA w p T1 a bx w6) := h6
              clear h6 H5
              obtain ⟨x1, x2⟩ := H6.out.two
              go_wp2_with fail
              refine (CB1.out _ H6.out).mono ?_
              rintro e w7 ⟨ya7, yc7, rfl, h7⟩
              have H7 : Hid (Pa TA w p T1 a bx w7) := h7
              clear h7 H6 x1 x2
              go_wp2_with fail
              go_roundw
              case rel => exact HRel.out _ H7.out
              case measure => simp [intOf]; omega
        · by_cases hw1 : a.what = 1
          · have CCt : Hid (1 = 1 → _) := fun _ => pa_cut I H4.out
            have hbr := by_rest a.c a.n T
            have CA1 : Hid (∀ W, Pa TA w p (restF a.c a.n T) a bx W → Calls Try.prog 23 #[.pointer (some ⟨p, 0, none⟩)] W fun e w' => ∃ ya yc, e = .returned (.slice ya (restF a.c a.n T).length yc) ∧ Pa TA w p (restF a.c a.n T) a bx w') := fun W h => pa_all I h
            have CB1 : Hid (∀ W, Pa TA w p (restF a.c a.n T) a bx W → Calls Try.prog 21 #[.pointer (some ⟨p, 0, none⟩), .agg #[.int .u32 a.c, .int .u32 a.n]] W fun e w' => ∃ ya yc, e = .returned (.slice ya 0 yc) ∧ Pa TA w p (restF a.c a.n T) a bx w') := fun W h => by
              have := pa_by I h
              rw [by_after] at this
              exact this
            have HRel : Hid (∀ W, Pa TA w p (restF a.c a.n T) a bx W → ∃ (k : Nat) (T' : Tb), k ≤ A.length ∧ k ≤ 60 ∧ (Value.int .i64 ((m + 1 : Nat) : Int)) = .int .i64 k ∧ T'.length ≤ 16 * k ∧ Pz TA w p T' (fun _ => False) W) := fun W h => ⟨m + 1, _, by omega, by have := HT.out; omega, rfl, by have := HT.out; omega, h.out⟩
            generalize restF a.c a.n T = T1 at *
            generalize T1.length = n1 at *
            generalize T.length = n0 at *
            generalize (byF a.c a.n T).length = o0 at *
            have q0 : (a.what == 0) = false := by simp; omega
            have q3 : (a.what == 3) = false := by simp; omega
            have q1 : (a.what == 1) = true := by simp; omega
            have hwr1 : IntKind.i64.wrap ((n0 : Int) - o0) = (n0 : Int) - o0 := by simp [IntKind.wrap, IntKind.bits, IntKind.signed]; omega
            have hq1 : ((n1 : Int) != (n0 : Int) - o0) = false := by simp; omega
            clear hw hw1 hbr
            go_wp2_with fail
            refine (CCt.out (by trivial)).mono ?_
            rintro e w5 ⟨ya5, yc5, rfl, h5⟩
            have H5 : Hid (Pa TA w p T1 a bx w5) := h5
            clear h5 CCt x0 x1 x2 x3 x4 x5 x6 x7 x8 H4
            go_wp2_with fail
            refine (CA1.out _ H5.out).mono ?_
            rintro e w6 ⟨ya6, yc6, rfl, h6⟩
            have H6 : Hid (Pa TA w p T1 a bx w6) := h6
            clear h6 H5
            obtain ⟨x1, x2⟩ := H6.out.two
            go_wp2_with fail
            refine (CB1.out _ H6.out).mono ?_
            rintro e w7 ⟨ya7, yc7, rfl, h7⟩
            have H7 : Hid (Pa TA w p T1 a bx w7) := h7
            clear h7 H6 x1 x2
            go_wp2_with fail
            go_roundw
            case rel => exact HRel.out _ H7.out
            case measure => simp [intOf]; omega
          · have q0 : (a.what == 0) = false := by simp; omega
            have q3 : (a.what == 3) = false := by simp; omega
            have q1 : (a.what == 1) = false := by simp; omega
            clear hw hw1
            go_wp2_with fail
            go_roundw
            case rel => exact ⟨m + 1, T, by omega, by have := HT.out; omega, by go_num, by have := HT.out; omega, H4.out.out⟩
            case measure => simp [intOf]; omega
    · have hml' : ¬ (m : Int) < A.length := by omega
      go_wp2_with fail
      go_ret
      exact ⟨rfl, HP.out.bel⟩
end Go.Proofs.Ytknfkpnicjellaa
