/-
  EntryWrites, walked.
-/
import Derived.Test.YtmgjlpgjjeknpaaLb
import Derived.Test.YtmgjlpgjjeknpaaWy
namespace Go.Proofs.Ytmgjlpgjjeknpaa
open Go.RowKit Go.Sort

/-- With its first hundred writes alone. -/
def cutW (e : En) : En := { e with ws := e.ws.take 100 }
theorem cutW_ok {e : En} (h : EnOk e) : EnOk (cutW e) ∧ (cutW e).ws.length ≤ 100 := by
  have hl : (e.ws.take 100).length ≤ 100 := List.length_take_le _ _
  exact ⟨⟨⟨h.rg.c, h.rg.n, h.rg.pt⟩, h.k, h.sp, h.ap, h.mp, h.prim, by show (e.ws.take 100).length ≤ _; omega, fun x hx => h.ws x (List.mem_of_mem_take hx)⟩, hl⟩
theorem cutW_eb {w W : World} {b : Nat} {e : En} {ao : Option Addr} {cp : Nat} (h : Eb w b e ao cp W) (hl : 100 < e.ws.length) (hb : w.heap.size ≤ b) : Eb w b (cutW e) ao cp (W.setCell ⟨b, 12, none⟩ (.slice ao 100 cp)) := by
  have h1 : (cutW e).ws.length = 100 := by show (e.ws.take 100).length = 100; rw [List.length_take]; omega
  have hk := set_kept' W b 12 (.slice ao 100 cp)
  have hB : Below w.heap.size W (W.setCell ⟨b, 12, none⟩ (.slice ao 100 cp)) := hk.below h.bel.size (fun k hf => by subst hf; exact hb)
  refine ⟨h.bel.trans hB, ?_, ?_⟩
  · rw [h1]
    exact block_set (.slice ao 100 cp) h.x
  · have ht := RwAt.take h.ws (k := 100) (by omega)
    rw [rowC_take wrc_len] at ht
    show RwAt _ 3 _ _ _ _
    rw [h1]
    exact RwAt.on ht hB
set_option maxHeartbeats 1600000 in
set_option maxRecDepth 100000 in
theorem writes3 (I : Ife) (e : En) (ao : Option Addr) (cp : Nat) (w : World) (hws : WsAt w.heap.size (.slice ao e.ws.length cp) e.ws w) (hok : EnOk e) :
    Calls Try.prog 3 #[.agg #[.int .i64 e.k, .int .u32 (e.c : Int), .int .u32 (e.n : Int), .int .u64 (e.sp : Int), .int .u32 (e.sl : Int), .int .u64 (e.ap : Int), .int .u32 (e.al : Int), .int .u64 (e.mp : Int), .int .u32 (e.ml : Int), .string (bs e.prim), .int .u8 (e.pt : Int), .bool e.dn, .slice ao e.ws.length cp]] w fun r w' => r = .returned (.bool true) ∧ Below w.heap.size w w' := by
  have CA : Hid (∀ W : World, 1 = 1 → Calls Try.prog 7 #[] W fun e w' => e = .returned (.bool true) ∧ Below W.heap.size W w') := fun W _ => awake7 I W
  have H0 : Hid _ := eb_new hws
  obtain ⟨ao', cap, he, hlc, hcm⟩ := hws.shape
  simp only [Value.slice.injEq, true_and] at he
  obtain ⟨rfl, rfl⟩ := he
  obtain ⟨W1, hW1⟩ : ∃ W1, w.alloc (.cells #[.int .i64 e.k, .int .u32 (e.c : Int), .int .u32 (e.n : Int), .int .u64 (e.sp : Int), .int .u32 (e.sl : Int), .int .u64 (e.ap : Int), .int .u32 (e.al : Int), .int .u64 (e.mp : Int), .int .u32 (e.ml : Int), .string (bs e.prim), .int .u8 (e.pt : Int), .bool e.dn, .slice ao e.ws.length cp] 30) = W1 := ⟨_, rfl⟩
  obtain ⟨b, hb⟩ : ∃ b, w.heap.size = b := ⟨_, rfl⟩
  have H1 : Hid (Eb w b e ao cp W1) := by rw [← hb, ← hW1]; exact H0.out
  have Hb : Hid (w.heap.size ≤ b) := by rw [← hb]; exact Nat.le_refl _
  have HOK : Hid (EnOk e) := hok
  clear H0 hws hok
  go_enter Try.func3, Try.ntmps3
  go_wp2_with fail
  refine (CA.out _ (by trivial)).mono ?_
  rintro r w1 ⟨rfl, hb1⟩
  have E1 : Hid (Eb w b e ao cp w1) := H1.out.on hb1
  clear hb1 CA H1 hW1 hb
  have t12 : w1.cell? ⟨b, 12, none⟩ = some (.slice ao e.ws.length cp) := block_cell E1.out.x rfl
  by_cases hl : 100 < e.ws.length
  · have q1 : (100 : Int) < e.ws.length := by omega
    have f12 : w1.frozen? ⟨b, 12, none⟩ = false := block_frozen E1.out.x 12
    have HG0 : Hid _ := cutW_eb E1.out hl Hb.out
    have HGK : Hid _ := cutW_ok HOK.out
    go_upto_region 5 with fail
    obtain ⟨Y1, hY1⟩ : ∃ Y1, w1.setCell ⟨b, 12, none⟩ (.slice ao 100 cp) = Y1 := ⟨_, rfl⟩
    rw [hY1] at HG0 ⊢
    generalize cutW e = g at *
    have HG : Hid (Eb w b g ao cp Y1) := HG0.out
    clear HG0 hY1 E1 t12 f12 q1 hl hlc hcm HOK
    have CW : Hid (1 = 1 → Calls Try.prog 8 #[.agg #[.int .i64 g.k, .int .u32 (g.c : Int), .int .u32 (g.n : Int), .int .u64 (g.sp : Int), .int .u32 (g.sl : Int), .int .u64 (g.ap : Int), .int .u32 (g.al : Int), .int .u64 (g.mp : Int), .int .u32 (g.ml : Int), .string (bs g.prim), .int .u8 (g.pt : Int), .bool g.dn, .slice ao g.ws.length cp]] Y1 fun r w' => r = .returned (.tuple #[.string (bs (writeE g).1), .int .i64 (writeE g).2]) ∧ Below Y1.heap.size Y1 w') := fun _ => I.wr g ao cp Y1 HGK.out.1 HGK.out.2 HG.out.wsx
    have CV : Hid (∀ W : World, Eb w b g ao cp W → Calls Try.prog 9 #[.agg #[.int .i64 g.k, .int .u32 (g.c : Int), .int .u32 (g.n : Int), .int .u64 (g.sp : Int), .int .u32 (g.sl : Int), .int .u64 (g.ap : Int), .int .u32 (g.al : Int), .int .u64 (g.mp : Int), .int .u32 (g.ml : Int), .string (bs g.prim), .int .u8 (g.pt : Int), .bool g.dn, .slice ao g.ws.length cp]] W fun r w' => r = .returned (.tuple #[.string (bs (writeE g).1), .int .i64 (writeE g).2]) ∧ Below W.heap.size W w') := fun W h => write9 g ao cp W HGK.out.1.rg h.wsx
    have CR : Hid (∀ W : World, Eb w b g ao cp W → Calls Try.prog 10 #[.agg #[.int .i64 g.k, .int .u32 (g.c : Int), .int .u32 (g.n : Int), .int .u64 (g.sp : Int), .int .u32 (g.sl : Int), .int .u64 (g.ap : Int), .int .u32 (g.al : Int), .int .u64 (g.mp : Int), .int .u32 (g.ml : Int), .string (bs g.prim), .int .u8 (g.pt : Int), .bool g.dn, .slice ao g.ws.length cp]] W fun r w' => r = .returned (.bool (rightE g)) ∧ Below W.heap.size W w') := fun W h => I.ri g ao cp W HGK.out.1 HGK.out.2 h.wsx
    have HC : Hid _ := @writeE_cases g
    generalize (writeE g).1 = F at *
    generalize (writeE g).2 = C at *
    obtain ⟨p0, p1, p2, p3, p4, p5, p6, p7, p8, p9, p10, p11, p12, _⟩ := HG.out.thirteen
    go_wp2_with fail
    refine (CW.out (by simp)).mono ?_
    rintro r w2 ⟨rfl, hb2⟩
    have E2 : Hid (Eb w b g ao cp w2) := HG.out.on hb2
    clear hb2 CW HG p0 p1 p2 p3 p4 p5 p6 p7 p8 p9 p10 p11 p12
    obtain ⟨p0, p1, p2, p3, p4, p5, p6, p7, p8, p9, p10, p11, p12, _⟩ := E2.out.thirteen
    go_wp2_with fail
    refine (CV.out _ E2.out).mono ?_
    rintro r w3 ⟨rfl, hb3⟩
    have E3 : Hid (Eb w b g ao cp w3) := E2.out.on hb3
    clear hb3 CV E2 p0 p1 p2 p3 p4 p5 p6 p7 p8 p9 p10 p11 p12
    obtain ⟨p0, p1, p2, p3, p4, p5, p6, p7, p8, p9, p10, p11, p12, _⟩ := E3.out.thirteen
    rcases HC.out with ⟨rfl, hr, hf⟩ | ⟨rfl, hr⟩
    · rw [hr] at CR
      have hrf := read_form hr HGK.out.1.rg
      have hfl := form_len hr HGK.out.1.rg
      rw [← hf] at hrf hfl
      have CP : Hid (∀ W : World, 1 = 1 → Calls Try.prog 11 #[.string (bs F)] W fun r w' => Below W.heap.size W w' ∧ ∃ ap cq, r = .returned (.tuple #[.agg #[.int .i64 g.k, .int .u32 (g.c : Int), .int .u32 (g.n : Int), .int .u64 (g.sp : Int), .int .u32 (g.sl : Int), .int .u64 (g.ap : Int), .int .u32 (g.al : Int), .int .u64 (g.mp : Int), .int .u32 (g.ml : Int), .string (bs g.prim), .int .u8 (g.pt : Int), .bool g.dn, .slice ap g.ws.length cq], .int .i64 0]) ∧ WsAt w'.heap.size (.slice ap g.ws.length cq) g.ws w') := fun W _ => (I.rd F W (by omega)).mono fun r w' h => ⟨h.1, h.2.2 g hrf⟩
      have hbl := bs_size F
      have hlf : (F.length : Int) ≤ 16000 := by omega
      clear hr hf hrf hfl HC
      go_wp2_with fail
      refine (CR.out _ E3.out).mono ?_
      rintro r w4 ⟨rfl, hb4⟩
      have E4 : Hid (Eb w b g ao cp w4) := E3.out.on hb4
      clear hb4 CR E3 p0 p1 p2 p3 p4 p5 p6 p7 p8 p9 p10 p11 p12
      go_wp2_with fail
      refine (CP.out _ (by trivial)).mono ?_
      rintro r w5 ⟨hb5, ap, cq, rfl, hws⟩
      have E5 : Hid (Eb w b g ao cp w5) := E4.out.on hb5
      have E0 : Hid _ := eb_new hws
      clear hb5 CP E4 hws
      go_upto_region 12 with fail
      obtain ⟨Y5, hY5⟩ : ∃ Y5, w5.alloc (.cells #[.int .i64 g.k, .int .u32 (g.c : Int), .int .u32 (g.n : Int), .int .u64 (g.sp : Int), .int .u32 (g.sl : Int), .int .u64 (g.ap : Int), .int .u32 (g.al : Int), .int .u64 (g.mp : Int), .int .u32 (g.ml : Int), .string (bs g.prim), .int .u8 (g.pt : Int), .bool g.dn, .slice ap g.ws.length cq] 30) = Y5 := ⟨_, rfl⟩
      obtain ⟨b7, hb7⟩ : ∃ b7, w5.heap.size = b7 := ⟨_, rfl⟩
      have E7 : Hid (Eb w5 b7 g ap cq Y5) := by rw [← hY5, ← hb7]; exact E0.out
      have E6 : Hid (Eb w b g ao cp Y5) := by rw [← hY5]; exact E5.out.on (al _)
      rw [hY5, hb7]
      clear E0 hY5 hb7 E5
      have CS : Hid (1 = 1 → Calls Try.prog 12 #[.agg #[.int .i64 g.k, .int .u32 (g.c : Int), .int .u32 (g.n : Int), .int .u64 (g.sp : Int), .int .u32 (g.sl : Int), .int .u64 (g.ap : Int), .int .u32 (g.al : Int), .int .u64 (g.mp : Int), .int .u32 (g.ml : Int), .string (bs g.prim), .int .u8 (g.pt : Int), .bool g.dn, .slice ap g.ws.length cq], .agg #[.int .i64 g.k, .int .u32 (g.c : Int), .int .u32 (g.n : Int), .int .u64 (g.sp : Int), .int .u32 (g.sl : Int), .int .u64 (g.ap : Int), .int .u32 (g.al : Int), .int .u64 (g.mp : Int), .int .u32 (g.ml : Int), .string (bs g.prim), .int .u8 (g.pt : Int), .bool g.dn, .slice ao g.ws.length cp]] Y5 fun r w' => r = .returned (.bool true) ∧ Below Y5.heap.size Y5 w') := fun _ => by
        have := same12 g g ap ao cq cp Y5 E7.out.wsx E6.out.wsx
        rw [sameE_self] at this
        exact this
      obtain ⟨p0, p1, p2, p3, p4, p5, p6, p7, p8, p9, p10, p11, p12, _⟩ := E6.out.thirteen
      obtain ⟨s0, s1, s2, s3, s4, s5, s6, s7, s8, s9, s10, s11, s12, _⟩ := E7.out.thirteen
      go_wp2_with fail
      refine (CS.out (by simp)).mono ?_
      rintro r w6 ⟨rfl, hb6⟩
      have HZ : Hid (Below w.heap.size w w6) := E6.out.bel.trans (hb6.mono E6.out.bel.size)
      clear hb6 CS E6 E7 p0 p1 p2 p3 p4 p5 p6 p7 p8 p9 p10 p11 p12 s0 s1 s2 s3 s4 s5 s6 s7 s8 s9 s10 s11 s12
      go_wp2_with fail
      go_ret
      exact ⟨rfl, HZ.out⟩
    · rw [hr] at CR
      clear hr HC
      go_wp2_with fail
      refine (CR.out _ E3.out).mono ?_
      rintro r w4 ⟨rfl, hb4⟩
      have HZ : Hid (Below w.heap.size w w4) := E3.out.bel.trans (hb4.mono E3.out.bel.size)
      clear hb4 CR E3 p0 p1 p2 p3 p4 p5 p6 p7 p8 p9 p10 p11 p12
      go_wp2_with fail
      go_ret
      exact ⟨rfl, HZ.out⟩
  have q1 : ¬ (100 : Int) < e.ws.length := by omega
  have HOL : Hid (EnOk e ∧ e.ws.length ≤ 100) := ⟨HOK.out, by omega⟩
  clear hl
  have CW : Hid (1 = 1 → Calls Try.prog 8 #[.agg #[.int .i64 e.k, .int .u32 (e.c : Int), .int .u32 (e.n : Int), .int .u64 (e.sp : Int), .int .u32 (e.sl : Int), .int .u64 (e.ap : Int), .int .u32 (e.al : Int), .int .u64 (e.mp : Int), .int .u32 (e.ml : Int), .string (bs e.prim), .int .u8 (e.pt : Int), .bool e.dn, .slice ao e.ws.length cp]] w1 fun r w' => r = .returned (.tuple #[.string (bs (writeE e).1), .int .i64 (writeE e).2]) ∧ Below w1.heap.size w1 w') := fun _ => I.wr e ao cp w1 HOL.out.1 HOL.out.2 E1.out.wsx
  have CV : Hid (∀ W : World, Eb w b e ao cp W → Calls Try.prog 9 #[.agg #[.int .i64 e.k, .int .u32 (e.c : Int), .int .u32 (e.n : Int), .int .u64 (e.sp : Int), .int .u32 (e.sl : Int), .int .u64 (e.ap : Int), .int .u32 (e.al : Int), .int .u64 (e.mp : Int), .int .u32 (e.ml : Int), .string (bs e.prim), .int .u8 (e.pt : Int), .bool e.dn, .slice ao e.ws.length cp]] W fun r w' => r = .returned (.tuple #[.string (bs (writeE e).1), .int .i64 (writeE e).2]) ∧ Below W.heap.size W w') := fun W h => write9 e ao cp W HOL.out.1.rg h.wsx
  have CR : Hid (∀ W : World, Eb w b e ao cp W → Calls Try.prog 10 #[.agg #[.int .i64 e.k, .int .u32 (e.c : Int), .int .u32 (e.n : Int), .int .u64 (e.sp : Int), .int .u32 (e.sl : Int), .int .u64 (e.ap : Int), .int .u32 (e.al : Int), .int .u64 (e.mp : Int), .int .u32 (e.ml : Int), .string (bs e.prim), .int .u8 (e.pt : Int), .bool e.dn, .slice ao e.ws.length cp]] W fun r w' => r = .returned (.bool (rightE e)) ∧ Below W.heap.size W w') := fun W h => I.ri e ao cp W HOL.out.1 HOL.out.2 h.wsx
  have HC : Hid _ := @writeE_cases e
  generalize (writeE e).1 = F at *
  generalize (writeE e).2 = C at *
  obtain ⟨p0, p1, p2, p3, p4, p5, p6, p7, p8, p9, p10, p11, p12, _⟩ := E1.out.thirteen
  go_wp2_with fail
  refine (CW.out (by simp)).mono ?_
  rintro r w2 ⟨rfl, hb2⟩
  have E2 : Hid (Eb w b e ao cp w2) := E1.out.on hb2
  clear hb2 CW E1 p0 p1 p2 p3 p4 p5 p6 p7 p8 p9 p10 p11 p12
  obtain ⟨p0, p1, p2, p3, p4, p5, p6, p7, p8, p9, p10, p11, p12, _⟩ := E2.out.thirteen
  go_wp2_with fail
  refine (CV.out _ E2.out).mono ?_
  rintro r w3 ⟨rfl, hb3⟩
  have E3 : Hid (Eb w b e ao cp w3) := E2.out.on hb3
  clear hb3 CV E2 p0 p1 p2 p3 p4 p5 p6 p7 p8 p9 p10 p11 p12
  obtain ⟨p0, p1, p2, p3, p4, p5, p6, p7, p8, p9, p10, p11, p12, _⟩ := E3.out.thirteen
  rcases HC.out with ⟨rfl, hr, hf⟩ | ⟨rfl, hr⟩
  · rw [hr] at CR
    have hrf := read_form hr HOL.out.1.rg
    have hfl := form_len hr HOL.out.1.rg
    rw [← hf] at hrf hfl
    have CP : Hid (∀ W : World, 1 = 1 → Calls Try.prog 11 #[.string (bs F)] W fun r w' => Below W.heap.size W w' ∧ ∃ ap cq, r = .returned (.tuple #[.agg #[.int .i64 e.k, .int .u32 (e.c : Int), .int .u32 (e.n : Int), .int .u64 (e.sp : Int), .int .u32 (e.sl : Int), .int .u64 (e.ap : Int), .int .u32 (e.al : Int), .int .u64 (e.mp : Int), .int .u32 (e.ml : Int), .string (bs e.prim), .int .u8 (e.pt : Int), .bool e.dn, .slice ap e.ws.length cq], .int .i64 0]) ∧ WsAt w'.heap.size (.slice ap e.ws.length cq) e.ws w') := fun W _ => (I.rd F W (by omega)).mono fun r w' h => ⟨h.1, h.2.2 e hrf⟩
    have hbl := bs_size F
    have hlf : (F.length : Int) ≤ 16000 := by omega
    clear hr hf hrf hfl HC
    go_wp2_with fail
    refine (CR.out _ E3.out).mono ?_
    rintro r w4 ⟨rfl, hb4⟩
    have E4 : Hid (Eb w b e ao cp w4) := E3.out.on hb4
    clear hb4 CR E3 p0 p1 p2 p3 p4 p5 p6 p7 p8 p9 p10 p11 p12
    go_wp2_with fail
    refine (CP.out _ (by trivial)).mono ?_
    rintro r w5 ⟨hb5, ap, cq, rfl, hws⟩
    have E5 : Hid (Eb w b e ao cp w5) := E4.out.on hb5
    have E0 : Hid _ := eb_new hws
    clear hb5 CP E4 hws
    go_upto_region 12 with fail
    obtain ⟨Y5, hY5⟩ : ∃ Y5, w5.alloc (.cells #[.int .i64 e.k, .int .u32 (e.c : Int), .int .u32 (e.n : Int), .int .u64 (e.sp : Int), .int .u32 (e.sl : Int), .int .u64 (e.ap : Int), .int .u32 (e.al : Int), .int .u64 (e.mp : Int), .int .u32 (e.ml : Int), .string (bs e.prim), .int .u8 (e.pt : Int), .bool e.dn, .slice ap e.ws.length cq] 30) = Y5 := ⟨_, rfl⟩
    obtain ⟨b7, hb7⟩ : ∃ b7, w5.heap.size = b7 := ⟨_, rfl⟩
    have E7 : Hid (Eb w5 b7 e ap cq Y5) := by rw [← hY5, ← hb7]; exact E0.out
    have E6 : Hid (Eb w b e ao cp Y5) := by rw [← hY5]; exact E5.out.on (al _)
    rw [hY5, hb7]
    clear E0 hY5 hb7 E5
    have CS : Hid (1 = 1 → Calls Try.prog 12 #[.agg #[.int .i64 e.k, .int .u32 (e.c : Int), .int .u32 (e.n : Int), .int .u64 (e.sp : Int), .int .u32 (e.sl : Int), .int .u64 (e.ap : Int), .int .u32 (e.al : Int), .int .u64 (e.mp : Int), .int .u32 (e.ml : Int), .string (bs e.prim), .int .u8 (e.pt : Int), .bool e.dn, .slice ap e.ws.length cq], .agg #[.int .i64 e.k, .int .u32 (e.c : Int), .int .u32 (e.n : Int), .int .u64 (e.sp : Int), .int .u32 (e.sl : Int), .int .u64 (e.ap : Int), .int .u32 (e.al : Int), .int .u64 (e.mp : Int), .int .u32 (e.ml : Int), .string (bs e.prim), .int .u8 (e.pt : Int), .bool e.dn, .slice ao e.ws.length cp]] Y5 fun r w' => r = .returned (.bool true) ∧ Below Y5.heap.size Y5 w') := fun _ => by
      have := same12 e e ap ao cq cp Y5 E7.out.wsx E6.out.wsx
      rw [sameE_self] at this
      exact this
    obtain ⟨p0, p1, p2, p3, p4, p5, p6, p7, p8, p9, p10, p11, p12, _⟩ := E6.out.thirteen
    obtain ⟨s0, s1, s2, s3, s4, s5, s6, s7, s8, s9, s10, s11, s12, _⟩ := E7.out.thirteen
    go_wp2_with fail
    refine (CS.out (by simp)).mono ?_
    rintro r w6 ⟨rfl, hb6⟩
    have HZ : Hid (Below w.heap.size w w6) := E6.out.bel.trans (hb6.mono E6.out.bel.size)
    clear hb6 CS E6 E7 p0 p1 p2 p3 p4 p5 p6 p7 p8 p9 p10 p11 p12 s0 s1 s2 s3 s4 s5 s6 s7 s8 s9 s10 s11 s12
    go_wp2_with fail
    go_ret
    exact ⟨rfl, HZ.out⟩
  · rw [hr] at CR
    clear hr HC
    go_wp2_with fail
    refine (CR.out _ E3.out).mono ?_
    rintro r w4 ⟨rfl, hb4⟩
    have HZ : Hid (Below w.heap.size w w4) := E3.out.bel.trans (hb4.mono E3.out.bel.size)
    clear hb4 CR E3 p0 p1 p2 p3 p4 p5 p6 p7 p8 p9 p10 p11 p12
    go_wp2_with fail
    go_ret
    exact ⟨rfl, HZ.out⟩
end Go.Proofs.Ytmgjlpgjjeknpaa
