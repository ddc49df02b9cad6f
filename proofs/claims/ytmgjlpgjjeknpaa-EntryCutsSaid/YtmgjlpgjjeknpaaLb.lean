/-
  EntryApart, walked.
-/
import Derived.Test.YtmgjlpgjjeknpaaLs
namespace Go.Proofs.Ytmgjlpgjjeknpaa
open Go.RowKit Go.Sort

theorem writeE_cases {e : En} : (writeE e).2 = 0 ∧ rightE e = true ∧ (writeE e).1 = formE e ∨ (writeE e).2 = 1 ∧ rightE e = false := by
  unfold writeE
  cases rightE e with
  | true => exact .inl ⟨rfl, rfl, rfl⟩
  | false => exact .inr ⟨rfl, rfl⟩
theorem apart_eq {a b : En} (ha : rightE a = true) (hb : rightE b = true) (ra : RgE a) (rb : RgE b) : (formE a == formE b) = sameE a b := by
  rw [Bool.eq_iff_iff, beq_iff_eq, sameE_iff]
  exact form_inj ha hb ra rb
set_option maxHeartbeats 1600000 in
set_option maxRecDepth 100000 in
theorem apart5 (I : Ife) (a b : En) (aa ab : Option Addr) (ca cb : Nat) (w : World) (ha : WsAt w.heap.size (.slice aa a.ws.length ca) a.ws w) (hb : WsAt w.heap.size (.slice ab b.ws.length cb) b.ws w) (oka : EnOk a) (okb : EnOk b) :
    Calls Try.prog 5 #[.agg #[.int .i64 a.k, .int .u32 (a.c : Int), .int .u32 (a.n : Int), .int .u64 (a.sp : Int), .int .u32 (a.sl : Int), .int .u64 (a.ap : Int), .int .u32 (a.al : Int), .int .u64 (a.mp : Int), .int .u32 (a.ml : Int), .string (bs a.prim), .int .u8 (a.pt : Int), .bool a.dn, .slice aa a.ws.length ca], .agg #[.int .i64 b.k, .int .u32 (b.c : Int), .int .u32 (b.n : Int), .int .u64 (b.sp : Int), .int .u32 (b.sl : Int), .int .u64 (b.ap : Int), .int .u32 (b.al : Int), .int .u64 (b.mp : Int), .int .u32 (b.ml : Int), .string (bs b.prim), .int .u8 (b.pt : Int), .bool b.dn, .slice ab b.ws.length cb]] w fun e w' => e = .returned (.bool true) ∧ Below w.heap.size w w' := by
  have CA : Hid (∀ W : World, 1 = 1 → Calls Try.prog 7 #[] W fun e w' => e = .returned (.bool true) ∧ Below W.heap.size W w') := fun W _ => awake7 I W
  have HA0 : Hid _ := eb_new ha
  obtain ⟨W1, hW1⟩ : ∃ W1, w.alloc (.cells #[.int .i64 a.k, .int .u32 (a.c : Int), .int .u32 (a.n : Int), .int .u64 (a.sp : Int), .int .u32 (a.sl : Int), .int .u64 (a.ap : Int), .int .u32 (a.al : Int), .int .u64 (a.mp : Int), .int .u32 (a.ml : Int), .string (bs a.prim), .int .u8 (a.pt : Int), .bool a.dn, .slice aa a.ws.length ca] 30) = W1 := ⟨_, rfl⟩
  obtain ⟨b2, hb2⟩ : ∃ b, w.heap.size = b := ⟨_, rfl⟩
  have HA1 : Hid (Eb w b2 a aa ca W1) := by rw [← hb2, ← hW1]; exact HA0.out
  obtain ⟨W2, hW2⟩ : ∃ W2, W1.alloc (.cells #[.int .i64 b.k, .int .u32 (b.c : Int), .int .u32 (b.n : Int), .int .u64 (b.sp : Int), .int .u32 (b.sl : Int), .int .u64 (b.ap : Int), .int .u32 (b.al : Int), .int .u64 (b.mp : Int), .int .u32 (b.ml : Int), .string (bs b.prim), .int .u8 (b.pt : Int), .bool b.dn, .slice ab b.ws.length cb] 30) = W2 := ⟨_, rfl⟩
  obtain ⟨b3, hb3⟩ : ∃ b, W1.heap.size = b := ⟨_, rfl⟩
  have HA : Hid (Eb w b2 a aa ca W2) := by rw [← hW2]; exact HA1.out.on (al _)
  have HB : Hid (Eb w b3 b ab cb W2) := ⟨HA.out.bel, by rw [← hW2, ← hb3]; exact heap_alloc_new W1 _, hb.on HA.out.bel⟩
  have HOA : Hid (EnOk a) := oka
  have HOB : Hid (EnOk b) := okb
  have la := oka.wl
  have lb := okb.wl
  clear HA0 HA1 ha hb oka okb
  go_enter Try.func5, Try.ntmps5
  go_wp2_with fail
  refine (CA.out _ (by trivial)).mono ?_
  rintro r w1 ⟨rfl, hb1⟩
  have HA1 : Hid (Eb w b2 a aa ca w1) := HA.out.on hb1
  have HB1 : Hid (Eb w b3 b ab cb w1) := HB.out.on hb1
  clear hb1 CA HA HB hW1 hW2 hb2 hb3
  have wrp : IntKind.i64.wrap ((a.ws.length : Int) + b.ws.length) = (a.ws.length : Int) + b.ws.length := by
    simp [IntKind.wrap, IntKind.signed, IntKind.bits]
    omega
  have p12 : w1.cell? ⟨b2, 12, none⟩ = some (.slice aa a.ws.length ca) := block_cell HA1.out.x rfl
  have s12 : w1.cell? ⟨b3, 12, none⟩ = some (.slice ab b.ws.length cb) := block_cell HB1.out.x rfl
  by_cases hl : 50 < a.ws.length + b.ws.length
  · have q1 : (50 : Int) < (a.ws.length : Int) + b.ws.length := by omega
    clear hl la lb
    go_wp2_with fail
    go_ret
    exact ⟨rfl, HA1.out.bel⟩
  have q1 : ¬ (50 : Int) < (a.ws.length : Int) + b.ws.length := by omega
  have Hla : Hid (a.ws.length ≤ 100 ∧ b.ws.length ≤ 100) := ⟨by omega, by omega⟩
  clear hl la lb
  have CW : Hid (1 = 1 → Calls Try.prog 8 #[.agg #[.int .i64 a.k, .int .u32 (a.c : Int), .int .u32 (a.n : Int), .int .u64 (a.sp : Int), .int .u32 (a.sl : Int), .int .u64 (a.ap : Int), .int .u32 (a.al : Int), .int .u64 (a.mp : Int), .int .u32 (a.ml : Int), .string (bs a.prim), .int .u8 (a.pt : Int), .bool a.dn, .slice aa a.ws.length ca]] w1 fun r w' => r = .returned (.tuple #[.string (bs (writeE a).1), .int .i64 (writeE a).2]) ∧ Below w1.heap.size w1 w') := fun _ => I.wr a aa ca w1 HOA.out Hla.out.1 HA1.out.wsx
  have CV : Hid (∀ W : World, Eb w b3 b ab cb W → Calls Try.prog 8 #[.agg #[.int .i64 b.k, .int .u32 (b.c : Int), .int .u32 (b.n : Int), .int .u64 (b.sp : Int), .int .u32 (b.sl : Int), .int .u64 (b.ap : Int), .int .u32 (b.al : Int), .int .u64 (b.mp : Int), .int .u32 (b.ml : Int), .string (bs b.prim), .int .u8 (b.pt : Int), .bool b.dn, .slice ab b.ws.length cb]] W fun r w' => r = .returned (.tuple #[.string (bs (writeE b).1), .int .i64 (writeE b).2]) ∧ Below W.heap.size W w') := fun W h => I.wr b ab cb W HOB.out Hla.out.2 h.wsx
  have HX : Hid (rightE a = true → rightE b = true → (writeE a).1 = formE a → (writeE b).1 = formE b → ((writeE a).1 == (writeE b).1) = sameE a b) := fun h1 h2 h3 h4 => by rw [h3, h4]; exact apart_eq h1 h2 HOA.out.rg HOB.out.rg
  have HCA : Hid _ := @writeE_cases a
  have HCB : Hid _ := @writeE_cases b
  generalize (writeE a).1 = Fa at *
  generalize (writeE a).2 = Ca at *
  generalize (writeE b).1 = Fb at *
  generalize (writeE b).2 = Cb at *
  obtain ⟨p0, p1, p2, p3, p4, p5, p6, p7, p8, p9, p10, p11, _, _⟩ := HA1.out.thirteen
  go_wp2_with fail
  refine (CW.out (by simp)).mono ?_
  rintro r w2 ⟨rfl, hb2⟩
  have HA2 : Hid (Eb w b2 a aa ca w2) := HA1.out.on hb2
  have HB2 : Hid (Eb w b3 b ab cb w2) := HB1.out.on hb2
  clear hb2 CW HA1 HB1 p0 p1 p2 p3 p4 p5 p6 p7 p8 p9 p10 p11 p12 s12 q1 wrp
  obtain ⟨s0, s1, s2, s3, s4, s5, s6, s7, s8, s9, s10, s11, s12, _⟩ := HB2.out.thirteen
  go_wp2_with fail
  refine (CV.out _ HB2.out).mono ?_
  rintro r w3 ⟨rfl, hb3⟩
  have HA3 : Hid (Eb w b2 a aa ca w3) := HA2.out.on hb3
  have HB3 : Hid (Eb w b3 b ab cb w3) := HB2.out.on hb3
  clear hb3 CV HA2 HB2 s0 s1 s2 s3 s4 s5 s6 s7 s8 s9 s10 s11 s12
  rcases HCA.out with ⟨rfl, ra, fa⟩ | ⟨rfl, ra⟩
  · rcases HCB.out with ⟨rfl, rb, fb⟩ | ⟨rfl, rb⟩
    · have hx := HX.out ra rb fa fb
      have CS : Hid (1 = 1 → Calls Try.prog 12 #[.agg #[.int .i64 a.k, .int .u32 (a.c : Int), .int .u32 (a.n : Int), .int .u64 (a.sp : Int), .int .u32 (a.sl : Int), .int .u64 (a.ap : Int), .int .u32 (a.al : Int), .int .u64 (a.mp : Int), .int .u32 (a.ml : Int), .string (bs a.prim), .int .u8 (a.pt : Int), .bool a.dn, .slice aa a.ws.length ca], .agg #[.int .i64 b.k, .int .u32 (b.c : Int), .int .u32 (b.n : Int), .int .u64 (b.sp : Int), .int .u32 (b.sl : Int), .int .u64 (b.ap : Int), .int .u32 (b.al : Int), .int .u64 (b.mp : Int), .int .u32 (b.ml : Int), .string (bs b.prim), .int .u8 (b.pt : Int), .bool b.dn, .slice ab b.ws.length cb]] w3 fun r w' => r = .returned (.bool (sameE a b)) ∧ Below w3.heap.size w3 w') := fun _ => same12 a b aa ab ca cb w3 HA3.out.wsx HB3.out.wsx
      generalize sameE a b = z at *
      have q2 : ((bs Fa).toList == (bs Fb).toList) = z := by rw [bs_beq]; exact hx
      clear hx ra rb fa fb HCA HCB HX
      obtain ⟨p0, p1, p2, p3, p4, p5, p6, p7, p8, p9, p10, p11, p12, _⟩ := HA3.out.thirteen
      obtain ⟨s0, s1, s2, s3, s4, s5, s6, s7, s8, s9, s10, s11, s12, _⟩ := HB3.out.thirteen
      go_wp2_with fail
      refine (CS.out (by simp)).mono ?_
      rintro r w4 ⟨rfl, hb4⟩
      have HZ : Hid (Below w.heap.size w w4) := HA3.out.bel.trans (hb4.mono HA3.out.bel.size)
      clear hb4 CS p0 p1 p2 p3 p4 p5 p6 p7 p8 p9 p10 p11 p12 s0 s1 s2 s3 s4 s5 s6 s7 s8 s9 s10 s11 s12
      go_wp2_with fail
      go_ret
      exact ⟨by simp, HZ.out⟩
    · clear HCA HCB HX ra rb fa
      go_wp2_with fail
      go_ret
      exact ⟨rfl, HA3.out.bel⟩
  · clear HCA HX ra
    go_wp2_with fail
    go_ret
    exact ⟨rfl, HA3.out.bel⟩
end Go.Proofs.Ytmgjlpgjjeknpaa
