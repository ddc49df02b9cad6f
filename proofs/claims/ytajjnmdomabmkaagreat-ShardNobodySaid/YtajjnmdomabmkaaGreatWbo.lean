import Derived.Test.YtajjnmdomabmkaaGreatWbm
set_option maxHeartbeats 4000000
set_option maxRecDepth 100000
set_option linter.unusedVariables false
namespace Go.Proofs.YtajjnmdomabmkaaGreat
open Go.RowKit
variable {SA : Nat → Nat → (Nat → Prop) → Sto.Sk → World → Prop} {TA : Nat → Nat → (Nat → Prop) → Lat.Tb → World → Prop} {BA : Nat → Nat → (Nat → Prop) → Ver.Bk → World → Prop}
variable {f : Fp} {M : Nat → Prop} {X : Sd} {a : Int} {g : Nat} {D : Drm.Dr} {w W W' : World} {Lo : List (Nat × Obj)}
theorem right91 (q : Rq) (wa : Option Addr) (wc : Nat) (sa : Option Addr) (sc : Nat) (hi : Lat.WsAt w.heap.size (.slice wa q.ws.length wc) q.ws w) :
  Calls Tryz.prog 91 #[.agg #[.int .i64 q.k, .int .u32 q.c, .int .u32 q.n, .int .u64 q.sp, .int .u32 q.sl, .int .u64 q.ap, .int .u32 q.al, .string (bs q.key), .string (bs q.hi), .int .i64 q.lim, .int .u8 q.pt, .slice wa q.ws.length wc, .slice sa q.sk.length sc]] w fun e w' => e = .returned (.bool (rightQ q)) ∧ Below w.heap.size w w' := by
 have HR0 : Hid (rightQ q = (decide (1 ≤ q.k) && decide (q.k ≤ 9) && Ent.rightB q.sp q.sl && Ent.rightB q.ap q.al && decide (q.sk.length ≤ 16) && (if q.k = 1 then kOk q.key else if q.k = 3 then kOk q.key && rightW q.ws else if q.k = 4 ∨ q.k = 5 then !(q.ap == 0 && q.al == 0) else true))) := rfl
 generalize rightQ q = r at *
 generalize q.k = k at *
 have SB : Hid (∀ W, Bo w [(w.heap.size, .cells #[.int .i64 k, .int .u32 q.c, .int .u32 q.n, .int .u64 q.sp, .int .u32 q.sl, .int .u64 q.ap, .int .u32 q.al, .string (bs q.key), .string (bs q.hi), .int .i64 q.lim, .int .u8 q.pt, .slice wa q.ws.length wc, .slice sa q.sk.length sc] 36)] W → W.cell? ⟨w.heap.size, 0, none⟩ = some (.int .i64 k) ∧ W.cell? ⟨w.heap.size, 1, none⟩ = some (.int .u32 q.c) ∧ W.cell? ⟨w.heap.size, 2, none⟩ = some (.int .u32 q.n) ∧ W.cell? ⟨w.heap.size, 3, none⟩ = some (.int .u64 q.sp) ∧ W.cell? ⟨w.heap.size, 4, none⟩ = some (.int .u32 q.sl) ∧ W.cell? ⟨w.heap.size, 5, none⟩ = some (.int .u64 q.ap) ∧ W.cell? ⟨w.heap.size, 6, none⟩ = some (.int .u32 q.al) ∧ W.cell? ⟨w.heap.size, 7, none⟩ = some (.string (bs q.key)) ∧ W.cell? ⟨w.heap.size, 11, none⟩ = some (.slice wa q.ws.length wc) ∧ W.cell? ⟨w.heap.size, 12, none⟩ = some (.slice sa q.sk.length sc)) := fun W hW => ⟨hW.has.cell (.head _) rfl, hW.has.cell (.head _) rfl, hW.has.cell (.head _) rfl, hW.has.cell (.head _) rfl, hW.has.cell (.head _) rfl, hW.has.cell (.head _) rfl, hW.has.cell (.head _) rfl, hW.has.cell (.head _) rfl, hW.has.cell (.head _) rfl, hW.has.cell (.head _) rfl⟩
 have H1 : Hid (Bo w [(w.heap.size, .cells #[.int .i64 k, .int .u32 q.c, .int .u32 q.n, .int .u64 q.sp, .int .u32 q.sl, .int .u64 q.ap, .int .u32 q.al, .string (bs q.key), .string (bs q.hi), .int .i64 q.lim, .int .u8 q.pt, .slice wa q.ws.length wc, .slice sa q.sk.length sc] 36)] (w.alloc (.cells #[.int .i64 k, .int .u32 q.c, .int .u32 q.n, .int .u64 q.sp, .int .u32 q.sl, .int .u64 q.ap, .int .u32 q.al, .string (bs q.key), .string (bs q.hi), .int .i64 q.lim, .int .u8 q.pt, .slice wa q.ws.length wc, .slice sa q.sk.length sc] 36))) := (Bo.nil w).new (.cells #[.int .i64 k, .int .u32 q.c, .int .u32 q.n, .int .u64 q.sp, .int .u32 q.sl, .int .u64 q.ap, .int .u32 q.al, .string (bs q.key), .string (bs q.hi), .int .i64 q.lim, .int .u8 q.pt, .slice wa q.ws.length wc, .slice sa q.sk.length sc] 36)
 have C1 : Hid (∀ W, Bo w [(w.heap.size, .cells #[.int .i64 k, .int .u32 q.c, .int .u32 q.n, .int .u64 q.sp, .int .u32 q.sl, .int .u64 q.ap, .int .u32 q.al, .string (bs q.key), .string (bs q.hi), .int .i64 q.lim, .int .u8 q.pt, .slice wa q.ws.length wc, .slice sa q.sk.length sc] 36)] W → Calls Tryz.prog 166 #[.agg #[.int .u64 q.sp, .int .u32 q.sl]] W fun e w' => e = .returned (.bool (Ent.rightB q.sp q.sl)) ∧ Bo w [(w.heap.size, .cells #[.int .i64 k, .int .u32 q.c, .int .u32 q.n, .int .u64 q.sp, .int .u32 q.sl, .int .u64 q.ap, .int .u32 q.al, .string (bs q.key), .string (bs q.hi), .int .i64 q.lim, .int .u8 q.pt, .slice wa q.ws.length wc, .slice sa q.sk.length sc] 36)] w') := fun W hW => (Ent.rightP q.sp q.sl W).mono fun e w' h => ⟨h.1, hW.on h.2⟩
 have C2 : Hid (∀ W, Bo w [(w.heap.size, .cells #[.int .i64 k, .int .u32 q.c, .int .u32 q.n, .int .u64 q.sp, .int .u32 q.sl, .int .u64 q.ap, .int .u32 q.al, .string (bs q.key), .string (bs q.hi), .int .i64 q.lim, .int .u8 q.pt, .slice wa q.ws.length wc, .slice sa q.sk.length sc] 36)] W → Calls Tryz.prog 166 #[.agg #[.int .u64 q.ap, .int .u32 q.al]] W fun e w' => e = .returned (.bool (Ent.rightB q.ap q.al)) ∧ Bo w [(w.heap.size, .cells #[.int .i64 k, .int .u32 q.c, .int .u32 q.n, .int .u64 q.sp, .int .u32 q.sl, .int .u64 q.ap, .int .u32 q.al, .string (bs q.key), .string (bs q.hi), .int .i64 q.lim, .int .u8 q.pt, .slice wa q.ws.length wc, .slice sa q.sk.length sc] 36)] w') := fun W hW => (Ent.rightP q.ap q.al W).mono fun e w' h => ⟨h.1, hW.on h.2⟩
 have CK : Hid (∀ W, Calls Tryz.prog 187 #[.string (bs q.key)] W fun e w' => e = .returned (.bool (kOk q.key)) ∧ W = w') := fun W => key187 q.key W
 have CW : Hid (∀ W, Bo w [(w.heap.size, .cells #[.int .i64 k, .int .u32 q.c, .int .u32 q.n, .int .u64 q.sp, .int .u32 q.sl, .int .u64 q.ap, .int .u32 q.al, .string (bs q.key), .string (bs q.hi), .int .i64 q.lim, .int .u8 q.pt, .slice wa q.ws.length wc, .slice sa q.sk.length sc] 36)] W → Calls Tryz.prog 165 #[.slice wa q.ws.length wc] W fun e w' => e = .returned (.bool (rightW q.ws)) ∧ Bo w [(w.heap.size, .cells #[.int .i64 k, .int .u32 q.c, .int .u32 q.n, .int .u64 q.sp, .int .u32 q.sl, .int .u64 q.ap, .int .u32 q.al, .string (bs q.key), .string (bs q.hi), .int .i64 q.lim, .int .u8 q.pt, .slice wa q.ws.length wc, .slice sa q.sk.length sc] 36)] w') := fun W hW => (Ent.right24 w.heap.size q.ws _ W (RwAt.on hi hW.bel) hW.bel.size).mono fun e w' h => ⟨h.1, hW.on h.2⟩
 have nq : ∀ W, (binOp .neq 32 (.agg #[.int .u64 q.ap, .int .u32 q.al]) (.agg #[.int .u64 0, .int .u32 0])).run Tryz.prog W = .ok (.bool (!(q.ap == 0 && q.al == 0))) W := fun W => Clk.run_neq25 _ _ _ _ W
 generalize kOk q.key = kk at *
 generalize rightW q.ws = ww at *
 generalize (!(q.ap == 0 && q.al == 0)) = zz at *
 generalize Ent.rightB q.sp q.sl = r1 at *
 generalize Ent.rightB q.ap q.al = r2 at *
 clear hi
 by_cases k1 : k < 1
 case pos =>
  have HL : r = false := by
   rw [HR0.out]
   have : ¬ 1 ≤ k := by omega
   simp [this]
  subst HL
  obtain ⟨c0, -⟩ := SB.out _ H1.out
  go_enter Tryz.func91, Tryz.ntmps91
  go_wp2_with fail
  go_ret
  exact ⟨rfl, H1.out.bel⟩
 case neg =>
  have k1' : decide (k < 1) = false := by simp [k1]
  by_cases k9 : 9 < k
  case pos =>
   have HL : r = false := by
    rw [HR0.out]
    have : ¬ k ≤ 9 := by omega
    simp [this]
   subst HL
   obtain ⟨c0, -⟩ := SB.out _ H1.out
   go_enter Tryz.func91, Tryz.ntmps91
   go_wp2_with fail
   go_ret
   exact ⟨rfl, H1.out.bel⟩
  case neg =>
   have hk : k = 1 ∨ k = 2 ∨ k = 3 ∨ k = 4 ∨ k = 5 ∨ k = 6 ∨ k = 7 ∨ k = 8 ∨ k = 9 := by omega
   clear k1 k1' k9
   rcases hk with rfl | rfl | rfl | rfl | rfl | rfl | rfl | rfl | rfl
   ·obtain ⟨c0, -, -, c3, c4, -⟩ := SB.out _ H1.out
    go_enter Tryz.func91, Tryz.ntmps91
    go_wp2_with fail
    refine (C1.out _ H1.out).mono ?_
    rintro e w3 ⟨rfl, hq⟩
    have H3 : Hid _ := hq
    clear hq c0 c3 c4
    cases r1
    case false =>
     have HL : r = false := by rw [HR0.out]; simp
     subst HL
     go_wp2_with fail
     go_ret
     exact ⟨rfl, H3.out.bel⟩
    case true =>
     obtain ⟨c0, -, -, -, -, c5, c6, -⟩ := SB.out _ H3.out
     go_wp2_with fail
     refine (C2.out _ H3.out).mono ?_
     rintro e w4 ⟨rfl, hq⟩
     have H4 : Hid _ := hq
     clear hq c0 c5 c6
     obtain ⟨c0, -, -, -, -, -, -, -, -, c12⟩ := SB.out _ H4.out
     cases r2
     case false =>
      have HL : r = false := by rw [HR0.out]; simp
      subst HL
      go_wp2_with fail
      go_ret
      exact ⟨rfl, H4.out.bel⟩
     case true =>
      by_cases hs : (16 : Int) < q.sk.length
      case pos =>
       have HL : r = false := by
        rw [HR0.out]
        have : ¬ q.sk.length ≤ 16 := by omega
        simp [this]
       subst HL
       go_wp2_with fail
       go_ret
       exact ⟨rfl, H4.out.bel⟩
      case neg =>
       have hs' : decide ((16 : Int) < q.sk.length) = false := by simp [hs]
       have HL : r = kk := by
        rw [HR0.out]
        have : q.sk.length ≤ 16 := by omega
        simp [this]
       obtain ⟨-, -, -, -, -, -, -, c7, -⟩ := SB.out _ H4.out
       subst HL
       go_wp2_with fail
       refine (CK.out _).mono ?_
       rintro e w5 ⟨rfl, rfl⟩
       go_wp2_with fail
       go_ret
       exact ⟨rfl, H4.out.bel⟩
   ·obtain ⟨c0, -, -, c3, c4, -⟩ := SB.out _ H1.out
    go_enter Tryz.func91, Tryz.ntmps91
    go_wp2_with fail
    refine (C1.out _ H1.out).mono ?_
    rintro e w3 ⟨rfl, hq⟩
    have H3 : Hid _ := hq
    clear hq c0 c3 c4
    cases r1
    case false =>
     have HL : r = false := by rw [HR0.out]; simp
     subst HL
     go_wp2_with fail
     go_ret
     exact ⟨rfl, H3.out.bel⟩
    case true =>
     obtain ⟨c0, -, -, -, -, c5, c6, -⟩ := SB.out _ H3.out
     go_wp2_with fail
     refine (C2.out _ H3.out).mono ?_
     rintro e w4 ⟨rfl, hq⟩
     have H4 : Hid _ := hq
     clear hq c0 c5 c6
     obtain ⟨c0, -, -, -, -, -, -, -, -, c12⟩ := SB.out _ H4.out
     cases r2
     case false =>
      have HL : r = false := by rw [HR0.out]; simp
      subst HL
      go_wp2_with fail
      go_ret
      exact ⟨rfl, H4.out.bel⟩
     case true =>
      by_cases hs : (16 : Int) < q.sk.length
      case pos =>
       have HL : r = false := by
        rw [HR0.out]
        have : ¬ q.sk.length ≤ 16 := by omega
        simp [this]
       subst HL
       go_wp2_with fail
       go_ret
       exact ⟨rfl, H4.out.bel⟩
      case neg =>
       have hs' : decide ((16 : Int) < q.sk.length) = false := by simp [hs]
       have HL : r = true := by
        rw [HR0.out]
        have : q.sk.length ≤ 16 := by omega
        simp [this]
       subst HL
       go_wp2_with fail
       go_ret
       exact ⟨rfl, H4.out.bel⟩
   ·obtain ⟨c0, -, -, c3, c4, -⟩ := SB.out _ H1.out
    go_enter Tryz.func91, Tryz.ntmps91
    go_wp2_with fail
    refine (C1.out _ H1.out).mono ?_
    rintro e w3 ⟨rfl, hq⟩
    have H3 : Hid _ := hq
    clear hq c0 c3 c4
    cases r1
    case false =>
     have HL : r = false := by rw [HR0.out]; simp
     subst HL
     go_wp2_with fail
     go_ret
     exact ⟨rfl, H3.out.bel⟩
    case true =>
     obtain ⟨c0, -, -, -, -, c5, c6, -⟩ := SB.out _ H3.out
     go_wp2_with fail
     refine (C2.out _ H3.out).mono ?_
     rintro e w4 ⟨rfl, hq⟩
     have H4 : Hid _ := hq
     clear hq c0 c5 c6
     obtain ⟨c0, -, -, -, -, -, -, -, -, c12⟩ := SB.out _ H4.out
     cases r2
     case false =>
      have HL : r = false := by rw [HR0.out]; simp
      subst HL
      go_wp2_with fail
      go_ret
      exact ⟨rfl, H4.out.bel⟩
     case true =>
      by_cases hs : (16 : Int) < q.sk.length
      case pos =>
       have HL : r = false := by
        rw [HR0.out]
        have : ¬ q.sk.length ≤ 16 := by omega
        simp [this]
       subst HL
       go_wp2_with fail
       go_ret
       exact ⟨rfl, H4.out.bel⟩
      case neg =>
       have hs' : decide ((16 : Int) < q.sk.length) = false := by simp [hs]
       have HL : r = (kk && ww) := by
        rw [HR0.out]
        have : q.sk.length ≤ 16 := by omega
        simp [this]
       obtain ⟨-, -, -, -, -, -, -, c7, c11, -⟩ := SB.out _ H4.out
       go_wp2_with fail
       refine (CK.out _).mono ?_
       rintro e w5 ⟨rfl, rfl⟩
       cases kk
       case false =>
        subst HL
        go_wp2_with fail
        go_ret
        exact ⟨rfl, H4.out.bel⟩
       case true =>
        go_wp2_with fail
        refine (CW.out _ H4.out).mono ?_
        rintro e w6 ⟨rfl, hq⟩
        have H6 : Hid _ := hq
        subst HL
        go_wp2_with fail
        go_ret
        exact ⟨rfl, H6.out.bel⟩
   ·obtain ⟨c0, -, -, c3, c4, -⟩ := SB.out _ H1.out
    go_enter Tryz.func91, Tryz.ntmps91
    go_wp2_with fail
    refine (C1.out _ H1.out).mono ?_
    rintro e w3 ⟨rfl, hq⟩
    have H3 : Hid _ := hq
    clear hq c0 c3 c4
    cases r1
    case false =>
     have HL : r = false := by rw [HR0.out]; simp
     subst HL
     go_wp2_with fail
     go_ret
     exact ⟨rfl, H3.out.bel⟩
    case true =>
     obtain ⟨c0, -, -, -, -, c5, c6, -⟩ := SB.out _ H3.out
     go_wp2_with fail
     refine (C2.out _ H3.out).mono ?_
     rintro e w4 ⟨rfl, hq⟩
     have H4 : Hid _ := hq
     clear hq c0 c5 c6
     obtain ⟨c0, -, -, -, -, -, -, -, -, c12⟩ := SB.out _ H4.out
     cases r2
     case false =>
      have HL : r = false := by rw [HR0.out]; simp
      subst HL
      go_wp2_with fail
      go_ret
      exact ⟨rfl, H4.out.bel⟩
     case true =>
      by_cases hs : (16 : Int) < q.sk.length
      case pos =>
       have HL : r = false := by
        rw [HR0.out]
        have : ¬ q.sk.length ≤ 16 := by omega
        simp [this]
       subst HL
       go_wp2_with fail
       go_ret
       exact ⟨rfl, H4.out.bel⟩
      case neg =>
       have hs' : decide ((16 : Int) < q.sk.length) = false := by simp [hs]
       have HL : r = zz := by
        rw [HR0.out]
        have : q.sk.length ≤ 16 := by omega
        simp [this]
       obtain ⟨-, -, -, -, -, c5, c6, -⟩ := SB.out _ H4.out
       subst HL
       go_wp2_with fail
       go_ret
       exact ⟨rfl, H4.out.bel⟩
   ·obtain ⟨c0, -, -, c3, c4, -⟩ := SB.out _ H1.out
    go_enter Tryz.func91, Tryz.ntmps91
    go_wp2_with fail
    refine (C1.out _ H1.out).mono ?_
    rintro e w3 ⟨rfl, hq⟩
    have H3 : Hid _ := hq
    clear hq c0 c3 c4
    cases r1
    case false =>
     have HL : r = false := by rw [HR0.out]; simp
     subst HL
     go_wp2_with fail
     go_ret
     exact ⟨rfl, H3.out.bel⟩
    case true =>
     obtain ⟨c0, -, -, -, -, c5, c6, -⟩ := SB.out _ H3.out
     go_wp2_with fail
     refine (C2.out _ H3.out).mono ?_
     rintro e w4 ⟨rfl, hq⟩
     have H4 : Hid _ := hq
     clear hq c0 c5 c6
     obtain ⟨c0, -, -, -, -, -, -, -, -, c12⟩ := SB.out _ H4.out
     cases r2
     case false =>
      have HL : r = false := by rw [HR0.out]; simp
      subst HL
      go_wp2_with fail
      go_ret
      exact ⟨rfl, H4.out.bel⟩
     case true =>
      by_cases hs : (16 : Int) < q.sk.length
      case pos =>
       have HL : r = false := by
        rw [HR0.out]
        have : ¬ q.sk.length ≤ 16 := by omega
        simp [this]
       subst HL
       go_wp2_with fail
       go_ret
       exact ⟨rfl, H4.out.bel⟩
      case neg =>
       have hs' : decide ((16 : Int) < q.sk.length) = false := by simp [hs]
       have HL : r = zz := by
        rw [HR0.out]
        have : q.sk.length ≤ 16 := by omega
        simp [this]
       obtain ⟨-, -, -, -, -, c5, c6, -⟩ := SB.out _ H4.out
       subst HL
       go_wp2_with fail
       go_ret
       exact ⟨rfl, H4.out.bel⟩
   ·obtain ⟨c0, -, -, c3, c4, -⟩ := SB.out _ H1.out
    go_enter Tryz.func91, Tryz.ntmps91
    go_wp2_with fail
    refine (C1.out _ H1.out).mono ?_
    rintro e w3 ⟨rfl, hq⟩
    have H3 : Hid _ := hq
    clear hq c0 c3 c4
    cases r1
    case false =>
     have HL : r = false := by rw [HR0.out]; simp
     subst HL
     go_wp2_with fail
     go_ret
     exact ⟨rfl, H3.out.bel⟩
    case true =>
     obtain ⟨c0, -, -, -, -, c5, c6, -⟩ := SB.out _ H3.out
     go_wp2_with fail
     refine (C2.out _ H3.out).mono ?_
     rintro e w4 ⟨rfl, hq⟩
     have H4 : Hid _ := hq
     clear hq c0 c5 c6
     obtain ⟨c0, -, -, -, -, -, -, -, -, c12⟩ := SB.out _ H4.out
     cases r2
     case false =>
      have HL : r = false := by rw [HR0.out]; simp
      subst HL
      go_wp2_with fail
      go_ret
      exact ⟨rfl, H4.out.bel⟩
     case true =>
      by_cases hs : (16 : Int) < q.sk.length
      case pos =>
       have HL : r = false := by
        rw [HR0.out]
        have : ¬ q.sk.length ≤ 16 := by omega
        simp [this]
       subst HL
       go_wp2_with fail
       go_ret
       exact ⟨rfl, H4.out.bel⟩
      case neg =>
       have hs' : decide ((16 : Int) < q.sk.length) = false := by simp [hs]
       have HL : r = true := by
        rw [HR0.out]
        have : q.sk.length ≤ 16 := by omega
        simp [this]
       subst HL
       go_wp2_with fail
       go_ret
       exact ⟨rfl, H4.out.bel⟩
   ·obtain ⟨c0, -, -, c3, c4, -⟩ := SB.out _ H1.out
    go_enter Tryz.func91, Tryz.ntmps91
    go_wp2_with fail
    refine (C1.out _ H1.out).mono ?_
    rintro e w3 ⟨rfl, hq⟩
    have H3 : Hid _ := hq
    clear hq c0 c3 c4
    cases r1
    case false =>
     have HL : r = false := by rw [HR0.out]; simp
     subst HL
     go_wp2_with fail
     go_ret
     exact ⟨rfl, H3.out.bel⟩
    case true =>
     obtain ⟨c0, -, -, -, -, c5, c6, -⟩ := SB.out _ H3.out
     go_wp2_with fail
     refine (C2.out _ H3.out).mono ?_
     rintro e w4 ⟨rfl, hq⟩
     have H4 : Hid _ := hq
     clear hq c0 c5 c6
     obtain ⟨c0, -, -, -, -, -, -, -, -, c12⟩ := SB.out _ H4.out
     cases r2
     case false =>
      have HL : r = false := by rw [HR0.out]; simp
      subst HL
      go_wp2_with fail
      go_ret
      exact ⟨rfl, H4.out.bel⟩
     case true =>
      by_cases hs : (16 : Int) < q.sk.length
      case pos =>
       have HL : r = false := by
        rw [HR0.out]
        have : ¬ q.sk.length ≤ 16 := by omega
        simp [this]
       subst HL
       go_wp2_with fail
       go_ret
       exact ⟨rfl, H4.out.bel⟩
      case neg =>
       have hs' : decide ((16 : Int) < q.sk.length) = false := by simp [hs]
       have HL : r = true := by
        rw [HR0.out]
        have : q.sk.length ≤ 16 := by omega
        simp [this]
       subst HL
       go_wp2_with fail
       go_ret
       exact ⟨rfl, H4.out.bel⟩
   ·obtain ⟨c0, -, -, c3, c4, -⟩ := SB.out _ H1.out
    go_enter Tryz.func91, Tryz.ntmps91
    go_wp2_with fail
    refine (C1.out _ H1.out).mono ?_
    rintro e w3 ⟨rfl, hq⟩
    have H3 : Hid _ := hq
    clear hq c0 c3 c4
    cases r1
    case false =>
     have HL : r = false := by rw [HR0.out]; simp
     subst HL
     go_wp2_with fail
     go_ret
     exact ⟨rfl, H3.out.bel⟩
    case true =>
     obtain ⟨c0, -, -, -, -, c5, c6, -⟩ := SB.out _ H3.out
     go_wp2_with fail
     refine (C2.out _ H3.out).mono ?_
     rintro e w4 ⟨rfl, hq⟩
     have H4 : Hid _ := hq
     clear hq c0 c5 c6
     obtain ⟨c0, -, -, -, -, -, -, -, -, c12⟩ := SB.out _ H4.out
     cases r2
     case false =>
      have HL : r = false := by rw [HR0.out]; simp
      subst HL
      go_wp2_with fail
      go_ret
      exact ⟨rfl, H4.out.bel⟩
     case true =>
      by_cases hs : (16 : Int) < q.sk.length
      case pos =>
       have HL : r = false := by
        rw [HR0.out]
        have : ¬ q.sk.length ≤ 16 := by omega
        simp [this]
       subst HL
       go_wp2_with fail
       go_ret
       exact ⟨rfl, H4.out.bel⟩
      case neg =>
       have hs' : decide ((16 : Int) < q.sk.length) = false := by simp [hs]
       have HL : r = true := by
        rw [HR0.out]
        have : q.sk.length ≤ 16 := by omega
        simp [this]
       subst HL
       go_wp2_with fail
       go_ret
       exact ⟨rfl, H4.out.bel⟩
   ·obtain ⟨c0, -, -, c3, c4, -⟩ := SB.out _ H1.out
    go_enter Tryz.func91, Tryz.ntmps91
    go_wp2_with fail
    refine (C1.out _ H1.out).mono ?_
    rintro e w3 ⟨rfl, hq⟩
    have H3 : Hid _ := hq
    clear hq c0 c3 c4
    cases r1
    case false =>
     have HL : r = false := by rw [HR0.out]; simp
     subst HL
     go_wp2_with fail
     go_ret
     exact ⟨rfl, H3.out.bel⟩
    case true =>
     obtain ⟨c0, -, -, -, -, c5, c6, -⟩ := SB.out _ H3.out
     go_wp2_with fail
     refine (C2.out _ H3.out).mono ?_
     rintro e w4 ⟨rfl, hq⟩
     have H4 : Hid _ := hq
     clear hq c0 c5 c6
     obtain ⟨c0, -, -, -, -, -, -, -, -, c12⟩ := SB.out _ H4.out
     cases r2
     case false =>
      have HL : r = false := by rw [HR0.out]; simp
      subst HL
      go_wp2_with fail
      go_ret
      exact ⟨rfl, H4.out.bel⟩
     case true =>
      by_cases hs : (16 : Int) < q.sk.length
      case pos =>
       have HL : r = false := by
        rw [HR0.out]
        have : ¬ q.sk.length ≤ 16 := by omega
        simp [this]
       subst HL
       go_wp2_with fail
       go_ret
       exact ⟨rfl, H4.out.bel⟩
      case neg =>
       have hs' : decide ((16 : Int) < q.sk.length) = false := by simp [hs]
       have HL : r = true := by
        rw [HR0.out]
        have : q.sk.length ≤ 16 := by omega
        simp [this]
       subst HL
       go_wp2_with fail
       go_ret
       exact ⟨rfl, H4.out.bel⟩
end Go.Proofs.YtajjnmdomabmkaaGreat
namespace Go.Proofs.YtajjnmdomabmkaaGreat
open Go.RowKit
def TOwn (base : Nat) (v : Value) (L : List (Int × Int)) (w : World) : Prop := w.ownsRow base 30 2 v L.length (rowC Lat.txc L)
def TAt (B : Nat) (v : Value) (L : List (Int × Int)) (w : World) : Prop := RwAt B 2 v L.length (rowC Lat.txc L) w
theorem below_grown_tx {base : Nat} {v : Value} {L : List (Int × Int)} {a w w' : World} (hb : Below base a w) (hs : base ≤ w.heap.size) (hI : TOwn base v L w) (hg : w.grownBy w' v.ownBlock) : Below base a w' :=
 hb.grown hg hs fun k hk => (World.ownsRow.lt hI k hk).1
theorem wpList_append_tx {ops : Array Oper} {rest : List Oper} {o : Oper} {a : Act} {Q : Exit → Act → World → Prop} {w : World} (hw : Region.wanted o (yielded ops a.tmps) = true) (s x : Operand) (ho : o.op = .call { callee := .builtin .append, args := #[s, x], argTypes := #[34, 34] })
  (base B : Nat) (L X : List (Int × Int)) (v vx : Value) (hs : a.eval s = v) (hx : a.eval x = vx) (hI : TOwn base v L w) (hX : TAt B vx X w) (hB : base ≤ w.heap.size) (hl : L.length + X.length ≤ 1048576)
  (h : ∀ v' w', TOwn base v' (L ++ X) w' → w.grownBy w' v.ownBlock → wpList Tryz.prog ops Q rest (a.put o.dst v') w') : wpList Tryz.prog ops Q (o :: rest) a w := by
 obtain ⟨i0, hin0, hi0, hi1, hi2⟩ := info_parts info30
 refine wpList_append_rw (H := ⟨hI, hX, rowC_cells Lat.txc (fun x u hu => by simp [Lat.txc] at hu; rcases hu with rfl | rfl <;> rfl) _, hB, hl⟩) Tryz.underlying34 hin0 hi0 hi1 hi2 rfl (by decide) (by decide) s x ho hw hs hx ?_
 intro v' w' h1 h2 _
 refine h v' w' ?_ h2
 unfold TOwn
 rw [rowC_append, List.length_append]
 exact h1
theorem grow310 (n : Nat) (w : World) (hn : n ≤ 1048576) :
  Calls Tryz.prog 310 #[.slice none 0 0, .int .i64 n] w fun e w' => ∃ v', e = .returned v' ∧ TOwn w.heap.size v' [] w' ∧ Below w.heap.size w w' := by
 obtain ⟨i0, hi, hz0, hz1, hz2⟩ := info_parts info30
 by_cases h0 : n = 0
 ·subst h0
  go_enter Tryz.func310, Tryz.ntmps310
  go_wp2
  go_ret
  exact ⟨_, rfl, Lat.own_nil _ _ _ _, Below.refl _ _⟩
 ·have hrz := fun ty => Lib.run_append_grow_zeros (P := Tryz.prog) w 34 3 ty 30 i0 _ .i64 .i64 Tryz.underlying34 Tryz.underlying3 hi hz0 none 0 0 [] (run_firstCells_none w.drew i0.size 0 0 0) n (by omega) (by rw [hz1]; decide) (by omega) (by omega) (by rw [hz2]; omega) (by rw [hz2]; exact growslice_fits (by omega) (by omega))
  have hG := grownCap_ge w (0 + n) 0 30
  have hG2 := grownCap_le_maxLen w (0 + n) 0 30 (by unfold maxLen; omega)
  simp only [Nat.zero_add] at hrz hG hG2
  obtain ⟨G, hGe⟩ : ∃ G, grownCap w n 0 30 = G := ⟨_, rfl⟩
  rw [hGe] at hrz hG hG2
  obtain ⟨cur, hcur⟩ : ∃ cur, cur = (([] : List Value).toArray ++ Builtin.zeroCells (Value.agg #[.int .u32 0, .int .u32 0]).cells n ++ Builtin.zeroCells (Value.agg #[.int .u32 0, .int .u32 0]).cells (G - n)) := ⟨_, rfl⟩
  rw [← hcur] at hrz
  have HS : Hid (cur.size = G * 2) := by
   show _ = _
   rw [hcur]
   simp only [Array.size_append, List.size_toArray, size_zeroCells, List.length_nil]
   show 0 + n * 2 + (G - n) * 2 = G * 2
   omega
  have HG : Hid (G ≤ maxLen) := hG2
  have h1 : ¬ ((n : Int) < 0) := by omega
  have h2 : (0 : Int) < n := by omega
  clear hcur hGe hi hz0 hz1 hz2 hG2
  go_enter Tryz.func310, Tryz.ntmps310
  go_wp2_with (at_builtin; refine Lib.wpList_append_run _ rfl _ _ _ _ rfl _ _ rfl rfl _ _ (hrz _) ?_)
  go_ret
  refine ⟨_, rfl, ⟨by simp [rowC], .inr ⟨w.heap.size, G, cur, rfl, Nat.le_refl _, heap_alloc_new w.drew _, Nat.zero_le _, HG.out, HS.out, by simp [rowC]⟩⟩, ?_⟩
  exact ⟨rfl, rfl, rfl, by simp, fun k hk => heap_alloc_old w.drew _ hk⟩
def dz : Value × List (Int × Int) := (.slice none 0 0, [])
def cat : List (Value × List (Int × Int)) → List (Int × Int)
 | [] => []
 | x :: r => x.2 ++ cat r
theorem cat_snoc (l : List (Value × List (Int × Int))) (x : Value × List (Int × Int)) : cat (l ++ [x]) = cat l ++ x.2 := by
 induction l with
 | nil => simp [cat]
 | cons a l ih => simp [cat, ih]
theorem cat_take {LS : List (Value × List (Int × Int))} {k : Nat} (h : k < LS.length) : cat (LS.take (k + 1)) = cat (LS.take k) ++ (LS.getD k dz).2 := by
 rw [List.take_succ_eq_append_getElem h, cat_snoc]
 simp [List.getD, h]
theorem cat_le (LS : List (Value × List (Int × Int))) (k : Nat) : (cat (LS.take k)).length ≤ (cat LS).length := by
 induction LS generalizing k with
 | nil => simp [cat]
 | cons a l ih =>
  cases k with
  | zero => simp [cat]
  | succ k =>
   have := ih k
   simp only [List.take_succ_cons, cat, List.length_append]
   omega
theorem concat261 (B sb : Nat) (LS : List (Value × List (Int × Int))) (w : World) (hc : ∀ k, k < LS.length → w.cell? ⟨sb, k, none⟩ = some (LS.getD k dz).1) (hv : ∀ k, k < LS.length → TAt B (LS.getD k dz).1 (LS.getD k dz).2 w)
  (hsb : sb < w.heap.size) (hB : B ≤ w.heap.size) (hl : (cat LS).length ≤ 1048576) (hn : LS.length ≤ 1000) :
  Calls Tryz.prog 261 #[.slice (some ⟨sb, 0, none⟩) LS.length LS.length] w fun e w' => ∃ v', e = .returned v' ∧ TAt w'.heap.size v' (cat LS) w' ∧ Below w.heap.size w w' := by
 have HC : Hid _ := hc
 have HV : Hid _ := hv
 have HSb : Hid _ := hsb
 have HB : Hid _ := hB
 have HL : Hid _ := hl
 clear hc hv hsb hB hl
 go_enter Tryz.func261, Tryz.ntmps261
 go_wp2_with fail
 go_loopw [3, 11] (fun s i wr => ∃ k : Nat, k ≤ LS.length ∧ i = .int .i64 k ∧ s = .int .i64 (cat (LS.take k)).length ∧ w = wr) (fun _ i _ => LS.length - (intOf i).toNat)
 case atStart => exact ⟨0, Nat.zero_le _, rfl, by simp [cat], rfl⟩
 case round =>
  obtain ⟨k, hk, rfl, rfl, rfl⟩ := hrel
  by_cases hkl : k < LS.length
  ·have c0 := HC.out k hkl
   obtain ⟨ao, cap, hvk, -, hlc, hcm, -⟩ := HV.out k hkl
   rw [hvk] at c0
   clear hvk
   have HT : Hid _ := cat_take hkl
   have hle : (cat (LS.take k)).length ≤ 1048576 := Nat.le_trans (cat_le LS k) HL.out
   have hle2 : (cat (LS.take k)).length + (LS.getD k dz).2.length ≤ 1048576 := by
    have h1 := cat_le LS (k + 1)
    rw [HT.out, List.length_append] at h1
    exact Nat.le_trans h1 HL.out
   have HT2 : Hid ((cat (LS.take (k + 1))).length = (cat (LS.take k)).length + (LS.getD k dz).2.length) := by rw [HT.out]; show _ = _; simp
   clear HT
   generalize (LS.getD k dz).2.length = m at *
   generalize (cat (LS.take k)).length = t at *
   have hkl' : (k : Int) < LS.length := by omega
   have hadd : IntKind.i64.wrap ((t : Int) + m) = ((t + m : Nat) : Int) := by simp [IntKind.wrap, IntKind.signed, IntKind.bits]; omega
   have hnn : ¬ (((t + m : Nat) : Int) < 0) := by omega
   go_wp2_with fail
   go_roundw
   case rel => exact ⟨k + 1, by omega, by go_num, by rw [HT2.out]; go_num, by trivial⟩
   case measure => simp [intOf]; omega
  ·have hkl' : ¬ (k : Int) < LS.length := by omega
   have HK : Hid (cat (LS.take k) = cat LS) := by rw [List.take_of_length_le (by omega)]; exact rfl
   rw [HK.out]
   clear HK
   go_wp2_with fail
   refine (grow310 _ _ HL.out).mono ?_
   rintro e w1 ⟨v1, rfl, ho1, hb1⟩
   have HO : Hid _ := ho1
   have H1 : Hid _ := hb1
   clear ho1 hb1
   go_wp2_with fail
   go_loopw [6, 27] (fun s i wr => ∃ k : Nat, k ≤ LS.length ∧ i = .int .i64 k ∧ TOwn w.heap.size s (cat (LS.take k)) wr ∧ Below w.heap.size w wr) (fun _ i _ => LS.length - (intOf i).toNat)
   case atStart => exact ⟨0, Nat.zero_le _, rfl, HO.out, H1.out⟩
   case round =>
    obtain ⟨k, hk, rfl, hown, hbr⟩ := hrel
    have HOk : Hid _ := hown
    have HBr : Hid _ := hbr
    clear hown hbr
    by_cases hkl : k < LS.length
    ·have c0 : wr.cell? ⟨sb, k, none⟩ = some (LS.getD k dz).1 := by rw [HBr.out.cell (p := ⟨_, _, none⟩) HSb.out]; exact HC.out k hkl
     have HVk : Hid (TAt w.heap.size (LS.getD k dz).1 (LS.getD k dz).2 wr) := RwAt.on (RwAt.le (HV.out k hkl) HB.out) HBr.out
     have HT : Hid _ := cat_take hkl
     have HLe : Hid ((cat (LS.take k)).length + (LS.getD k dz).2.length ≤ 1048576) := by
      have h1 := cat_le LS (k + 1)
      rw [HT.out, List.length_append] at h1
      exact Nat.le_trans h1 HL.out
     generalize (LS.getD k dz).1 = vk at *
     generalize (LS.getD k dz).2 = Xk at *
     have hkl' : (k : Int) < LS.length := by omega
     go_wp2_with (at_builtin; refine wpList_append_tx rfl _ _ rfl w.heap.size w.heap.size (cat (LS.take k)) Xk _ _ rfl rfl HOk.out HVk.out HBr.out.size HLe.out ?_)
     intro v' w2 hown hg
     have HO2 : Hid (TOwn w.heap.size v' (cat (LS.take (k + 1))) w2) := by rw [HT.out]; exact hown
     have HB2 : Hid (Below w.heap.size w w2) := below_grown_tx HBr.out HBr.out.size HOk.out hg
     clear hown hg
     go_wp2_with fail
     go_roundw
     case rel => exact ⟨k + 1, by omega, by go_num, HO2.out, HB2.out⟩
     case measure => simp [intOf]; omega
    ·have hkl' : ¬ (k : Int) < LS.length := by omega
     go_wp2
     go_ret
     have hf := HOk.out
     rw [List.take_of_length_le (by omega)] at hf
     exact ⟨_, rfl, rw_own hf, HBr.out⟩
end Go.Proofs.YtajjnmdomabmkaaGreat
