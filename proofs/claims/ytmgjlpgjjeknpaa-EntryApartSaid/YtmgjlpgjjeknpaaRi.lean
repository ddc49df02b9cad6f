/-
  The document's Right.
-/
import Derived.Test.YtmgjlpgjjeknpaaBu
namespace Go.Proofs.Ytmgjlpgjjeknpaa
open Go.RowKit

open Go.RowKit Go.Sort

structure Veil (p : Prop) : Prop where
  out : p
theorem vq_step {P : Program} {ops : Array Oper} {C : World → Prop} {Q : Act → Prop} {a : Act} {o : Oper} {rest : List Oper}
    (h : ∀ K : Act → Prop, (∀ a, Veil (wpQuiet P ops C Q rest a) → K a) → if Region.wanted o (yielded ops a.tmps) then o.quiet P a C K else K (a.put o.dst undef)) : Veil (wpQuiet P ops C Q (o :: rest) a) :=
  ⟨wpQuiet_step fun K hK => h K fun a ha => hK a ha.out⟩
theorem vq_nil {P : Program} {ops : Array Oper} {C : World → Prop} {Q : Act → Prop} {a : Act} (h : Q a) : Veil (wpQuiet P ops C Q [] a) := ⟨wpQuiet_nil h⟩

theorem run_eql27z (p l : Nat) (w : World) : (binOp .eql 27 (.agg #[.int .u64 (p : Int), .int .u32 (l : Int)]) (.agg #[.int .u64 0, .int .u32 0])).run Try.prog w = .ok (.bool (p == 0 && l == 0)) w := run_eql27 p l 0 0 w
theorem rightB_S (p l : Nat) : rightB (p : Int) (l : Int) = rightS p l := by
  unfold rightB rightS
  rw [Bool.eq_iff_iff]
  simp only [decide_eq_true_eq, Bool.and_eq_true]
  omega
/-- An entry's box, and its writes. -/
structure Eb (w : World) (b : Nat) (e : En) (ao : Option Addr) (cp : Nat) (W : World) : Prop where
  bel : Below w.heap.size w W
  x : W.heap[b]? = some (.cells #[.int .i64 e.k, .int .u32 (e.c : Int), .int .u32 (e.n : Int), .int .u64 (e.sp : Int), .int .u32 (e.sl : Int), .int .u64 (e.ap : Int), .int .u32 (e.al : Int), .int .u64 (e.mp : Int), .int .u32 (e.ml : Int), .string (bs e.prim), .int .u8 (e.pt : Int), .bool e.dn, .slice ao e.ws.length cp] 30 (0, 0))
  ws : WsAt w.heap.size (.slice ao e.ws.length cp) e.ws W
theorem Eb.on {w W W' : World} {b : Nat} {e : En} {ao : Option Addr} {cp : Nat} (h : Eb w b e ao cp W) (hb : Below W.heap.size W W') : Eb w b e ao cp W' :=
  ⟨h.bel.trans (hb.mono h.bel.size), by rw [hb.block _ (Array.getElem?_eq_some_iff.1 h.x).1]; exact h.x, h.ws.on (hb.mono h.bel.size)⟩
theorem Eb.dr {w W : World} {b : Nat} {e : En} {ao : Option Addr} {cp : Nat} (h : Eb w b e ao cp W) : Eb w b e ao cp W.drew := h.on (Below.refl _ _).drew
theorem Eb.wsx {w W : World} {b : Nat} {e : En} {ao : Option Addr} {cp : Nat} (h : Eb w b e ao cp W) : WsAt W.heap.size (.slice ao e.ws.length cp) e.ws W := RwAt.le h.ws h.bel.size
theorem Eb.thirteen {w W : World} {b : Nat} {e : En} {ao : Option Addr} {cp : Nat} (h : Eb w b e ao cp W) : W.cell? ⟨b, 0, none⟩ = some (.int .i64 e.k) ∧ W.cell? ⟨b, 1, none⟩ = some (.int .u32 (e.c : Int)) ∧ W.cell? ⟨b, 2, none⟩ = some (.int .u32 (e.n : Int)) ∧ W.cell? ⟨b, 3, none⟩ = some (.int .u64 (e.sp : Int)) ∧ W.cell? ⟨b, 4, none⟩ = some (.int .u32 (e.sl : Int)) ∧ W.cell? ⟨b, 5, none⟩ = some (.int .u64 (e.ap : Int)) ∧ W.cell? ⟨b, 6, none⟩ = some (.int .u32 (e.al : Int)) ∧ W.cell? ⟨b, 7, none⟩ = some (.int .u64 (e.mp : Int)) ∧ W.cell? ⟨b, 8, none⟩ = some (.int .u32 (e.ml : Int)) ∧ W.cell? ⟨b, 9, none⟩ = some (.string (bs e.prim)) ∧ W.cell? ⟨b, 10, none⟩ = some (.int .u8 (e.pt : Int)) ∧ W.cell? ⟨b, 11, none⟩ = some (.bool e.dn) ∧ W.cell? ⟨b, 12, none⟩ = some (.slice ao e.ws.length cp) ∧ Eb w b e ao cp W :=
  ⟨block_cell h.x rfl, block_cell h.x rfl, block_cell h.x rfl, block_cell h.x rfl, block_cell h.x rfl, block_cell h.x rfl, block_cell h.x rfl, block_cell h.x rfl, block_cell h.x rfl, block_cell h.x rfl, block_cell h.x rfl, block_cell h.x rfl, block_cell h.x rfl, h⟩
theorem eb_new {w : World} {e : En} {ao : Option Addr} {cp : Nat} (h : WsAt w.heap.size (.slice ao e.ws.length cp) e.ws w) : Eb w w.heap.size e ao cp (w.alloc (.cells #[.int .i64 e.k, .int .u32 (e.c : Int), .int .u32 (e.n : Int), .int .u64 (e.sp : Int), .int .u32 (e.sl : Int), .int .u64 (e.ap : Int), .int .u32 (e.al : Int), .int .u64 (e.mp : Int), .int .u32 (e.ml : Int), .string (bs e.prim), .int .u8 (e.pt : Int), .bool e.dn, .slice ao e.ws.length cp] 30)) := ⟨al _, heap_alloc_new w _, h.on (al _)⟩
/-- The writes of an entry with just the fields of its kind. -/
theorem bare_ws {w W : World} {b : Nat} {e : En} {ao : Option Addr} {cp : Nat} (h : Eb w b e ao cp W) : ∃ ab cb, bareS e.k (.slice ao e.ws.length cp) = .slice ab (bareE e).ws.length cb ∧ WsAt W.heap.size (.slice ab (bareE e).ws.length cb) (bareE e).ws W := by
  unfold bareS bareE
  cases hasWs e.k with
  | true => exact ⟨ao, cp, rfl, h.wsx⟩
  | false => exact ⟨none, 0, rfl, RwAt.nil _ _ _⟩
theorem rightE_out {e : En} (h : ¬ (1 ≤ e.k ∧ e.k ≤ 9)) : rightE e = false := by
  unfold rightE
  by_cases h1 : 1 ≤ e.k
  · have : ¬ e.k ≤ 9 := fun h2 => h ⟨h1, h2⟩
    simp [this]
  · simp [h1]
theorem rightE_in {e : En} (h1 : 1 ≤ e.k) (h2 : e.k ≤ 9) : rightE e = (sameE e (bareE e) && (rightS e.sp e.sl && rightS e.ap e.al && rightS e.mp e.ml) && kindOk e) := by
  unfold rightE
  simp [h1, h2]
theorem kindOk_else {e : En} (h2 : ¬ e.k = 2) (h3 : ¬ e.k = 3) (h4 : ¬ e.k = 4) (h8 : ¬ e.k = 8) (h9 : ¬ e.k = 9) : kindOk e = true := by
  unfold kindOk
  rw [if_neg h2, if_neg (by omega), if_neg h8, if_neg h9]

set_option maxHeartbeats 3200000 in
set_option maxRecDepth 100000 in
theorem right22 (e : En) (ao : Option Addr) (cp : Nat) (w : World) (hws : WsAt w.heap.size (.slice ao e.ws.length cp) e.ws w) :
    Calls Try.prog 19 #[.agg #[.int .i64 e.k, .int .u32 (e.c : Int), .int .u32 (e.n : Int), .int .u64 (e.sp : Int), .int .u32 (e.sl : Int), .int .u64 (e.ap : Int), .int .u32 (e.al : Int), .int .u64 (e.mp : Int), .int .u32 (e.ml : Int), .string (bs e.prim), .int .u8 (e.pt : Int), .bool e.dn, .slice ao e.ws.length cp]] w fun r w' => r = .returned (.bool (rightE e)) ∧ Below w.heap.size w w' := by
  have H0 : Hid _ := eb_new hws
  obtain ⟨ao', cap, he, hla, hma⟩ := hws.shape
  simp only [Value.slice.injEq, true_and] at he
  obtain ⟨rfl, rfl⟩ := he
  have hL1 : e.ws.length < 9223372036854775808 := by omega
  obtain ⟨W1, hW1⟩ : ∃ W1, w.alloc (.cells #[.int .i64 e.k, .int .u32 (e.c : Int), .int .u32 (e.n : Int), .int .u64 (e.sp : Int), .int .u32 (e.sl : Int), .int .u64 (e.ap : Int), .int .u32 (e.al : Int), .int .u64 (e.mp : Int), .int .u32 (e.ml : Int), .string (bs e.prim), .int .u8 (e.pt : Int), .bool e.dn, .slice ao e.ws.length cp] 30) = W1 := ⟨_, rfl⟩
  obtain ⟨b, hb⟩ : ∃ b, w.heap.size = b := ⟨_, rfl⟩
  rw [hW1] at H0
  have H1 : Hid (Eb w b e ao cp W1) := by rw [← hb]; exact H0.out
  clear H0 hws hla hma
  have p0 : W1.cell? ⟨b, 0, none⟩ = some (.int .i64 e.k) := block_cell H1.out.x rfl
  by_cases hk1 : e.k < 1
  · have HY : Hid (rightE e = false) := rightE_out (by omega)
    go_enter Try.func19, Try.ntmps19
    go_wp2_with fail
    clear hb hW1
    go_quiet (fail)
    go_wp2_with fail
    go_ret
    exact ⟨by rw [HY.out]; rfl, below_drewN H1.out.bel _⟩
  · by_cases hk9 : 9 < e.k
    · have HY : Hid (rightE e = false) := rightE_out (by omega)
      go_enter Try.func19, Try.ntmps19
      go_wp2_with fail
      clear hb hW1
      go_quiet (fail)
      go_wp2_with fail
      go_ret
      exact ⟨by rw [HY.out]; rfl, below_drewN H1.out.bel _⟩
    · have HY : Hid _ := rightE_in (e := e) (by omega) (by omega)
      have CB : Hid (∀ W, Eb w b e ao cp W → Calls Try.prog 45 #[.agg #[.int .i64 e.k, .int .u32 (e.c : Int), .int .u32 (e.n : Int), .int .u64 (e.sp : Int), .int .u32 (e.sl : Int), .int .u64 (e.ap : Int), .int .u32 (e.al : Int), .int .u64 (e.mp : Int), .int .u32 (e.ml : Int), .string (bs e.prim), .int .u8 (e.pt : Int), .bool e.dn, .slice ao e.ws.length cp]] W fun r w' => r = .returned (.agg #[.int .i64 (bareE e).k, .int .u32 ((bareE e).c : Int), .int .u32 ((bareE e).n : Int), .int .u64 ((bareE e).sp : Int), .int .u32 ((bareE e).sl : Int), .int .u64 ((bareE e).ap : Int), .int .u32 ((bareE e).al : Int), .int .u64 ((bareE e).mp : Int), .int .u32 ((bareE e).ml : Int), .string (bs (bareE e).prim), .int .u8 ((bareE e).pt : Int), .bool (bareE e).dn, bareS e.k (.slice ao e.ws.length cp)]) ∧ Below W.heap.size W w') := fun W hW => bare44 e ao e.ws.length cp W
      have CS : Hid (∀ W, Eb w b e ao cp W → Calls Try.prog 12 #[.agg #[.int .i64 e.k, .int .u32 (e.c : Int), .int .u32 (e.n : Int), .int .u64 (e.sp : Int), .int .u32 (e.sl : Int), .int .u64 (e.ap : Int), .int .u32 (e.al : Int), .int .u64 (e.mp : Int), .int .u32 (e.ml : Int), .string (bs e.prim), .int .u8 (e.pt : Int), .bool e.dn, .slice ao e.ws.length cp], .agg #[.int .i64 (bareE e).k, .int .u32 ((bareE e).c : Int), .int .u32 ((bareE e).n : Int), .int .u64 ((bareE e).sp : Int), .int .u32 ((bareE e).sl : Int), .int .u64 ((bareE e).ap : Int), .int .u32 ((bareE e).al : Int), .int .u64 ((bareE e).mp : Int), .int .u32 ((bareE e).ml : Int), .string (bs (bareE e).prim), .int .u8 ((bareE e).pt : Int), .bool (bareE e).dn, bareS e.k (.slice ao e.ws.length cp)]] W fun r w' => r = .returned (.bool (sameE e (bareE e))) ∧ Below W.heap.size W w') := fun W hW => by
        obtain ⟨ab, cb, e1, h1⟩ := bare_ws hW
        rw [e1]
        exact same12 e (bareE e) ao ab cp cb W hW.wsx h1
      generalize bareS e.k (.slice ao e.ws.length cp) = sb at *
      obtain ⟨eb, heb⟩ : ∃ eb, bareE e = eb := ⟨_, rfl⟩
      rw [heb] at CB CS HY
      clear heb
      obtain ⟨z, hz⟩ : ∃ z, sameE e eb = z := ⟨_, rfl⟩
      rw [hz] at CS HY
      clear hz
      have cB : Hid (∀ d os, Calls Try.prog 45 #[.agg #[.int .i64 e.k, .int .u32 (e.c : Int), .int .u32 (e.n : Int), .int .u64 (e.sp : Int), .int .u32 (e.sl : Int), .int .u64 (e.ap : Int), .int .u32 (e.al : Int), .int .u64 (e.mp : Int), .int .u32 (e.ml : Int), .string (bs e.prim), .int .u8 (e.pt : Int), .bool e.dn, .slice ao e.ws.length cp]] (Sort.grow (redrawn W1 d) os) fun r w'' => r = .returned (.agg #[.int .i64 eb.k, .int .u32 (eb.c : Int), .int .u32 (eb.n : Int), .int .u64 (eb.sp : Int), .int .u32 (eb.sl : Int), .int .u64 (eb.ap : Int), .int .u32 (eb.al : Int), .int .u64 (eb.mp : Int), .int .u32 (eb.ml : Int), .string (bs eb.prim), .int .u8 (eb.pt : Int), .bool eb.dn, sb]) ∧ ∃ p : Regrown, w'' = Sort.grow (redrawn W1 p.d) p.os) := fun d os => Calls.regrown_of (CB.out _ (H1.out.on (below_regrown W1 d os)))
      have cS : Hid (∀ d os, Calls Try.prog 12 #[.agg #[.int .i64 e.k, .int .u32 (e.c : Int), .int .u32 (e.n : Int), .int .u64 (e.sp : Int), .int .u32 (e.sl : Int), .int .u64 (e.ap : Int), .int .u32 (e.al : Int), .int .u64 (e.mp : Int), .int .u32 (e.ml : Int), .string (bs e.prim), .int .u8 (e.pt : Int), .bool e.dn, .slice ao e.ws.length cp], .agg #[.int .i64 eb.k, .int .u32 (eb.c : Int), .int .u32 (eb.n : Int), .int .u64 (eb.sp : Int), .int .u32 (eb.sl : Int), .int .u64 (eb.ap : Int), .int .u32 (eb.al : Int), .int .u64 (eb.mp : Int), .int .u32 (eb.ml : Int), .string (bs eb.prim), .int .u8 (eb.pt : Int), .bool eb.dn, sb]] (Sort.grow (redrawn W1 d) os) fun r w'' => r = .returned (.bool z) ∧ ∃ p : Regrown, w'' = Sort.grow (redrawn W1 p.d) p.os) := fun d os => Calls.regrown_of (CS.out _ (H1.out.on (below_regrown W1 d os)))
      have HE : Hid (∀ d os, Eb w b e ao cp (Sort.grow (redrawn W1 d) os)) := fun d os => H1.out.on (below_regrown W1 d os)
      have C1 : Hid (∀ p l : Nat, ∀ W, 1 = 1 → Calls Try.prog 46 #[.agg #[.int .u64 (p : Int), .int .u32 (l : Int)]] W fun r w' => r = .returned (.bool (rightS p l)) ∧ Below W.heap.size W w') := fun p l W _ => by rw [← rightB_S]; exact rightR p l W
      have g0 := cell_regrown (show W1.cell? ⟨b, 0, none⟩ = some (.int .i64 e.k) from block_cell H1.out.x rfl)
      have g1 := cell_regrown (show W1.cell? ⟨b, 1, none⟩ = some (.int .u32 (e.c : Int)) from block_cell H1.out.x rfl)
      have g2 := cell_regrown (show W1.cell? ⟨b, 2, none⟩ = some (.int .u32 (e.n : Int)) from block_cell H1.out.x rfl)
      have g3 := cell_regrown (show W1.cell? ⟨b, 3, none⟩ = some (.int .u64 (e.sp : Int)) from block_cell H1.out.x rfl)
      have g4 := cell_regrown (show W1.cell? ⟨b, 4, none⟩ = some (.int .u32 (e.sl : Int)) from block_cell H1.out.x rfl)
      have g5 := cell_regrown (show W1.cell? ⟨b, 5, none⟩ = some (.int .u64 (e.ap : Int)) from block_cell H1.out.x rfl)
      have g6 := cell_regrown (show W1.cell? ⟨b, 6, none⟩ = some (.int .u32 (e.al : Int)) from block_cell H1.out.x rfl)
      have g7 := cell_regrown (show W1.cell? ⟨b, 7, none⟩ = some (.int .u64 (e.mp : Int)) from block_cell H1.out.x rfl)
      have g8 := cell_regrown (show W1.cell? ⟨b, 8, none⟩ = some (.int .u32 (e.ml : Int)) from block_cell H1.out.x rfl)
      have g9 := cell_regrown (show W1.cell? ⟨b, 9, none⟩ = some (.string (bs e.prim)) from block_cell H1.out.x rfl)
      have g10 := cell_regrown (show W1.cell? ⟨b, 10, none⟩ = some (.int .u8 (e.pt : Int)) from block_cell H1.out.x rfl)
      have g11 := cell_regrown (show W1.cell? ⟨b, 11, none⟩ = some (.bool e.dn) from block_cell H1.out.x rfl)
      have g12 := cell_regrown (show W1.cell? ⟨b, 12, none⟩ = some (.slice ao e.ws.length cp) from block_cell H1.out.x rfl)
      clear CB CS
      go_enter Try.func19, Try.ntmps19
      go_wp2_with fail
      clear hb hW1 p0
      cases z
      all_goals
        refine wp_region_quiet_below (by kernel_rfl) (by kernel_rfl) (Veil.out ?_)
        repeat (refine vq_step (fun K hK => ?_); go_simp; refine hK _ ?_; clear hK K)
        (refine vq_step (fun K hK => ?_); go_simp; apply Exists.intro; refine ⟨fun _ => ?_, hK _ ?_⟩; exact cB.out _ _; clear hK K)
        repeat (refine vq_step (fun K hK => ?_); go_simp; refine hK _ ?_; clear hK K)
        (refine vq_step (fun K hK => ?_); go_simp; apply Exists.intro; refine ⟨fun _ => ?_, hK _ ?_⟩; exact cS.out _ _; clear hK K)
        repeat (refine vq_step (fun K hK => ?_); go_simp; refine hK _ ?_; clear hK K)
        refine vq_nil ?_
        intro _ hw'
        obtain ⟨⟨dq, osq⟩, hw''⟩ := hw'
        subst hw''
        have H2 : Hid (Eb w b e ao cp (Sort.grow (redrawn W1 dq) osq)) := HE.out dq osq
        generalize Sort.grow (redrawn W1 dq) osq = w2 at *
        clear cB cS HE g0 g1 g2 g3 g4 g5 g6 g7 g8 g9 g10 g11 g12
      · go_wp2_with fail
        go_ret
        exact ⟨by rw [HY.out]; rfl, H2.out.bel⟩
      · obtain ⟨r1, hr1⟩ : ∃ r1, rightS e.sp e.sl = r1 := ⟨_, rfl⟩
        obtain ⟨r2, hr2⟩ : ∃ r2, rightS e.ap e.al = r2 := ⟨_, rfl⟩
        obtain ⟨r3, hr3⟩ : ∃ r3, rightS e.mp e.ml = r3 := ⟨_, rfl⟩
        rw [hr1, hr2, hr3] at HY
        have D1 := C1.out e.sp e.sl
        have D2 := C1.out e.ap e.al
        have D3 := C1.out e.mp e.ml
        rw [hr1] at D1
        rw [hr2] at D2
        rw [hr3] at D3
        have K1 : Hid _ := D1
        have K2 : Hid _ := D2
        have K3 : Hid _ := D3
        clear D1 D2 D3 hr1 hr2 hr3 C1
        have p3 : w2.cell? ⟨b, 3, none⟩ = some (.int .u64 (e.sp : Int)) := block_cell H2.out.x rfl
        have p4 : w2.cell? ⟨b, 4, none⟩ = some (.int .u32 (e.sl : Int)) := block_cell H2.out.x rfl
        go_wp2_with fail
        refine (K1.out w2 (by simp)).mono ?_
        rintro r w3 ⟨rfl, hb3⟩
        have H3 : Hid (Eb w b e ao cp w3) := H2.out.on hb3
        clear hb3 p3 p4 K1 H2
        cases r1
        · go_wp2_with fail
          go_ret
          exact ⟨by rw [HY.out]; rfl, H3.out.bel⟩
        · have p5 : w3.cell? ⟨b, 5, none⟩ = some (.int .u64 (e.ap : Int)) := block_cell H3.out.x rfl
          have p6 : w3.cell? ⟨b, 6, none⟩ = some (.int .u32 (e.al : Int)) := block_cell H3.out.x rfl
          go_wp2_with fail
          refine (K2.out w3 (by simp)).mono ?_
          rintro r w4 ⟨rfl, hb4⟩
          have H4 : Hid (Eb w b e ao cp w4) := H3.out.on hb4
          clear hb4 p5 p6 K2 H3
          cases r2
          · go_wp2_with fail
            go_ret
            exact ⟨by rw [HY.out]; rfl, H4.out.bel⟩
          · have p7 : w4.cell? ⟨b, 7, none⟩ = some (.int .u64 (e.mp : Int)) := block_cell H4.out.x rfl
            have p8 : w4.cell? ⟨b, 8, none⟩ = some (.int .u32 (e.ml : Int)) := block_cell H4.out.x rfl
            go_wp2_with fail
            refine (K3.out w4 (by simp)).mono ?_
            rintro r w5 ⟨rfl, hb5⟩
            have H5 : Hid (Eb w b e ao cp w5) := H4.out.on hb5
            clear hb5 p7 p8 K3 H4
            cases r3
            · go_wp2_with fail
              go_ret
              exact ⟨by rw [HY.out]; rfl, H5.out.bel⟩
            · have HY2 : Hid (rightE e = kindOk e) := by show _ = _; rw [HY.out]; simp
              clear HY
              have p0 : w5.cell? ⟨b, 0, none⟩ = some (.int .i64 e.k) := block_cell H5.out.x rfl
              have p5 : w5.cell? ⟨b, 5, none⟩ = some (.int .u64 (e.ap : Int)) := block_cell H5.out.x rfl
              have p6 : w5.cell? ⟨b, 6, none⟩ = some (.int .u32 (e.al : Int)) := block_cell H5.out.x rfl
              have hn := run_eql27z e.ap e.al
              have HNA : Hid (noneAt e = (e.ap == 0 && e.al == 0)) := rfl
              obtain ⟨na, hna⟩ : ∃ na, (e.ap == 0 && e.al == 0) = na := ⟨_, rfl⟩
              rw [hna] at hn HNA
              clear hna
              by_cases h2 : e.k = 2
              · have HK : Hid (rightE e = (kOk e.prim && rightW e.ws)) := by show _ = _; rw [HY2.out]; unfold kindOk; rw [if_pos h2]
                have t2 : (e.k == 2) = true := by simpa using h2
                have p9 : w5.cell? ⟨b, 9, none⟩ = some (.string (bs e.prim)) := block_cell H5.out.x rfl
                have CK : Hid (1 = 1 → Calls Try.prog 47 #[.string (bs e.prim)] w5 fun r w' => r = .returned (.bool (kOk e.prim)) ∧ w' = w5) := fun _ => key32 e.prim w5
                have CW : Hid (1 = 1 → Calls Try.prog 48 #[.slice ao e.ws.length cp] w5 fun r w' => r = .returned (.bool (rightW e.ws)) ∧ Below w5.heap.size w5 w') := fun _ => right25 w5.heap.size e.ws _ w5 H5.out.wsx (Nat.le_refl _)
                have p12 : w5.cell? ⟨b, 12, none⟩ = some (.slice ao e.ws.length cp) := block_cell H5.out.x rfl
                generalize kOk e.prim = y1 at *
                generalize rightW e.ws = y2 at *
                clear h2 HY2 HNA
                cases y1
                · go_wp2_with fail
                  refine (CK.out (by simp)).mono ?_
                  rintro r w6 ⟨rfl, rfl⟩
                  go_wp2_with fail
                  go_ret
                  exact ⟨by rw [HK.out]; rfl, H5.out.bel⟩
                · go_wp2_with fail
                  refine (CK.out (by simp)).mono ?_
                  rintro r w6 ⟨rfl, rfl⟩
                  go_wp2_with fail
                  refine (CW.out (by simp)).mono ?_
                  rintro r w7 ⟨rfl, hb7⟩
                  have HB7 : Hid (Below w.heap.size w w7) := H5.out.bel.trans (hb7.mono H5.out.bel.size)
                  clear hb7 p0 p5 p6 p9 p12
                  go_wp2_with fail
                  go_ret
                  exact ⟨by rw [HK.out]; rfl, HB7.out⟩
              · skip
                by_cases h3 : e.k = 3
                · have HK : Hid (rightE e = !na) := by show _ = _; rw [← HNA.out]; rw [HY2.out]; unfold kindOk; rw [if_neg h2, if_pos (.inl h3)]
                  have t2 : (e.k == 2) = false := by simpa using h2
                  have t3 : (e.k == 3) = true := by simpa using h3
                  clear h3 HY2 HNA
                  go_wp2_with fail
                  go_ret
                  exact ⟨by rw [HK.out]; rfl, H5.out.bel⟩
                · skip
                  by_cases h4 : e.k = 4
                  · have HK : Hid (rightE e = !na) := by show _ = _; rw [← HNA.out]; rw [HY2.out]; unfold kindOk; rw [if_neg h2, if_pos (.inr h4)]
                    have t2 : (e.k == 2) = false := by simpa using h2
                    have t3 : (e.k == 3) = false := by simpa using h3
                    have t4 : (e.k == 4) = true := by simpa using h4
                    clear h4 HY2 HNA
                    go_wp2_with fail
                    go_ret
                    exact ⟨by rw [HK.out]; rfl, H5.out.bel⟩
                  · skip
                    by_cases h8 : e.k = 8
                    · have HK : Hid (rightE e = (e.ws.length == 1 && rightW e.ws)) := by show _ = _; rw [HY2.out]; unfold kindOk; rw [if_neg h2, if_neg (by omega), if_pos h8]
                      have t2 : (e.k == 2) = false := by simpa using h2
                      have t3 : (e.k == 3) = false := by simpa using h3
                      have t4 : (e.k == 4) = false := by simpa using h4
                      have t8 : (e.k == 8) = true := by simpa using h8
                      have CW : Hid (1 = 1 → Calls Try.prog 48 #[.slice ao e.ws.length cp] w5 fun r w' => r = .returned (.bool (rightW e.ws)) ∧ Below w5.heap.size w5 w') := fun _ => right25 w5.heap.size e.ws _ w5 H5.out.wsx (Nat.le_refl _)
                      have p12 : w5.cell? ⟨b, 12, none⟩ = some (.slice ao e.ws.length cp) := block_cell H5.out.x rfl
                      have l1 : ((e.ws.length : Int) == 1) = (e.ws.length == 1) := nat_beq e.ws.length 1
                      generalize rightW e.ws = y2 at *
                      generalize (e.ws.length == 1) = y1 at *
                      clear h8 HY2 HNA
                      cases y1
                      · go_wp2_with fail
                        go_ret
                        exact ⟨by rw [HK.out]; rfl, H5.out.bel⟩
                      · go_wp2_with fail
                        refine (CW.out (by simp)).mono ?_
                        rintro r w7 ⟨rfl, hb7⟩
                        have HB7 : Hid (Below w.heap.size w w7) := H5.out.bel.trans (hb7.mono H5.out.bel.size)
                        clear hb7 p0 p5 p6 p12
                        go_wp2_with fail
                        go_ret
                        exact ⟨by rw [HK.out]; rfl, HB7.out⟩
                    · skip
                      by_cases h9 : e.k = 9
                      · have HK : Hid (rightE e = (!na || (e.pt == 0 && !e.dn))) := by show _ = _; rw [← HNA.out]; rw [HY2.out]; unfold kindOk; rw [if_neg h2, if_neg (by omega), if_neg h8, if_pos h9]
                        have t2 : (e.k == 2) = false := by simpa using h2
                        have t3 : (e.k == 3) = false := by simpa using h3
                        have t4 : (e.k == 4) = false := by simpa using h4
                        have t8 : (e.k == 8) = false := by simpa using h8
                        have t9 : (e.k == 9) = true := by simpa using h9
                        have p10 : w5.cell? ⟨b, 10, none⟩ = some (.int .u8 (e.pt : Int)) := block_cell H5.out.x rfl
                        have p11 : w5.cell? ⟨b, 11, none⟩ = some (.bool e.dn) := block_cell H5.out.x rfl
                        have l1 : ((e.pt : Int) == 0) = (e.pt == 0) := nat_beq e.pt 0
                        generalize (e.pt == 0) = y1 at *
                        obtain ⟨y2, hy2⟩ : ∃ y2, e.dn = y2 := ⟨_, rfl⟩
                        rw [hy2] at p11 HK
                        clear h9 HY2 HNA hy2
                        cases na
                        · go_wp2_with fail
                          go_ret
                          exact ⟨by rw [HK.out]; rfl, H5.out.bel⟩
                        · cases y1
                          · go_wp2_with fail
                            go_ret
                            exact ⟨by rw [HK.out]; rfl, H5.out.bel⟩
                          · cases y2
                            · go_wp2_with fail
                              go_ret
                              exact ⟨by rw [HK.out]; rfl, H5.out.bel⟩
                            · go_wp2_with fail
                              go_ret
                              exact ⟨by rw [HK.out]; rfl, H5.out.bel⟩
                      · skip
                        have HK : Hid (rightE e = true) := by show _ = _; rw [HY2.out]; exact kindOk_else h2 h3 h4 h8 h9
                        have t2 : (e.k == 2) = false := by simpa using h2
                        have t3 : (e.k == 3) = false := by simpa using h3
                        have t4 : (e.k == 4) = false := by simpa using h4
                        have t8 : (e.k == 8) = false := by simpa using h8
                        have t9 : (e.k == 9) = false := by simpa using h9
                        clear HY2 HNA
                        go_wp2_with fail
                        go_ret
                        exact ⟨by rw [HK.out]; rfl, H5.out.bel⟩
end Go.Proofs.Ytmgjlpgjjeknpaa
