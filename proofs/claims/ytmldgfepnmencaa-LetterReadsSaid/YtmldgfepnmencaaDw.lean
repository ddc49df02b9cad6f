/-
  The document's Write: transactions.
-/
import Derived.Test.YtmldgfepnmencaaDc
import Derived.Lib.QuietBelow
namespace Go.Proofs.Ytmldgfepnmencaa
open Go.RowKit Go.Sort

structure Veil (p : Prop) : Prop where
  out : p
theorem vq_step {P : Program} {ops : Array Oper} {C : World → Prop} {Q : Act → Prop} {a : Act} {o : Oper} {rest : List Oper}
    (h : ∀ K : Act → Prop, (∀ a, Veil (wpQuiet P ops C Q rest a) → K a) → if Region.wanted o (yielded ops a.tmps) then o.quiet P a C K else K (a.put o.dst undef)) : Veil (wpQuiet P ops C Q (o :: rest) a) :=
  ⟨wpQuiet_step fun K hK => h K fun a ha => hK a ha.out⟩
theorem vq_nil {P : Program} {ops : Array Oper} {C : World → Prop} {Q : Act → Prop} {a : Act} (h : Q a) : Veil (wpQuiet P ops C Q [] a) := ⟨wpQuiet_nil h⟩

/-- Two texts, one behind the other. -/
theorem add_two (A B : List UInt8) (h : A.length + B.length ≤ 1000000) : bs A ++ bs B = bs (A ++ B) ∧ ¬ 9223372036854775807 < (bs A).size + (bs B).size := by
  refine ⟨bs_append A B, ?_⟩
  rw [bs_size, bs_size]
  omega
set_option maxHeartbeats 400000 in
theorem num19 (n : Nat) (w : World) (hn : n < 18446744073709551616) : Calls Try.prog 19 #[.int .u64 n] w fun e w' => e = .returned (.string (bs (numForm n))) ∧ Below w.heap.size w w' := by
  have C : Hid (1 = 1 → _) := fun _ => refNum11 n w hn
  go_enter Try.func19, Try.ntmps19
  go_wp2_with fail
  refine (C.out (by trivial)).mono ?_
  rintro e w1 ⟨rfl, hb⟩
  have HB : Hid (Below w.heap.size w w1) := hb
  clear hb
  go_wp2_with fail
  go_ret
  exact ⟨rfl, HB.out⟩
theorem wrap64 (n : Nat) (h : n < 18446744073709551616) : IntKind.u64.wrap (n : Int) = (n : Int) := by
  simp [IntKind.wrap, IntKind.bits, IntKind.signed]
  omega
theorem flag20 (b : Bool) (w : World) : Calls Try.prog 20 #[.bool b] w fun r w' => r = .returned (.string (bs (flagForm b))) ∧ Below w.heap.size w w' := (refFlag15 b _).mono (fun r w' h => ⟨h.1, by rw [h.2]; exact Below.refl _ _⟩)
set_option maxHeartbeats 800000 in
set_option maxRecDepth 100000 in
theorem txn21 (x : Tn) (w : World) (hx : x.c < 4294967296 ∧ x.n < 4294967296) : Calls Try.prog 21 #[.agg #[.int .u32 (x.c : Int), .int .u32 (x.n : Int)]] w fun r w' => r = .returned (.string (bs (tnForm x))) ∧ Below w.heap.size w w' := by
  have HX : Hid (x.c < 4294967296 ∧ x.n < 4294967296) := hx
  obtain ⟨W1, hW1⟩ : ∃ W1, w.alloc (.cells #[.int .u32 (x.c : Int), .int .u32 (x.n : Int)] 24) = W1 := ⟨_, rfl⟩
  obtain ⟨b, hb⟩ : ∃ b, w.heap.size = b := ⟨_, rfl⟩
  have B1 : Hid (Bx w b #[.int .u32 (x.c : Int), .int .u32 (x.n : Int)] 24 W1) := by rw [← hb, ← hW1]; exact bx_new _ _ _
  have hc := hx.1
  have hn := hx.2
  clear hx
  go_enter Try.func21, Try.ntmps21
  go_wp2_with fail
  clear hb hW1
  obtain ⟨F0_0, hF⟩ : ∃ F, numForm x.c = F := ⟨_, rfl⟩
  have lf0 : F0_0.length ≤ 9 := by rw [← hF]; exact nf_len (by omega)
  have HF0_0 : Hid (numForm x.c = F0_0) := hF
  have cc0 : Hid (∀ d os, Calls Try.prog 19 #[.int .u64 (x.c : Int)] (grow (redrawn W1 d) os) fun r w'' => r = .returned (.string (bs F0_0)) ∧ ∃ p : Regrown, w'' = grow (redrawn W1 p.d) p.os) := fun d os => by rw [← hF]; exact Calls.regrown_of (num19 x.c _ (by have := HX.out; omega))
  clear hF
  obtain ⟨F0_1, hF⟩ : ∃ F, numForm x.n = F := ⟨_, rfl⟩
  have lf1 : F0_1.length ≤ 9 := by rw [← hF]; exact nf_len (by omega)
  have HF0_1 : Hid (numForm x.n = F0_1) := hF
  have cc1 : Hid (∀ d os, Calls Try.prog 19 #[.int .u64 (x.n : Int)] (grow (redrawn W1 d) os) fun r w'' => r = .returned (.string (bs F0_1)) ∧ ∃ p : Regrown, w'' = grow (redrawn W1 p.d) p.os) := fun d os => by rw [← hF]; exact Calls.regrown_of (num19 x.n _ (by have := HX.out; omega))
  clear hF
  obtain ⟨G0_1, hG⟩ : ∃ G, F0_0 ++ F0_1 = G := ⟨_, rfl⟩
  obtain ⟨a1, n1⟩ := add_two F0_0 F0_1 (by omega)
  rw [hG] at a1
  have hg0_1 : G0_1.length ≤ 18 := by rw [← hG, List.length_append]; omega
  have HG0_1 : Hid (F0_0 ++ F0_1 = G0_1) := hG
  clear hG
  have v0 := wrap64 x.c (by omega)
  have v1 := wrap64 x.n (by omega)
  have g0 := cell_regrown (show W1.cell? ⟨b, 0, none⟩ = some (.int .u32 (x.c : Int)) from block_cell B1.out.x rfl)
  have g1 := cell_regrown (show W1.cell? ⟨b, 1, none⟩ = some (.int .u32 (x.n : Int)) from block_cell B1.out.x rfl)
  refine wp_region_quiet_below (by kernel_rfl) (by kernel_rfl) (Veil.out ?_)
  repeat (refine vq_step (fun K hK => ?_); go_simp; refine hK _ ?_; clear hK K)
  (refine vq_step (fun K hK => ?_); go_simp; apply Exists.intro; refine ⟨fun _ => ?_, hK _ ?_⟩; exact cc0.out _ _; clear hK K)
  repeat (refine vq_step (fun K hK => ?_); go_simp; refine hK _ ?_; clear hK K)
  (refine vq_step (fun K hK => ?_); go_simp; apply Exists.intro; refine ⟨fun _ => ?_, hK _ ?_⟩; exact cc1.out _ _; clear hK K)
  repeat (refine vq_step (fun K hK => ?_); go_simp; refine hK _ ?_; clear hK K)
  refine vq_nil ?_
  intro _ hw'
  obtain ⟨⟨dq, osq⟩, hw''⟩ := hw'
  subst hw''
  have H2 : Hid (Below w.heap.size w (grow (redrawn W1 dq) osq)) := (B1.out.on (below_regrown W1 dq osq)).bel
  clear cc0 lf0 cc1 lf1 v0 v1 a1 n1 g0 g1
  go_wp2_with fail
  go_ret
  refine ⟨?_, H2.out⟩
  unfold tnForm
  rw [HF0_0.out, HF0_1.out, HG0_1.out]
  rfl
end Go.Proofs.Ytmldgfepnmencaa
