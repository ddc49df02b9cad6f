/-
  The document's bytes of a write.
-/
import Derived.Test.YtmgjlpgjjeknpaaRi
namespace Go.Proofs.Ytmgjlpgjjeknpaa
open Go.RowKit Go.Sort

theorem tf_len {s : List UInt8} (h : s.length ≤ 1000) : (textForm s).length ≤ 1009 := by
  have := nf_len (n := s.length) (by omega)
  unfold textForm
  rw [List.length_append]
  omega
theorem ff_len (b : Bool) : (flagForm b).length = 1 := rfl
/-- Two texts, one behind the other. -/
theorem add_two (A B : List UInt8) (h : A.length + B.length ≤ 1000000) : bs A ++ bs B = bs (A ++ B) ∧ ¬ 9223372036854775807 < (bs A).size + (bs B).size := by
  refine ⟨bs_append A B, ?_⟩
  rw [bs_size, bs_size]
  omega
set_option maxHeartbeats 800000 in
set_option maxRecDepth 100000 in
theorem write26 (x : Wr) (w : World) (h : wOk x = true) : Calls Try.prog 23 #[.agg #[.string (bs x.key), .string (bs x.val), .bool x.dead]] w fun r w' => r = .returned (.string (bs (wrForm x))) ∧ Below w.heap.size w w' := by
  obtain ⟨⟨_, h2⟩, h3⟩ := wOk_iff h
  have l1 := tf_len (s := x.key) (by omega)
  have l2 := tf_len (s := x.val) (by omega)
  have l3 := ff_len x.dead
  obtain ⟨a1, n1⟩ := add_two (textForm x.key) (flagForm x.dead) (by omega)
  obtain ⟨a2, n2⟩ := add_two (textForm x.key ++ flagForm x.dead) (textForm x.val) (by rw [List.length_append]; omega)
  rw [show textForm x.key ++ flagForm x.dead ++ textForm x.val = wrForm x from by unfold wrForm; rw [List.append_assoc]] at a2
  obtain ⟨W1, hW1⟩ : ∃ W1, w.alloc (.cells #[.string (bs x.key), .string (bs x.val), .bool x.dead] 60) = W1 := ⟨_, rfl⟩
  obtain ⟨b, hb⟩ : ∃ b, w.heap.size = b := ⟨_, rfl⟩
  have hx1 : W1.heap[b]? = some (.cells #[.string (bs x.key), .string (bs x.val), .bool x.dead] 60 (0, 0)) := by rw [← hb, ← hW1]; exact heap_alloc_new w _
  have HB1 : Hid (Below w.heap.size w W1) := by rw [← hW1]; exact al _
  have cK : Hid (∀ d os, Calls Try.prog 22 #[.string (bs x.key)] (grow (redrawn W1 d) os) fun r w'' => r = .returned (.string (bs (textForm x.key))) ∧ ∃ p : Regrown, w'' = grow (redrawn W1 p.d) p.os) := fun d os => Calls.regrown_of (refText13 x.key _ (by omega))
  have cV : Hid (∀ d os, Calls Try.prog 22 #[.string (bs x.val)] (grow (redrawn W1 d) os) fun r w'' => r = .returned (.string (bs (textForm x.val))) ∧ ∃ p : Regrown, w'' = grow (redrawn W1 p.d) p.os) := fun d os => Calls.regrown_of (refText13 x.val _ (by omega))
  have cF : Hid (∀ d os, Calls Try.prog 24 #[.bool x.dead] (grow (redrawn W1 d) os) fun r w'' => r = .returned (.string (bs (flagForm x.dead))) ∧ ∃ p : Regrown, w'' = grow (redrawn W1 p.d) p.os) := fun d os => Calls.regrown_of ((refFlag15 x.dead _).mono (fun r w' h => ⟨h.1, by rw [h.2]; exact Below.refl _ _⟩))
  have g0 := cell_regrown (show W1.cell? ⟨b, 0, none⟩ = some (.string (bs x.key)) from block_cell hx1 rfl)
  have g1 := cell_regrown (show W1.cell? ⟨b, 1, none⟩ = some (.string (bs x.val)) from block_cell hx1 rfl)
  have g2 := cell_regrown (show W1.cell? ⟨b, 2, none⟩ = some (.bool x.dead) from block_cell hx1 rfl)
  clear h h2 h3 l1 l2 l3 hx1
  generalize textForm x.key = A at *
  generalize textForm x.val = C at *
  generalize flagForm x.dead = F at *
  generalize wrForm x = R at *
  go_enter Try.func23, Try.ntmps23
  go_wp2_with fail
  clear hb hW1
  refine wp_region_quiet_below (by kernel_rfl) (by kernel_rfl) (Veil.out ?_)
  repeat (refine vq_step (fun K hK => ?_); go_simp; refine hK _ ?_; clear hK K)
  (refine vq_step (fun K hK => ?_); go_simp; apply Exists.intro; refine ⟨fun _ => ?_, hK _ ?_⟩; exact cK.out _ _; clear hK K)
  repeat (refine vq_step (fun K hK => ?_); go_simp; refine hK _ ?_; clear hK K)
  (refine vq_step (fun K hK => ?_); go_simp; apply Exists.intro; refine ⟨fun _ => ?_, hK _ ?_⟩; exact cF.out _ _; clear hK K)
  repeat (refine vq_step (fun K hK => ?_); go_simp; refine hK _ ?_; clear hK K)
  (refine vq_step (fun K hK => ?_); go_simp; apply Exists.intro; refine ⟨fun _ => ?_, hK _ ?_⟩; exact cV.out _ _; clear hK K)
  repeat (refine vq_step (fun K hK => ?_); go_simp; refine hK _ ?_; clear hK K)
  refine vq_nil ?_
  intro _ hw'
  obtain ⟨⟨dq, osq⟩, hw''⟩ := hw'
  subst hw''
  have H2 : Hid (Below w.heap.size w (grow (redrawn W1 dq) osq)) := HB1.out.trans ((below_regrown W1 dq osq).mono HB1.out.size)
  clear cK cV cF g0 g1 g2
  go_wp2_with fail
  go_ret
  exact ⟨rfl, H2.out⟩
end Go.Proofs.Ytmgjlpgjjeknpaa
