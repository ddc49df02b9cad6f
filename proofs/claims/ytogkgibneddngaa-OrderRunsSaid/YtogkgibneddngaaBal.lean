/-
  Contract of balanced: the same keys, the heights told.
-/
import Derived.Test.YtogkgibneddngaaTg
namespace Go.Proofs.Ytogkgibneddngaa
open Go.RowKit

set_option maxHeartbeats 800000 in
theorem balanced25_no {b : Nat} {l r : Tr} {k : List UInt8} {v : Int} {x : Nat} {w : World} (h : Nd b l r k v x w) (e2 : l.hi - r.hi ≠ 2) (e3 : l.hi - r.hi ≠ -2) :
    Calls Try.prog 25 #[.pointer (some ⟨b, 0, none⟩)] w fun e w' => ∃ t', e = .returned t'.ptr ∧ Tg (.node b l k v x r) (l.toL ++ (k, v) :: r.toL) w t' w' := by
  obtain ⟨-, -, b2, b3, -⟩ := nd_cells h.ok.1
  have C1 : Hid (∀ W, Sw w W → Calls Try.prog 27 #[l.ptr] W fun e w' => e = .returned (.int .i64 l.hi) ∧ w' = W) := fun W hs => high27 l W (h.ok.2.1.sw hs)
  have C2 : Hid (∀ W, Sw w W → Calls Try.prog 27 #[r.ptr] W fun e w' => e = .returned (.int .i64 r.hi) ∧ w' = W) := fun W hs => high27 r W (h.ok.2.2.sw hs)
  obtain ⟨hl0, hl1⟩ := h.bl
  obtain ⟨hr0, hr1⟩ := h.br
  have q2 : (l.hi - r.hi == 2) = false := by simp; omega
  have q3 : (l.hi - r.hi == -2) = false := by simp; omega
  have CM : Hid (∀ W, Sw w W → Calls Try.prog 30 #[.pointer (some ⟨b, 0, none⟩)] W fun e w' => e = .returned (.tuple #[]) ∧ ∃ t', Tr.ptr t' = .pointer (some ⟨b, 0, none⟩) ∧ Tg (.node b l k v x r) (l.toL ++ (k, v) :: r.toL) w t' w') := by
    intro W hs
    refine (h.sw hs).mtg.mono ?_
    rintro e w' ⟨rfl, t', ht, g⟩
    exact ⟨rfl, t', ht, hs.tg g⟩
  clear h e2 e3
  generalize l.toL ++ (k, v) :: r.toL = L at *
  generalize Tr.node b l k v x r = t at *
  generalize l.ptr = lp at *
  generalize r.ptr = rp at *
  generalize l.hi = hl at *
  generalize r.hi = hr at *
  go_enter Try.func25, Try.ntmps25
  go_wp2_with fail
  go_quiet (first | (go_at_call_of 27 (lp); exact Calls.quiet_of_same (C1.out _ ((Sw.refl _).drewN _))) | (go_at_call_of 27 (rp); exact Calls.quiet_of_same (C2.out _ ((Sw.refl _).drewN _))))
  go_wp2_with fail
  refine (CM.out _ ((Sw.refl _).drewN _)).mono ?_
  rintro e w1 ⟨rfl, t', ht, g⟩
  have HG : Hid (∃ t', (Ending.returned (.pointer (some ⟨b, 0, none⟩)) : Ending) = .returned (Tr.ptr t') ∧ Tg t L w t' w1) := ⟨t', by rw [ht], g⟩
  clear ht g CM
  go_wp2_with fail
  go_ret
  exact HG.out

set_option maxHeartbeats 1600000 in
theorem balanced25_l {b c : Nat} {r ll lr : Tr} {k q : List UInt8} {v u : Int} {x y : Nat} {w : World} (h : Nd b (.node c ll q u y lr) r k v x w) (few : ll.toL.length + lr.toL.length + r.toL.length < 99999) (e2 : (y : Int) - r.hi = 2) :
    Calls Try.prog 25 #[.pointer (some ⟨b, 0, none⟩)] w fun e w' => ∃ t', e = .returned t'.ptr ∧ Tg (.node b (.node c ll q u y lr) k v x r) ((ll.toL ++ (q, u) :: lr.toL) ++ (k, v) :: r.toL) w t' w' := by
  obtain ⟨-, -, b2', b3', -⟩ := nd_cells h.ok.1
  have bc : w.cell? ⟨b, 2, none⟩ = some (.pointer (some ⟨c, 0, none⟩)) := b2'
  have bo : w.cell? ⟨b, 3, none⟩ = some r.ptr := b3'
  clear b2' b3'
  obtain ⟨-, -, c2, c3, -⟩ := nd_cells h.ok.2.1.1
  have C1 : Hid (∀ W, Sw w W → Calls Try.prog 27 #[.pointer (some ⟨c, 0, none⟩)] W fun e w' => e = .returned (.int .i64 y) ∧ w' = W) := fun W hs => high27 (.node c ll q u y lr) W (h.ok.2.1.sw hs)
  have C2 : Hid (∀ W, Sw w W → Calls Try.prog 27 #[r.ptr] W fun e w' => e = .returned (.int .i64 r.hi) ∧ w' = W) := fun W hs => high27 r W (h.ok.2.2.sw hs)
  have C3 : Hid (∀ W, Sw w W → Calls Try.prog 27 #[ll.ptr] W fun e w' => e = .returned (.int .i64 ll.hi) ∧ w' = W) := fun W hs => high27 ll W (h.ok.2.1.2.1.sw hs)
  have C4 : Hid (∀ W, Sw w W → Calls Try.prog 27 #[lr.ptr] W fun e w' => e = .returned (.int .i64 lr.hi) ∧ w' = W) := fun W hs => high27 lr W (h.ok.2.1.2.2.sw hs)
  obtain ⟨hy0, hy1⟩ : 0 ≤ (y : Int) ∧ (y : Int) ≤ 1000000 := h.bl
  obtain ⟨hr0, hr1⟩ := h.br
  obtain ⟨-, hll, hlr⟩ := h.hl
  have hoth := h.hr
  have q2 : ((y : Int) - r.hi == 2) = true := by simp; omega
  by_cases hlt : ll.hi < lr.hi
  · obtain ⟨d, dm, dq, du, dy, dr, hd⟩ := Hk.node (t := lr) (by have := hll.bounds; omega)
    have fb := block_frozen h.ok.1 2
    have CT : Hid (∀ W, Sw w W → Calls Try.prog 28 #[.pointer (some ⟨c, 0, none⟩)] W fun e w1 => e = .returned (.pointer (some ⟨d, 0, none⟩)) ∧ w1.cell? ⟨b, 2, none⟩ = some (.pointer (some ⟨c, 0, none⟩)) ∧ w1.frozen? ⟨b, 2, none⟩ = false ∧ Calls Try.prog 29 #[.pointer (some ⟨b, 0, none⟩)] (w1.setCell ⟨b, 2, none⟩ (.pointer (some ⟨d, 0, none⟩))) fun e w2 => ∃ t', e = .returned t'.ptr ∧ Tg (.node b (.node c ll q u y lr) k v x r) ((ll.toL ++ (q, u) :: lr.toL) ++ (k, v) :: r.toL) w t' w2) := by
      subst hd
      intro W hs
      obtain ⟨-, hdm, hdr⟩ := hlr
      have hW := h.sw hs
      have hn := hW.nd
      have hnc : (Tr.node c ll q u y (.node d dm dq du dy dr)).blocks.Nodup ∧ b ∉ (Tr.node c ll q u y (.node d dm dq du dy dr)).blocks := by
        have hn' := hn
        rw [Tr.blocks, List.nodup_cons, List.mem_append, not_or, List.nodup_append] at hn'
        exact ⟨hn'.2.1, hn'.1.1⟩
      refine (leftg hW.ok.2.1 hnc.1 hll hdm hdr (by simp only [Tr.toL, List.length_append, List.length_cons] at few; omega)).mono ?_
      rintro e w1 ⟨x', y', rfl, g⟩
      have hb1 : w1.heap[b]? = W.heap[b]? := g.kept.block b (Array.getElem?_eq_some_iff.1 hW.ok.1).1 hnc.2
      have hk' := g.hk
      obtain ⟨o1, o2, o3, o4⟩ := Tg.setl hW.ok hn g
      refine ⟨rfl, ?_, ?_, ?_⟩
      · exact block_cell (hb1.trans hW.ok.1) rfl
      · exact block_frozen (hb1.trans hW.ok.1) _
      · refine (rightg o1 o2 hk'.2.1 hdr hoth (by simp only [Tr.toL, List.length_append, List.length_cons] at few ⊢; omega)).mono ?_
        rintro e w2 ⟨x2, y2, rfl, g2⟩
        exact ⟨Tr.node d _ _ _ _ _, rfl, hs.tg (Tg.after o3 o4 ⟨g2.ok, g2.hk, g2.nd, by rw [g2.el]; simp [Tr.toL], g2.sub, g2.kept⟩)⟩
    clear h hd hll hlr hoth few e2
    generalize (ll.toL ++ (q, u) :: lr.toL) ++ (k, v) :: r.toL = L at *
    generalize Tr.node b (.node c ll q u y lr) k v x r = t at *
    generalize (y : Int) = yi at *
    generalize r.ptr = op at *
    generalize ll.ptr = llp at *
    generalize lr.ptr = lrp at *
    generalize r.hi = ho at *
    generalize ll.hi = llh at *
    generalize lr.hi = lrh at *
    go_enter Try.func25, Try.ntmps25
    go_wp2_with fail
    go_quiet (first | (go_at_call_of 27 (Value.pointer (some ⟨c, 0, none⟩)); exact Calls.quiet_of_same (C1.out _ ((Sw.refl _).drewN _))) | (go_at_call_of 27 (op); exact Calls.quiet_of_same (C2.out _ ((Sw.refl _).drewN _))))
    have HS : Hid (Sw w (w.drewN nq)) := (Sw.refl _).drewN _
    have bc' : (w.drewN nq).cell? ⟨b, 2, none⟩ = some (.pointer (some ⟨c, 0, none⟩)) := bc
    have c2' : (w.drewN nq).cell? ⟨c, 2, none⟩ = some llp := c2
    have c3' : (w.drewN nq).cell? ⟨c, 3, none⟩ = some lrp := c3
    generalize w.drewN nq = W at *
    go_wp2_with fail
    go_quiet (first | (go_at_call_of 27 (llp); exact Calls.quiet_of_same (C3.out _ (HS.out.drewN _))) | (go_at_call_of 27 (lrp); exact Calls.quiet_of_same (C4.out _ (HS.out.drewN _))))
    go_wp2_with fail
    refine (CT.out _ (HS.out.drewN _)).mono ?_
    rintro e w1 ⟨rfl, d1, d2, d3⟩
    have HG : Hid (Calls Try.prog 29 #[.pointer (some ⟨b, 0, none⟩)] (w1.setCell ⟨b, 2, none⟩ (.pointer (some ⟨d, 0, none⟩))) fun e w2 => ∃ t', e = .returned t'.ptr ∧ Tg t L w t' w2) := d3
    clear d3 CT C1 C2 C3 C4
    go_wp2_with fail
    refine HG.out.mono ?_
    rintro e w2 ⟨t', rfl, g⟩
    obtain ⟨o, ho⟩ := t'.is_ptr
    have HX : Hid (∃ t', (Ending.returned (.pointer o) : Ending) = .returned (Tr.ptr t') ∧ Tg t L w t' w2) := ⟨t', by rw [ho], g⟩
    rw [ho]
    clear g HG ho
    go_wp2_with fail
    go_ret
    exact HX.out
  · have CT : Hid (∀ W, Sw w W → Calls Try.prog 29 #[.pointer (some ⟨b, 0, none⟩)] W fun e w' => ∃ t', e = .returned (.pointer (some ⟨c, 0, none⟩)) ∧ Tr.ptr t' = .pointer (some ⟨c, 0, none⟩) ∧ Tg (.node b (.node c ll q u y lr) k v x r) ((ll.toL ++ (q, u) :: lr.toL) ++ (k, v) :: r.toL) w t' w') := by
      intro W hs
      have hW := h.sw hs
      refine (rightg hW.ok hW.nd hll hlr hoth (by omega)).mono ?_
      rintro e w' ⟨x', y', rfl, g⟩
      exact ⟨_, rfl, rfl, hs.tg g⟩
    clear h hll hlr hoth few e2
    generalize (ll.toL ++ (q, u) :: lr.toL) ++ (k, v) :: r.toL = L at *
    generalize Tr.node b (.node c ll q u y lr) k v x r = t at *
    generalize (y : Int) = yi at *
    generalize r.ptr = op at *
    generalize ll.ptr = llp at *
    generalize lr.ptr = lrp at *
    generalize r.hi = ho at *
    generalize ll.hi = llh at *
    generalize lr.hi = lrh at *
    go_enter Try.func25, Try.ntmps25
    go_wp2_with fail
    go_quiet (first | (go_at_call_of 27 (Value.pointer (some ⟨c, 0, none⟩)); exact Calls.quiet_of_same (C1.out _ ((Sw.refl _).drewN _))) | (go_at_call_of 27 (op); exact Calls.quiet_of_same (C2.out _ ((Sw.refl _).drewN _))))
    have HS : Hid (Sw w (w.drewN nq)) := (Sw.refl _).drewN _
    have bc' : (w.drewN nq).cell? ⟨b, 2, none⟩ = some (.pointer (some ⟨c, 0, none⟩)) := bc
    have c2' : (w.drewN nq).cell? ⟨c, 2, none⟩ = some llp := c2
    have c3' : (w.drewN nq).cell? ⟨c, 3, none⟩ = some lrp := c3
    generalize w.drewN nq = W at *
    go_wp2_with fail
    go_quiet (first | (go_at_call_of 27 (llp); exact Calls.quiet_of_same (C3.out _ (HS.out.drewN _))) | (go_at_call_of 27 (lrp); exact Calls.quiet_of_same (C4.out _ (HS.out.drewN _))))
    go_wp2_with fail
    refine (CT.out _ (HS.out.drewN _)).mono ?_
    rintro e w1 ⟨t', rfl, ht, g⟩
    have HX : Hid (∃ t', (Ending.returned (.pointer (some ⟨c, 0, none⟩)) : Ending) = .returned (Tr.ptr t') ∧ Tg t L w t' w1) := ⟨t', by rw [ht], g⟩
    clear g ht CT
    go_wp2_with fail
    go_ret
    exact HX.out

set_option maxHeartbeats 1600000 in
theorem balanced25_r {b c : Nat} {l ll lr : Tr} {k q : List UInt8} {v u : Int} {x y : Nat} {w : World} (h : Nd b l (.node c ll q u y lr) k v x w) (few : l.toL.length + ll.toL.length + lr.toL.length < 99999) (e2 : l.hi - (y : Int) = -2) :
    Calls Try.prog 25 #[.pointer (some ⟨b, 0, none⟩)] w fun e w' => ∃ t', e = .returned t'.ptr ∧ Tg (.node b l k v x (.node c ll q u y lr)) (l.toL ++ (k, v) :: (ll.toL ++ (q, u) :: lr.toL)) w t' w' := by
  obtain ⟨-, -, b2', b3', -⟩ := nd_cells h.ok.1
  have bc : w.cell? ⟨b, 3, none⟩ = some (.pointer (some ⟨c, 0, none⟩)) := b3'
  have bo : w.cell? ⟨b, 2, none⟩ = some l.ptr := b2'
  clear b2' b3'
  obtain ⟨-, -, c2, c3, -⟩ := nd_cells h.ok.2.2.1
  have C1 : Hid (∀ W, Sw w W → Calls Try.prog 27 #[.pointer (some ⟨c, 0, none⟩)] W fun e w' => e = .returned (.int .i64 y) ∧ w' = W) := fun W hs => high27 (.node c ll q u y lr) W (h.ok.2.2.sw hs)
  have C2 : Hid (∀ W, Sw w W → Calls Try.prog 27 #[l.ptr] W fun e w' => e = .returned (.int .i64 l.hi) ∧ w' = W) := fun W hs => high27 l W (h.ok.2.1.sw hs)
  have C3 : Hid (∀ W, Sw w W → Calls Try.prog 27 #[ll.ptr] W fun e w' => e = .returned (.int .i64 ll.hi) ∧ w' = W) := fun W hs => high27 ll W (h.ok.2.2.2.1.sw hs)
  have C4 : Hid (∀ W, Sw w W → Calls Try.prog 27 #[lr.ptr] W fun e w' => e = .returned (.int .i64 lr.hi) ∧ w' = W) := fun W hs => high27 lr W (h.ok.2.2.2.2.sw hs)
  obtain ⟨hy0, hy1⟩ : 0 ≤ (y : Int) ∧ (y : Int) ≤ 1000000 := h.br
  obtain ⟨hr0, hr1⟩ := h.bl
  obtain ⟨-, hll, hlr⟩ := h.hr
  have hoth := h.hl
  have q2 : (l.hi - (y : Int) == -2) = true := by simp; omega
  by_cases hlt : lr.hi < ll.hi
  · obtain ⟨d, dm, dq, du, dy, dr, hd⟩ := Hk.node (t := ll) (by have := hlr.bounds; omega)
    have fb := block_frozen h.ok.1 3
    have CT : Hid (∀ W, Sw w W → Calls Try.prog 29 #[.pointer (some ⟨c, 0, none⟩)] W fun e w1 => e = .returned (.pointer (some ⟨d, 0, none⟩)) ∧ w1.cell? ⟨b, 3, none⟩ = some (.pointer (some ⟨c, 0, none⟩)) ∧ w1.frozen? ⟨b, 3, none⟩ = false ∧ Calls Try.prog 28 #[.pointer (some ⟨b, 0, none⟩)] (w1.setCell ⟨b, 3, none⟩ (.pointer (some ⟨d, 0, none⟩))) fun e w2 => ∃ t', e = .returned t'.ptr ∧ Tg (.node b l k v x (.node c ll q u y lr)) (l.toL ++ (k, v) :: (ll.toL ++ (q, u) :: lr.toL)) w t' w2) := by
      subst hd
      intro W hs
      obtain ⟨-, hdm, hdr⟩ := hll
      have hW := h.sw hs
      have hn := hW.nd
      have hnc : (Tr.node c (.node d dm dq du dy dr) q u y lr).blocks.Nodup ∧ b ∉ (Tr.node c (.node d dm dq du dy dr) q u y lr).blocks := by
        have hn' := hn
        rw [Tr.blocks, List.nodup_cons, List.mem_append, not_or, List.nodup_append] at hn'
        exact ⟨hn'.2.2.1, hn'.1.2⟩
      refine (rightg hW.ok.2.2 hnc.1 hdm hdr hlr (by simp only [Tr.toL, List.length_append, List.length_cons] at few; omega)).mono ?_
      rintro e w1 ⟨x', y', rfl, g⟩
      have hb1 : w1.heap[b]? = W.heap[b]? := g.kept.block b (Array.getElem?_eq_some_iff.1 hW.ok.1).1 hnc.2
      have hk' := g.hk
      obtain ⟨o1, o2, o3, o4⟩ := Tg.setr hW.ok hn g
      refine ⟨rfl, ?_, ?_, ?_⟩
      · exact block_cell (hb1.trans hW.ok.1) rfl
      · exact block_frozen (hb1.trans hW.ok.1) _
      · refine (leftg o1 o2 hoth hdm hk'.2.2 (by simp only [Tr.toL, List.length_append, List.length_cons] at few ⊢; omega)).mono ?_
        rintro e w2 ⟨x2, y2, rfl, g2⟩
        exact ⟨Tr.node d _ _ _ _ _, rfl, hs.tg (Tg.after o3 o4 ⟨g2.ok, g2.hk, g2.nd, by rw [g2.el]; simp [Tr.toL], g2.sub, g2.kept⟩)⟩
    clear h hd hll hlr hoth few e2
    generalize l.toL ++ (k, v) :: (ll.toL ++ (q, u) :: lr.toL) = L at *
    generalize Tr.node b l k v x (.node c ll q u y lr) = t at *
    generalize (y : Int) = yi at *
    generalize l.ptr = op at *
    generalize ll.ptr = llp at *
    generalize lr.ptr = lrp at *
    generalize l.hi = ho at *
    generalize ll.hi = llh at *
    generalize lr.hi = lrh at *
    go_enter Try.func25, Try.ntmps25
    go_wp2_with fail
    go_quiet (first | (go_at_call_of 27 (Value.pointer (some ⟨c, 0, none⟩)); exact Calls.quiet_of_same (C1.out _ ((Sw.refl _).drewN _))) | (go_at_call_of 27 (op); exact Calls.quiet_of_same (C2.out _ ((Sw.refl _).drewN _))))
    have HS : Hid (Sw w (w.drewN nq)) := (Sw.refl _).drewN _
    have bc' : (w.drewN nq).cell? ⟨b, 3, none⟩ = some (.pointer (some ⟨c, 0, none⟩)) := bc
    have c2' : (w.drewN nq).cell? ⟨c, 2, none⟩ = some llp := c2
    have c3' : (w.drewN nq).cell? ⟨c, 3, none⟩ = some lrp := c3
    generalize w.drewN nq = W at *
    go_wp2_with fail
    go_quiet (first | (go_at_call_of 27 (llp); exact Calls.quiet_of_same (C3.out _ (HS.out.drewN _))) | (go_at_call_of 27 (lrp); exact Calls.quiet_of_same (C4.out _ (HS.out.drewN _))))
    go_wp2_with fail
    refine (CT.out _ (HS.out.drewN _)).mono ?_
    rintro e w1 ⟨rfl, d1, d2, d3⟩
    have HG : Hid (Calls Try.prog 28 #[.pointer (some ⟨b, 0, none⟩)] (w1.setCell ⟨b, 3, none⟩ (.pointer (some ⟨d, 0, none⟩))) fun e w2 => ∃ t', e = .returned t'.ptr ∧ Tg t L w t' w2) := d3
    clear d3 CT C1 C2 C3 C4
    go_wp2_with fail
    refine HG.out.mono ?_
    rintro e w2 ⟨t', rfl, g⟩
    obtain ⟨o, ho⟩ := t'.is_ptr
    have HX : Hid (∃ t', (Ending.returned (.pointer o) : Ending) = .returned (Tr.ptr t') ∧ Tg t L w t' w2) := ⟨t', by rw [ho], g⟩
    rw [ho]
    clear g HG ho
    go_wp2_with fail
    go_ret
    exact HX.out
  · have CT : Hid (∀ W, Sw w W → Calls Try.prog 28 #[.pointer (some ⟨b, 0, none⟩)] W fun e w' => ∃ t', e = .returned (.pointer (some ⟨c, 0, none⟩)) ∧ Tr.ptr t' = .pointer (some ⟨c, 0, none⟩) ∧ Tg (.node b l k v x (.node c ll q u y lr)) (l.toL ++ (k, v) :: (ll.toL ++ (q, u) :: lr.toL)) w t' w') := by
      intro W hs
      have hW := h.sw hs
      refine (leftg hW.ok hW.nd hoth hll hlr (by omega)).mono ?_
      rintro e w' ⟨x', y', rfl, g⟩
      exact ⟨_, rfl, rfl, hs.tg g⟩
    clear h hll hlr hoth few e2
    generalize l.toL ++ (k, v) :: (ll.toL ++ (q, u) :: lr.toL) = L at *
    generalize Tr.node b l k v x (.node c ll q u y lr) = t at *
    generalize (y : Int) = yi at *
    generalize l.ptr = op at *
    generalize ll.ptr = llp at *
    generalize lr.ptr = lrp at *
    generalize l.hi = ho at *
    generalize ll.hi = llh at *
    generalize lr.hi = lrh at *
    go_enter Try.func25, Try.ntmps25
    go_wp2_with fail
    go_quiet (first | (go_at_call_of 27 (Value.pointer (some ⟨c, 0, none⟩)); exact Calls.quiet_of_same (C1.out _ ((Sw.refl _).drewN _))) | (go_at_call_of 27 (op); exact Calls.quiet_of_same (C2.out _ ((Sw.refl _).drewN _))))
    have HS : Hid (Sw w (w.drewN nq)) := (Sw.refl _).drewN _
    have bc' : (w.drewN nq).cell? ⟨b, 3, none⟩ = some (.pointer (some ⟨c, 0, none⟩)) := bc
    have c2' : (w.drewN nq).cell? ⟨c, 2, none⟩ = some llp := c2
    have c3' : (w.drewN nq).cell? ⟨c, 3, none⟩ = some lrp := c3
    generalize w.drewN nq = W at *
    go_wp2_with fail
    go_quiet (first | (go_at_call_of 27 (llp); exact Calls.quiet_of_same (C3.out _ (HS.out.drewN _))) | (go_at_call_of 27 (lrp); exact Calls.quiet_of_same (C4.out _ (HS.out.drewN _))))
    go_wp2_with fail
    refine (CT.out _ (HS.out.drewN _)).mono ?_
    rintro e w1 ⟨t', rfl, ht, g⟩
    have HX : Hid (∃ t', (Ending.returned (.pointer (some ⟨c, 0, none⟩)) : Ending) = .returned (Tr.ptr t') ∧ Tg t L w t' w1) := ⟨t', by rw [ht], g⟩
    clear g ht CT
    go_wp2_with fail
    go_ret
    exact HX.out

theorem balanced25 {b : Nat} {l r : Tr} {k : List UInt8} {v : Int} {x : Nat} {w : World} (h : Nd b l r k v x w) (few : l.toL.length + r.toL.length < 100000) :
    Calls Try.prog 25 #[.pointer (some ⟨b, 0, none⟩)] w fun e w' => ∃ t', e = .returned t'.ptr ∧ Tg (.node b l k v x r) (l.toL ++ (k, v) :: r.toL) w t' w' := by
  by_cases e2 : l.hi - r.hi = 2
  · obtain ⟨c, ll, q, u, y, lr, rfl⟩ := Hk.node (t := l) (by have := h.br; omega)
    exact balanced25_l h (by simp only [Tr.toL, List.length_append, List.length_cons] at few; omega) e2
  · by_cases e3 : l.hi - r.hi = -2
    · obtain ⟨c, ll, q, u, y, lr, rfl⟩ := Hk.node (t := r) (by have := h.bl; omega)
      exact balanced25_r h (by simp only [Tr.toL, List.length_append, List.length_cons] at few; omega) e3
    · exact balanced25_no h e2 e3
end Go.Proofs.Ytogkgibneddngaa
