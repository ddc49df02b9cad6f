/-
  Contract of without: the tree without a key that it has.
-/
import Derived.Test.YtogkgibneddngaaBal
import Derived.Test.YtogkgibneddngaaFst
namespace Go.Proofs.Ytogkgibneddngaa
open Go.RowKit

theorem Tg.side {b : Nat} {l r : Tr} {k : List UInt8} {v : Int} {x : Nat} {w : World} {s : Tr} (hs : s = l ∨ s = r) (h : TrAt nl (.node b l k v x r) w) (hn : (Tr.node b l k v x r).blocks.Nodup) (hk : Hk (.node b l k v x r)) : Tg (.node b l k v x r) s.toL w s w := by
  rw [Tr.blocks, List.nodup_cons, List.nodup_append] at hn
  rcases hs with rfl | rfl
  · exact ⟨h.2.1, hk.2.1, hn.2.1, rfl, fun i hi => .inl (by simp [Tr.blocks, hi]), Kept.refl _ _⟩
  · exact ⟨h.2.2, hk.2.2, hn.2.2.1, rfl, fun i hi => .inl (by simp [Tr.blocks, hi]), Kept.refl _ _⟩

/-- Another key and value in a node. -/
theorem moved {b c : Nat} {l r : Tr} {k q : List UInt8} {v u : Int} {x y : Nat} {m s : Value} {w : World} (ha : TrAt nl (.node b l k v x r) w) (hn : (Tr.node b l k v x r).blocks.Nodup) (hc : w.heap[c]? = some (.cells (nl.cells q u y m s) nl.ty (0, 0))) (hcr : c ∈ r.blocks) :
    TrAt nl (.node b l q u x r) ((w.setCell ⟨b, 0, none⟩ (.string (bs q))).setCell ⟨b, 1, none⟩ (.int .i64 u)) ∧ Kept (fun i => i = b) w ((w.setCell ⟨b, 0, none⟩ (.string (bs q))).setCell ⟨b, 1, none⟩ (.int .i64 u)) ∧ ((w.setCell ⟨b, 0, none⟩ (.string (bs q))).setCell ⟨b, 1, none⟩ (.int .i64 u)).heap[c]? = some (.cells (nl.cells q u y m s) nl.ty (0, 0)) ∧ c ≠ b := by
  rw [Tr.blocks, List.nodup_cons, List.mem_append, not_or] at hn
  have hcb : c ≠ b := fun e => hn.1.2 (e ▸ hcr)
  have k1 := set_kept' w b 0 (.string (bs q))
  have k2 := set_kept' (w.setCell ⟨b, 0, none⟩ (.string (bs q))) b 1 (.int .i64 u)
  have kk := k1.trans k2 (fun i e => .inl e)
  refine ⟨⟨block_set _ (block_set _ ha.1), TrAt.kept kk ha.2.1 (fun i hi e => hn.1.1 (e ▸ hi)), TrAt.kept kk ha.2.2 (fun i hi e => hn.1.2 (e ▸ hi))⟩, kk, ?_, hcb⟩
  rw [kk.block c (Array.getElem?_eq_some_iff.1 hc).1 hcb]
  exact hc

set_option maxHeartbeats 3200000 in
theorem without23 (t : Tr) : ∀ (key : List UInt8) (w : World), TrAt nl t w → t.blocks.Nodup → Hk t → Srt t.toL → (getF key t.toL).isSome = true → t.toL.length < 100000 →
    Calls Try.prog 23 #[t.ptr, .string (bs key)] w fun e w' => ∃ t', e = .returned t'.ptr ∧ Tg t (cutF key t.toL) w t' w' := by
  induction t using Tr.ind with
  | nil =>
    intro key w _ _ _ _ hg _
    cases hg
  | node b l k u x r ihl ihr =>
    intro key w ha hn hk hs hg hf
    obtain ⟨hs1, hs2, _, _⟩ := srt_parts hs
    have hg0 := hg
    simp only [Tr.toL] at hg0
    rw [get_parts hs] at hg0
    have hn' := hn
    rw [Tr.blocks, List.nodup_cons, List.nodup_append] at hn'
    have hf' := hf
    simp only [Tr.toL, List.length_append, List.length_cons] at hf'
    obtain ⟨c0, -, c2, c3, -⟩ := nd_cells ha.1
    have b1 := bl key k
    have b2 := bl k key
    by_cases h1 : ltK key k = true
    · rw [if_pos h1] at hg0
      have f2 := block_frozen ha.1 2
      have CW : Hid (1 = 1 → Calls Try.prog 23 #[l.ptr, .string (bs key)] w fun e w1 => ∃ o, e = .returned (.pointer o) ∧ w1.cell? ⟨b, 2, none⟩ = some l.ptr ∧ w1.frozen? ⟨b, 2, none⟩ = false ∧ Calls Try.prog 25 #[.pointer (some ⟨b, 0, none⟩)] (w1.setCell ⟨b, 2, none⟩ (.pointer o)) fun e w2 => ∃ t', e = .returned t'.ptr ∧ Tg (.node b l k u x r) (cutF key (Tr.node b l k u x r).toL) w t' w2) := by
        intro _
        refine (ihl key w ha.2.1 hn'.2.1 hk.2.1 hs1 hg0 (by omega)).mono ?_
        rintro e w1 ⟨l', rfl, g⟩
        obtain ⟨o, ho⟩ := l'.is_ptr
        have hb1 : w1.heap[b]? = w.heap[b]? := g.kept.block b (Array.getElem?_eq_some_iff.1 ha.1).1 (fun hi => hn'.1 (by simp [hi]))
        obtain ⟨o1, o2, o3, o4⟩ := Tg.setl ha hn g
        rw [ho] at o1 o4
        have hlen : l'.toL.length ≤ l.toL.length := by rw [g.el, len_cut hs1]; split <;> omega
        refine ⟨o, by rw [ho], block_cell (hb1.trans ha.1) rfl, block_frozen (hb1.trans ha.1) _, ?_⟩
        refine (balanced25 ⟨o1, o2, g.hk, hk.2.2, by omega⟩ (by omega)).mono ?_
        rintro e w2 ⟨t', rfl, g2⟩
        refine ⟨t', rfl, Tg.after o3 o4 ?_⟩
        simp only [Tr.toL]
        rw [cut_parts hs, if_pos h1, ← g.el]
        exact g2
      have q1 : Op.bytesLess (bs key).toList (bs k).toList = true := by rw [b1]; exact h1
      clear ihl ihr ha hn hk hs hg hf hs1 hs2 hg0 hn' hf' b1 b2 h1
      generalize cutF key (Tr.node b l k u x r).toL = L at *
      simp only [Tr.ptr]
      generalize Tr.node b l k u x r = t at *
      generalize l.ptr = lp at *
      generalize r.ptr = rp at *
      go_enter Try.func23, Try.ntmps23
      go_wp2_with fail
      refine (CW.out (by trivial)).mono ?_
      rintro e w1 ⟨o, rfl, d1, d2, d3⟩
      have HG : Hid (Calls Try.prog 25 #[.pointer (some ⟨b, 0, none⟩)] (w1.setCell ⟨b, 2, none⟩ (.pointer o)) fun e w2 => ∃ t', e = .returned t'.ptr ∧ Tg t L w t' w2) := d3
      clear d3 CW
      go_wp2_with fail
      refine HG.out.mono ?_
      rintro e w2 ⟨t', rfl, g⟩
      obtain ⟨o', ho⟩ := t'.is_ptr
      have HX : Hid (∃ t', (Ending.returned (.pointer o') : Ending) = .returned (Tr.ptr t') ∧ Tg t L w t' w2) := ⟨t', by rw [ho], g⟩
      rw [ho]
      clear g HG ho
      go_wp2_with fail
      go_ret
      exact HX.out
    · rw [if_neg h1] at hg0
      by_cases h2 : ltK k key = true
      · rw [if_pos h2] at hg0
        have f2 := block_frozen ha.1 3
        have CW : Hid (1 = 1 → Calls Try.prog 23 #[r.ptr, .string (bs key)] w fun e w1 => ∃ o, e = .returned (.pointer o) ∧ w1.cell? ⟨b, 3, none⟩ = some r.ptr ∧ w1.frozen? ⟨b, 3, none⟩ = false ∧ Calls Try.prog 25 #[.pointer (some ⟨b, 0, none⟩)] (w1.setCell ⟨b, 3, none⟩ (.pointer o)) fun e w2 => ∃ t', e = .returned t'.ptr ∧ Tg (.node b l k u x r) (cutF key (Tr.node b l k u x r).toL) w t' w2) := by
          intro _
          refine (ihr key w ha.2.2 hn'.2.2.1 hk.2.2 hs2 hg0 (by omega)).mono ?_
          rintro e w1 ⟨r', rfl, g⟩
          obtain ⟨o, ho⟩ := r'.is_ptr
          have hb1 : w1.heap[b]? = w.heap[b]? := g.kept.block b (Array.getElem?_eq_some_iff.1 ha.1).1 (fun hi => hn'.1 (by simp [hi]))
          obtain ⟨o1, o2, o3, o4⟩ := Tg.setr ha hn g
          rw [ho] at o1 o4
          have hlen : r'.toL.length ≤ r.toL.length := by rw [g.el, len_cut hs2]; split <;> omega
          refine ⟨o, by rw [ho], block_cell (hb1.trans ha.1) rfl, block_frozen (hb1.trans ha.1) _, ?_⟩
          refine (balanced25 ⟨o1, o2, hk.2.1, g.hk, by omega⟩ (by omega)).mono ?_
          rintro e w2 ⟨t', rfl, g2⟩
          refine ⟨t', rfl, Tg.after o3 o4 ?_⟩
          simp only [Tr.toL]
          rw [cut_parts hs, if_neg h1, if_pos h2, ← g.el]
          exact g2
        have q1 : Op.bytesLess (bs key).toList (bs k).toList = false := by rw [b1]; simpa using h1
        have q2 : ((bs key).toList == (bs k).toList) = false := by rw [bs_beq]; simpa using (ltK_ne h2).symm
        clear ihl ihr ha hn hk hs hg hf hs1 hs2 hg0 hn' hf' b1 b2 h1 h2
        generalize cutF key (Tr.node b l k u x r).toL = L at *
        simp only [Tr.ptr]
        generalize Tr.node b l k u x r = t at *
        generalize l.ptr = lp at *
        generalize r.ptr = rp at *
        go_enter Try.func23, Try.ntmps23
        go_wp2_with fail
        refine (CW.out (by trivial)).mono ?_
        rintro e w1 ⟨o, rfl, d1, d2, d3⟩
        have HG : Hid (Calls Try.prog 25 #[.pointer (some ⟨b, 0, none⟩)] (w1.setCell ⟨b, 3, none⟩ (.pointer o)) fun e w2 => ∃ t', e = .returned t'.ptr ∧ Tg t L w t' w2) := d3
        clear d3 CW
        go_wp2_with fail
        refine HG.out.mono ?_
        rintro e w2 ⟨t', rfl, g⟩
        obtain ⟨o', ho⟩ := t'.is_ptr
        have HX : Hid (∃ t', (Ending.returned (.pointer o') : Ending) = .returned (Tr.ptr t') ∧ Tg t L w t' w2) := ⟨t', by rw [ho], g⟩
        rw [ho]
        clear g HG ho
        go_wp2_with fail
        go_ret
        exact HX.out
      · have q1 : Op.bytesLess (bs key).toList (bs k).toList = false := by rw [b1]; simpa using h1
        have q2 : ((bs key).toList == (bs k).toList) = true := by rw [bs_beq]; simpa using ltK_tri (by simpa using h1) (by simpa using h2)
        have hcut : cutF key (Tr.node b l k u x r).toL = l.toL ++ r.toL := by
          simp only [Tr.toL]
          rw [cut_parts hs, if_neg h1, if_neg h2]
        rw [hcut]
        clear hcut b1 b2 hg0 hg h1 h2
        cases l using Tr.cas with
        | nil =>
          have HG : Hid _ := Tg.side (s := r) (.inr rfl) ha hn hk
          obtain ⟨o, ho⟩ := r.is_ptr
          have HX : Hid (∃ t', (Ending.returned (.pointer o) : Ending) = .returned (Tr.ptr t') ∧ Tg (.node b .nil k u x r) (Tr.toL .nil ++ r.toL) w t' w) := ⟨r, by rw [ho], HG.out⟩
          rw [ho] at c3
          simp only [Tr.ptr] at c2 ⊢
          clear HG ho ihl ihr ha hn hk hs hf hs1 hs2 hn' hf'
          generalize Tr.toL .nil ++ r.toL = L at *
          generalize Tr.node b .nil k u x r = t at *
          go_enter Try.func23, Try.ntmps23
          go_wp2_with fail
          go_ret
          exact HX.out
        | node c' l1 k1 u1 x1 r1 =>
          generalize hlN : Tr.node c' l1 k1 u1 x1 r1 = l at *
          have hlp : l.ptr = .pointer (some ⟨c', 0, none⟩) := by rw [← hlN]; rfl
          clear hlN
          cases r using Tr.cas with
          | nil =>
            have HG : Hid _ := Tg.side (s := l) (.inl rfl) ha hn hk
            have HX : Hid (∃ t', (Ending.returned (.pointer (some ⟨c', 0, none⟩)) : Ending) = .returned (Tr.ptr t') ∧ Tg (.node b l k u x .nil) (l.toL ++ Tr.toL .nil) w t' w) := ⟨l, by rw [hlp], by simp only [Tr.toL, List.append_nil]; exact HG.out⟩
            rw [hlp] at c2
            simp only [Tr.ptr] at c3 ⊢
            clear HG hlp ihl ihr ha hn hk hs hf hs1 hs2 hn' hf'
            generalize l.toL ++ Tr.toL .nil = L at *
            generalize Tr.node b l k u x .nil = t at *
            go_enter Try.func23, Try.ntmps23
            go_wp2_with fail
            go_ret
            exact HX.out
          | node d l2 k2 u2 x2 r2 =>
            have CF : Hid (1 = 1 → Calls Try.prog 26 #[.pointer (some ⟨d, 0, none⟩)] w fun e w' => ∃ c q u y m s, e = .returned (.pointer (some ⟨c, 0, none⟩)) ∧ w' = w ∧ w.heap[c]? = some (.cells (nl.cells q u y m s) nl.ty (0, 0)) ∧ c ∈ (Tr.node d l2 k2 u2 x2 r2).blocks ∧ ∃ R, (Tr.node d l2 k2 u2 x2 r2).toL = (q, u) :: R) := fun _ => first26 ha.2.2
            generalize hrN : Tr.node d l2 k2 u2 x2 r2 = r at *
            have hrp : r.ptr = .pointer (some ⟨d, 0, none⟩) := by rw [← hrN]; rfl
            clear hrN
            have f0 := block_frozen ha.1 0
            have f1 := block_frozen ha.1 1
            have c1 : w.cell? ⟨b, 1, none⟩ = some (.int .i64 u) := block_cell ha.1 rfl
            have CD : Hid (∀ c q u' y m s R, w.heap[c]? = some (.cells (nl.cells q u' y m s) nl.ty (0, 0)) → c ∈ r.blocks → r.toL = (q, u') :: R → ∀ W1, W1 = (w.setCell ⟨b, 0, none⟩ (.string (bs q))).setCell ⟨b, 1, none⟩ (.int .i64 u') → c ≠ b ∧ W1.cell? ⟨b, 3, none⟩ = some r.ptr ∧ W1.cell? ⟨c, 0, none⟩ = some (.string (bs q)) ∧ ∀ W, Sw W1 W →
                Calls Try.prog 23 #[r.ptr, .string (bs q)] W fun e w2 => ∃ o, e = .returned (.pointer o) ∧ w2.cell? ⟨b, 3, none⟩ = some r.ptr ∧ w2.frozen? ⟨b, 3, none⟩ = false ∧ ∀ W3, Sw (w2.setCell ⟨b, 3, none⟩ (.pointer o)) W3 → Calls Try.prog 25 #[.pointer (some ⟨b, 0, none⟩)] W3 fun e w3 => ∃ t', e = .returned t'.ptr ∧ Tg (.node b l k u x r) (l.toL ++ r.toL) w t' w3) := by
              intro c q u' y m s R hc hcr hR W1 hW1
              obtain ⟨m1, m2, m3, m4⟩ := moved ha hn hc hcr
              rw [← hW1] at m1 m2 m3
              refine ⟨m4, block_cell m1.1 rfl, block_cell m3 rfl, fun W hs1' => ?_⟩
              have m1' := m1.sw hs1'
              have hq : getF q r.toL = some u' := (getF_mem hs2).2 (by rw [hR]; simp)
              have hcr2 : cutF q r.toL = R := by rw [hR]; simp [cutF]
              refine (ihr q W m1'.2.2 hn'.2.2.1 hk.2.2 hs2 (by rw [hq]; rfl) (by omega)).mono ?_
              rintro e w2 ⟨r', rfl, g⟩
              obtain ⟨o, ho⟩ := r'.is_ptr
              have hb1 : w2.heap[b]? = W.heap[b]? := g.kept.block b (Array.getElem?_eq_some_iff.1 m1'.1).1 (fun hi => hn'.1 (by simp [hi]))
              obtain ⟨o1, o2, o3, o4⟩ := Tg.setr m1' hn g
              rw [ho] at o1 o4
              have hlen : r'.toL.length ≤ r.toL.length := by rw [g.el, len_cut hs2]; split <;> omega
              refine ⟨o, by rw [ho], block_cell (hb1.trans m1'.1) rfl, block_frozen (hb1.trans m1'.1) _, fun W3 hs3 => ?_⟩
              have hN : Nd b l r' q u' x W3 := (Nd.mk o1 o2 hk.2.1 g.hk (by omega)).sw hs3
              refine (balanced25 hN (by omega)).mono ?_
              rintro e w3 ⟨t', rfl, g2⟩
              have g3 := Tg.after o3 o4 (hs3.tg g2)
              have g4 := hs1'.tg g3
              have hm2 : Kept (fun i => i ∈ (Tr.node b l k u x r).blocks) w W1 := m2.mono (fun i e => by simp [Tr.blocks, e])
              have g5 := Tg.after (t := .node b l k u x r) (t1 := .node b l q u' x r) (fun i hi => .inl (by simpa [Tr.blocks] using hi)) hm2 g4
              refine ⟨t', rfl, ⟨g5.ok, g5.hk, g5.nd, ?_, g5.sub, g5.kept⟩⟩
              rw [g5.el, g.el, hcr2, hR]
            rw [hlp] at c2
            clear ihl ihr ha hn hk hs hf hs1 hs2 hn' hf' hlp
            generalize hLL : l.toL ++ r.toL = L at *
            clear hLL
            simp only [Tr.ptr]
            generalize Tr.node b l k u x r = t at *
            rw [hrp] at c3
            generalize r.ptr = rp at *
            subst hrp
            go_enter Try.func23, Try.ntmps23
            go_wp2_with fail
            refine (CF.out (by trivial)).mono ?_
            rintro e w' ⟨c, q, u', y, m, s, rfl, rfl, hc, hcr, R, hR⟩
            obtain ⟨e0, e1, -, -, -⟩ := nd_cells hc
            obtain ⟨hcb, d3, d4, CC⟩ := CD.out c q u' y m s R hc hcr hR _ rfl
            have HC : Hid _ := CC
            clear hc hcr hR CF CD CC
            go_wp2_with fail
            go_region_held3 (fun W => W.cell? ⟨c, 0, none⟩ = some (.string (bs q)) ∧ W.cell? ⟨c, 1, none⟩ = some (.int .i64 u'))
              (first | exact ⟨e0, e1⟩ | exact ⟨(set_kept' _ b 0 _).cell e0 hcb, (set_kept' _ b 0 _).cell e1 hcb⟩ | exact ⟨(set_kept' _ b 1 _).cell ((set_kept' _ b 0 _).cell e0 hcb) hcb, (set_kept' _ b 1 _).cell ((set_kept' _ b 0 _).cell e1 hcb) hcb⟩)
              (fail)
            obtain ⟨W, hW⟩ : ∃ W, ((w'.setCell ⟨b, 0, none⟩ (.string (bs q))).setCell ⟨b, 1, none⟩ (.int .i64 u')).drew = W := ⟨_, rfl⟩
            have d3' : W.cell? ⟨b, 3, none⟩ = some (.pointer (some ⟨d, 0, none⟩)) := by rw [← hW]; exact d3
            have d4' : W.cell? ⟨c, 0, none⟩ = some (.string (bs q)) := by rw [← hW]; exact d4
            have HD : Hid (Calls Try.prog 23 #[.pointer (some ⟨d, 0, none⟩), .string (bs q)] W.drew fun e w2 => ∃ o, e = .returned (.pointer o) ∧ w2.cell? ⟨b, 3, none⟩ = some (.pointer (some ⟨d, 0, none⟩)) ∧ w2.frozen? ⟨b, 3, none⟩ = false ∧ Hid (∀ W3, Sw (w2.setCell ⟨b, 3, none⟩ (.pointer o)) W3 → Calls Try.prog 25 #[.pointer (some ⟨b, 0, none⟩)] W3 fun e w3 => ∃ t', e = .returned t'.ptr ∧ Tg t L w' t' w3)) := by
              rw [← hW]
              exact HC.out _ ⟨rfl, rfl, rfl, rfl⟩
            rw [hW]
            clear HC d3 d4 hW e0 e1 c0 c1 c2 c3 f0 f1
            rename_i hHeld
            clear hHeld
            go_wp2_with fail
            go_region_with (go_at_call 23; refine HD.out.mono ?_; rintro e w2 ⟨o, rfl, d5, d6, HE⟩)
            all_goals
              go_wp2_with fail
              refine (HE.out _ (Sw.refl _)).mono ?_
              rintro e w3 ⟨t', rfl, g⟩
              obtain ⟨o', ho⟩ := t'.is_ptr
              have HX : Hid (∃ t', (Ending.returned (.pointer o') : Ending) = .returned (Tr.ptr t') ∧ Tg t L w' t' w3) := ⟨t', by rw [ho], g⟩
              rw [ho]
              clear g HE ho
              go_wp2_with fail
              go_ret
              exact HX.out
end Go.Proofs.Ytogkgibneddngaa
