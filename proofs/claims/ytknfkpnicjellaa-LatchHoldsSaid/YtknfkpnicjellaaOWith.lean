/-
  Contract of with: the tree with a key more.
-/
import Derived.Test.YtknfkpnicjellaaOAb
namespace Go.Proofs.Ytknfkpnicjellaa
open Go.RowKit

set_option maxHeartbeats 3200000 in
set_option maxRecDepth 100000 in
theorem with21 (key : List UInt8) (v : Cv) (t : Tr) : ∀ (w : World), TrAt nl t w → t.blocks.Nodup → Hk t → Srt t.toL → getF key t.toL = none → t.toL.length < 100000 →
    Calls Try.prog 54 #[t.ptr, .string (bs key), .agg #[.int .u32 v.1.1, .int .u32 v.1.2, .string (bs v.2.key), .string (bs v.2.val), .bool v.2.dead]] w fun e w' => ∃ t', e = .returned t'.ptr ∧ Tg t (setF key v t.toL) w t' w' := by
  induction t using Tr.ind with
  | nil =>
    intro w _ _ _ _ _ _
    simp only [Tr.ptr]
    obtain ⟨W, hW⟩ : ∃ W, w.alloc (.cells #[.int .u32 v.1.1, .int .u32 v.1.2, .string (bs v.2.key), .string (bs v.2.val), .bool v.2.dead] 62) = W := ⟨_, rfl⟩
    have hb : Below w.heap.size w W := by rw [← hW]; exact al _
    have HG : Hid (Tg .nil (setF key v (Tr.toL .nil)) w (.node W.heap.size .nil key v 1 .nil) (W.alloc (.cells #[.string (bs key), .int .u32 v.1.1, .int .u32 v.1.2, .string (bs v.2.key), .string (bs v.2.val), .bool v.2.dead, .pointer none, .pointer none, .int .i64 1] 94))) :=
      ⟨TrAt.new (Y := nl) (l := .nil) (r := .nil) trivial trivial key v 1, ⟨rfl, trivial, trivial⟩, by simp [Tr.blocks], rfl, fun i hi => by simp [Tr.blocks] at hi; exact .inr (by rw [hi]; exact hb.size), Kept.of_below (hb.trans ((al _).mono hb.size))⟩
    have hsz : W.heap.size = w.heap.size + 1 := by rw [← hW]; simp
    rw [hsz, ← hW] at HG
    clear hb hW hsz
    have y0 : (w.alloc (.cells #[.int .u32 v.1.1, .int .u32 v.1.2, .string (bs v.2.key), .string (bs v.2.val), .bool v.2.dead] 62)).cell? ⟨w.heap.size, 0, none⟩ = some (.int .u32 v.1.1) := block_cell (heap_alloc_new w _) rfl
    have y1 : (w.alloc (.cells #[.int .u32 v.1.1, .int .u32 v.1.2, .string (bs v.2.key), .string (bs v.2.val), .bool v.2.dead] 62)).cell? ⟨w.heap.size, 1, none⟩ = some (.int .u32 v.1.2) := block_cell (heap_alloc_new w _) rfl
    have y2 : (w.alloc (.cells #[.int .u32 v.1.1, .int .u32 v.1.2, .string (bs v.2.key), .string (bs v.2.val), .bool v.2.dead] 62)).cell? ⟨w.heap.size, 2, none⟩ = some (.string (bs v.2.key)) := block_cell (heap_alloc_new w _) rfl
    have y3 : (w.alloc (.cells #[.int .u32 v.1.1, .int .u32 v.1.2, .string (bs v.2.key), .string (bs v.2.val), .bool v.2.dead] 62)).cell? ⟨w.heap.size, 3, none⟩ = some (.string (bs v.2.val)) := block_cell (heap_alloc_new w _) rfl
    have y4 : (w.alloc (.cells #[.int .u32 v.1.1, .int .u32 v.1.2, .string (bs v.2.key), .string (bs v.2.val), .bool v.2.dead] 62)).cell? ⟨w.heap.size, 4, none⟩ = some (.bool v.2.dead) := block_cell (heap_alloc_new w _) rfl
    go_enter Try.func54, Try.ntmps54
    go_wp2_with fail
    go_ret
    exact ⟨_, rfl, HG.out⟩
  | node b l k u x r ihl ihr =>
    intro w ha hn hk hs hg hf
    obtain ⟨hs1, hs2, _, _⟩ := srt_parts hs
    have hg0 := hg
    simp only [Tr.toL] at hg0
    rw [get_parts hs] at hg0
    have hn' := hn
    rw [Tr.blocks, List.nodup_cons, List.nodup_append] at hn'
    have hf' := hf
    simp only [Tr.toL, List.length_append, List.length_cons] at hf'
    obtain ⟨c0, -, c2, c3, -⟩ := nd_cells (ha.on (al (W := w) (.cells #[.int .u32 v.1.1, .int .u32 v.1.2, .string (bs v.2.key), .string (bs v.2.val), .bool v.2.dead] 62))).1
    have b1 := bl key k
    have y0 : (w.alloc (.cells #[.int .u32 v.1.1, .int .u32 v.1.2, .string (bs v.2.key), .string (bs v.2.val), .bool v.2.dead] 62)).cell? ⟨w.heap.size, 0, none⟩ = some (.int .u32 v.1.1) := block_cell (heap_alloc_new w _) rfl
    have y1 : (w.alloc (.cells #[.int .u32 v.1.1, .int .u32 v.1.2, .string (bs v.2.key), .string (bs v.2.val), .bool v.2.dead] 62)).cell? ⟨w.heap.size, 1, none⟩ = some (.int .u32 v.1.2) := block_cell (heap_alloc_new w _) rfl
    have y2 : (w.alloc (.cells #[.int .u32 v.1.1, .int .u32 v.1.2, .string (bs v.2.key), .string (bs v.2.val), .bool v.2.dead] 62)).cell? ⟨w.heap.size, 2, none⟩ = some (.string (bs v.2.key)) := block_cell (heap_alloc_new w _) rfl
    have y3 : (w.alloc (.cells #[.int .u32 v.1.1, .int .u32 v.1.2, .string (bs v.2.key), .string (bs v.2.val), .bool v.2.dead] 62)).cell? ⟨w.heap.size, 3, none⟩ = some (.string (bs v.2.val)) := block_cell (heap_alloc_new w _) rfl
    have y4 : (w.alloc (.cells #[.int .u32 v.1.1, .int .u32 v.1.2, .string (bs v.2.key), .string (bs v.2.val), .bool v.2.dead] 62)).cell? ⟨w.heap.size, 4, none⟩ = some (.bool v.2.dead) := block_cell (heap_alloc_new w _) rfl
    by_cases h1 : ltK key k = true
    · rw [if_pos h1] at hg0
      have CW : Hid (∀ W, Sw (w.alloc (.cells #[.int .u32 v.1.1, .int .u32 v.1.2, .string (bs v.2.key), .string (bs v.2.val), .bool v.2.dead] 62)) W → Calls Try.prog 54 #[l.ptr, .string (bs key), .agg #[.int .u32 v.1.1, .int .u32 v.1.2, .string (bs v.2.key), .string (bs v.2.val), .bool v.2.dead]] W fun e w1 => ∃ o, e = .returned (.pointer o) ∧ w1.cell? ⟨b, 6, none⟩ = some l.ptr ∧ w1.frozen? ⟨b, 6, none⟩ = false ∧ Hid (∀ W3, Sw (w1.setCell ⟨b, 6, none⟩ (.pointer o)) W3 → Calls Try.prog 60 #[.pointer (some ⟨b, 0, none⟩)] W3 fun e w2 => ∃ t', e = .returned t'.ptr ∧ Tg (.node b l k u x r) (setF key v (Tr.node b l k u x r).toL) w t' w2)) := by
        intro W hsw
        have ha' := (ha.on (al (W := w) (.cells #[.int .u32 v.1.1, .int .u32 v.1.2, .string (bs v.2.key), .string (bs v.2.val), .bool v.2.dead] 62))).sw hsw
        refine (ihl W ha'.2.1 hn'.2.1 hk.2.1 hs1 hg0 (by omega)).mono ?_
        rintro e w1 ⟨s', rfl, g⟩
        obtain ⟨o, ho⟩ := s'.is_ptr
        have hb1 : w1.heap[b]? = W.heap[b]? := g.kept.block b (Array.getElem?_eq_some_iff.1 ha'.1).1 (fun hi => hn'.1 (by simp [hi]))
        obtain ⟨o1, o2, o3, o4⟩ := Tg.setl ha' hn g
        rw [ho] at o1 o4
        have hlen : s'.toL.length = l.toL.length + 1 := by rw [g.el, len_set hs1, hg0]; rfl
        refine ⟨o, by rw [ho], block_cell (hb1.trans ha'.1) rfl, block_frozen (hb1.trans ha'.1) _, fun W3 hs3 => ?_⟩
        have hN : Nd b s' r k u x W3 := (Nd.mk o1 o2 g.hk hk.2.2 (by omega)).sw hs3
        refine (balanced25 hN (by omega)).mono ?_
        rintro e w2 ⟨t', rfl, g2⟩
        refine ⟨t', rfl, Tg.after (fun i hi => .inl hi) (Kept.of_below (al (W := w) (.cells #[.int .u32 v.1.1, .int .u32 v.1.2, .string (bs v.2.key), .string (bs v.2.val), .bool v.2.dead] 62))) (hsw.tg (Tg.after o3 o4 (hs3.tg ?_)))⟩
        simp only [Tr.toL]
        rw [set_parts hs, if_pos h1, ← g.el]
        exact g2
      have q1 : Op.bytesLess (bs key).toList (bs k).toList = true := by rw [b1]; exact h1
      have f2 : (w.alloc (.cells #[.int .u32 v.1.1, .int .u32 v.1.2, .string (bs v.2.key), .string (bs v.2.val), .bool v.2.dead] 62)).frozen? ⟨b, 6, none⟩ = false := block_frozen (TrAt.on ha (al (W := w) (.cells #[.int .u32 v.1.1, .int .u32 v.1.2, .string (bs v.2.key), .string (bs v.2.val), .bool v.2.dead] 62))).1 _
      clear ihl ihr ha hn hk hs hg hf hs1 hs2 hg0 hn' hf' b1 h1
      generalize setF key v (Tr.node b l k u x r).toL = L at *
      simp only [Tr.ptr]
      generalize Tr.node b l k u x r = t at *
      generalize l.ptr = lp at *
      generalize r.ptr = rp at *
      go_enter Try.func54, Try.ntmps54
      go_wp2_with fail
      go_region_with (go_at_call 54; refine (CW.out _ ?_).mono ?_; exact Sw.drew (Sw.refl _); rintro e w1 ⟨o, rfl, d5, d6, HE⟩)
      all_goals
        go_wp2_with fail
        refine (HE.out _ (Sw.refl _)).mono ?_
        rintro e w2 ⟨t', rfl, g⟩
        obtain ⟨o', ho⟩ := t'.is_ptr
        have HX : Hid (∃ t', (Ending.returned (.pointer o') : Ending) = .returned (Tr.ptr t') ∧ Tg t L w t' w2) := ⟨t', by rw [ho], g⟩
        rw [ho]
        clear g HE ho
        go_wp2_with fail
        go_ret
        exact HX.out
    · rw [if_neg h1] at hg0
      have h2 : ltK k key = true := by
        by_cases h2 : ltK k key = true
        · exact h2
        · rw [if_neg h2] at hg0
          cases hg0
      rw [if_pos h2] at hg0
      have CW : Hid (∀ W, Sw (w.alloc (.cells #[.int .u32 v.1.1, .int .u32 v.1.2, .string (bs v.2.key), .string (bs v.2.val), .bool v.2.dead] 62)) W → Calls Try.prog 54 #[r.ptr, .string (bs key), .agg #[.int .u32 v.1.1, .int .u32 v.1.2, .string (bs v.2.key), .string (bs v.2.val), .bool v.2.dead]] W fun e w1 => ∃ o, e = .returned (.pointer o) ∧ w1.cell? ⟨b, 7, none⟩ = some r.ptr ∧ w1.frozen? ⟨b, 7, none⟩ = false ∧ Hid (∀ W3, Sw (w1.setCell ⟨b, 7, none⟩ (.pointer o)) W3 → Calls Try.prog 60 #[.pointer (some ⟨b, 0, none⟩)] W3 fun e w2 => ∃ t', e = .returned t'.ptr ∧ Tg (.node b l k u x r) (setF key v (Tr.node b l k u x r).toL) w t' w2)) := by
        intro W hsw
        have ha' := (ha.on (al (W := w) (.cells #[.int .u32 v.1.1, .int .u32 v.1.2, .string (bs v.2.key), .string (bs v.2.val), .bool v.2.dead] 62))).sw hsw
        refine (ihr W ha'.2.2 hn'.2.2.1 hk.2.2 hs2 hg0 (by omega)).mono ?_
        rintro e w1 ⟨s', rfl, g⟩
        obtain ⟨o, ho⟩ := s'.is_ptr
        have hb1 : w1.heap[b]? = W.heap[b]? := g.kept.block b (Array.getElem?_eq_some_iff.1 ha'.1).1 (fun hi => hn'.1 (by simp [hi]))
        obtain ⟨o1, o2, o3, o4⟩ := Tg.setr ha' hn g
        rw [ho] at o1 o4
        have hlen : s'.toL.length = r.toL.length + 1 := by rw [g.el, len_set hs2, hg0]; rfl
        refine ⟨o, by rw [ho], block_cell (hb1.trans ha'.1) rfl, block_frozen (hb1.trans ha'.1) _, fun W3 hs3 => ?_⟩
        have hN : Nd b l s' k u x W3 := (Nd.mk o1 o2 hk.2.1 g.hk (by omega)).sw hs3
        refine (balanced25 hN (by omega)).mono ?_
        rintro e w2 ⟨t', rfl, g2⟩
        refine ⟨t', rfl, Tg.after (fun i hi => .inl hi) (Kept.of_below (al (W := w) (.cells #[.int .u32 v.1.1, .int .u32 v.1.2, .string (bs v.2.key), .string (bs v.2.val), .bool v.2.dead] 62))) (hsw.tg (Tg.after o3 o4 (hs3.tg ?_)))⟩
        simp only [Tr.toL]
        rw [set_parts hs, if_neg h1, if_pos h2, ← g.el]
        exact g2
      have q1 : Op.bytesLess (bs key).toList (bs k).toList = false := by rw [b1]; simpa using h1
      have f2 : (w.alloc (.cells #[.int .u32 v.1.1, .int .u32 v.1.2, .string (bs v.2.key), .string (bs v.2.val), .bool v.2.dead] 62)).frozen? ⟨b, 7, none⟩ = false := block_frozen (TrAt.on ha (al (W := w) (.cells #[.int .u32 v.1.1, .int .u32 v.1.2, .string (bs v.2.key), .string (bs v.2.val), .bool v.2.dead] 62))).1 _
      clear ihl ihr ha hn hk hs hg hf hs1 hs2 hg0 hn' hf' b1 h1 h2
      generalize setF key v (Tr.node b l k u x r).toL = L at *
      simp only [Tr.ptr]
      generalize Tr.node b l k u x r = t at *
      generalize l.ptr = lp at *
      generalize r.ptr = rp at *
      go_enter Try.func54, Try.ntmps54
      go_wp2_with fail
      go_region_with (go_at_call 54; refine (CW.out _ ?_).mono ?_; exact Sw.drew (Sw.refl _); rintro e w1 ⟨o, rfl, d5, d6, HE⟩)
      all_goals
        go_wp2_with fail
        refine (HE.out _ (Sw.refl _)).mono ?_
        rintro e w2 ⟨t', rfl, g⟩
        obtain ⟨o', ho⟩ := t'.is_ptr
        have HX : Hid (∃ t', (Ending.returned (.pointer o') : Ending) = .returned (Tr.ptr t') ∧ Tg t L w t' w2) := ⟨t', by rw [ho], g⟩
        rw [ho]
        clear g HE ho
        go_wp2_with fail
        go_ret
        exact HX.out
end Go.Proofs.Ytknfkpnicjellaa
