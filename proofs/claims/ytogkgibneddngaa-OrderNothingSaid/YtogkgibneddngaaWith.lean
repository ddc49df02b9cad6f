/-
  Contract of with: the tree with a key more.
-/
import Derived.Test.YtogkgibneddngaaBal
namespace Go.Proofs.Ytogkgibneddngaa
open Go.RowKit

set_option maxHeartbeats 1600000 in
theorem with21 (key : List UInt8) (v : Int) (t : Tr) : ∀ (w : World), TrAt nl t w → t.blocks.Nodup → Hk t → Srt t.toL → getF key t.toL = none → t.toL.length < 100000 →
    Calls Try.prog 21 #[t.ptr, .string (bs key), .int .i64 v] w fun e w' => ∃ t', e = .returned t'.ptr ∧ Tg t (setF key v t.toL) w t' w' := by
  induction t using Tr.ind with
  | nil =>
    intro w _ _ _ _ _ _
    simp only [Tr.ptr]
    have HG : Hid (Tg .nil (setF key v (Tr.toL .nil)) w (.node w.heap.size .nil key v 1 .nil) (w.alloc (.cells #[.string (bs key), .int .i64 v, .pointer none, .pointer none, .int .i64 1] 53))) :=
      ⟨TrAt.new (Y := nl) (l := .nil) (r := .nil) trivial trivial key v 1, ⟨rfl, trivial, trivial⟩, by simp [Tr.blocks], rfl, fun i hi => by simp [Tr.blocks] at hi; omega, Kept.of_below (al _)⟩
    go_enter Try.func21, Try.ntmps21
    go_wp2_with fail
    go_ret
    exact ⟨_, rfl, HG.out⟩
  | node b l k u x r ihl ihr =>
    intro w ha hn hk hs hg hf
    obtain ⟨hs1, hs2, _, _⟩ := srt_parts hs
    have hg0 := hg
    simp only [Tr.toL] at hg0
    rw [get_parts hs] at hg0
    have hn' := hn
    rw [Tr.blocks, List.nodup_cons, List.nodup_append] at hn'
    have hf' := hf
    simp only [Tr.toL, List.length_append, List.length_cons] at hf'
    obtain ⟨c0, -, c2, c3, -⟩ := nd_cells ha.1
    have b1 := bl key k
    by_cases h1 : ltK key k = true
    · rw [if_pos h1] at hg0
      have f2 := block_frozen ha.1 2
      have CW : Hid (1 = 1 → Calls Try.prog 21 #[l.ptr, .string (bs key), .int .i64 v] w fun e w1 => ∃ o, e = .returned (.pointer o) ∧ w1.cell? ⟨b, 2, none⟩ = some l.ptr ∧ w1.frozen? ⟨b, 2, none⟩ = false ∧ Calls Try.prog 25 #[.pointer (some ⟨b, 0, none⟩)] (w1.setCell ⟨b, 2, none⟩ (.pointer o)) fun e w2 => ∃ t', e = .returned t'.ptr ∧ Tg (.node b l k u x r) (setF key v (Tr.node b l k u x r).toL) w t' w2) := by
        intro _
        refine (ihl w ha.2.1 hn'.2.1 hk.2.1 hs1 hg0 (by omega)).mono ?_
        rintro e w1 ⟨l', rfl, g⟩
        obtain ⟨o, ho⟩ := l'.is_ptr
        have hb1 : w1.heap[b]? = w.heap[b]? := g.kept.block b (Array.getElem?_eq_some_iff.1 ha.1).1 (fun hi => hn'.1 (by simp [hi]))
        obtain ⟨o1, o2, o3, o4⟩ := Tg.setl ha hn g
        rw [ho] at o1 o4
        have hlen : l'.toL.length = l.toL.length + 1 := by rw [g.el, len_set hs1, hg0]; rfl
        refine ⟨o, by rw [ho], block_cell (hb1.trans ha.1) rfl, block_frozen (hb1.trans ha.1) _, ?_⟩
        refine (balanced25 ⟨o1, o2, g.hk, hk.2.2, by omega⟩ (by omega)).mono ?_
        rintro e w2 ⟨t', rfl, g2⟩
        refine ⟨t', rfl, Tg.after o3 o4 ?_⟩
        simp only [Tr.toL]
        rw [set_parts hs, if_pos h1, ← g.el]
        exact g2
      have q1 : Op.bytesLess (bs key).toList (bs k).toList = true := by rw [b1]; exact h1
      clear ihl ihr ha hn hk hs hg hf hs1 hs2 hg0 hn' hf' b1 h1
      generalize setF key v (Tr.node b l k u x r).toL = L at *
      simp only [Tr.ptr]
      generalize Tr.node b l k u x r = t at *
      generalize l.ptr = lp at *
      generalize r.ptr = rp at *
      go_enter Try.func21, Try.ntmps21
      go_wp2_with fail
      refine (CW.out (by trivial)).mono ?_
      rintro e w1 ⟨o, rfl, d1, d2, d3⟩
      have HG : Hid (Calls Try.prog 25 #[.pointer (some ⟨b, 0, none⟩)] (w1.setCell ⟨b, 2, none⟩ (.pointer o)) fun e w2 => ∃ t', e = .returned t'.ptr ∧ Tg t L w t' w2) := d3
      clear d3 CW
      go_wp2_with fail
      refine HG.out.mono ?_
      rintro e w2 ⟨t', rfl, g⟩
      obtain ⟨o', ho⟩ := t'.is_ptr
      have HX : Hid (∃ t', (Ending.returned (.pointer o') : Ending) = .returned (Tr.ptr t') ∧ Tg t L w t' w2) := ⟨t', by rw [ho], g⟩
      rw [ho]
      clear g HG ho
      go_wp2_with fail
      go_ret
      exact HX.out
    · rw [if_neg h1] at hg0
      have h2 : ltK k key = true := by
        by_cases h2 : ltK k key = true
        · exact h2
        · rw [if_neg h2] at hg0
          cases hg0
      rw [if_pos h2] at hg0
      have f2 := block_frozen ha.1 3
      have CW : Hid (1 = 1 → Calls Try.prog 21 #[r.ptr, .string (bs key), .int .i64 v] w fun e w1 => ∃ o, e = .returned (.pointer o) ∧ w1.cell? ⟨b, 3, none⟩ = some r.ptr ∧ w1.frozen? ⟨b, 3, none⟩ = false ∧ Calls Try.prog 25 #[.pointer (some ⟨b, 0, none⟩)] (w1.setCell ⟨b, 3, none⟩ (.pointer o)) fun e w2 => ∃ t', e = .returned t'.ptr ∧ Tg (.node b l k u x r) (setF key v (Tr.node b l k u x r).toL) w t' w2) := by
        intro _
        refine (ihr w ha.2.2 hn'.2.2.1 hk.2.2 hs2 hg0 (by omega)).mono ?_
        rintro e w1 ⟨r', rfl, g⟩
        obtain ⟨o, ho⟩ := r'.is_ptr
        have hb1 : w1.heap[b]? = w.heap[b]? := g.kept.block b (Array.getElem?_eq_some_iff.1 ha.1).1 (fun hi => hn'.1 (by simp [hi]))
        obtain ⟨o1, o2, o3, o4⟩ := Tg.setr ha hn g
        rw [ho] at o1 o4
        have hlen : r'.toL.length = r.toL.length + 1 := by rw [g.el, len_set hs2, hg0]; rfl
        refine ⟨o, by rw [ho], block_cell (hb1.trans ha.1) rfl, block_frozen (hb1.trans ha.1) _, ?_⟩
        refine (balanced25 ⟨o1, o2, hk.2.1, g.hk, by omega⟩ (by omega)).mono ?_
        rintro e w2 ⟨t', rfl, g2⟩
        refine ⟨t', rfl, Tg.after o3 o4 ?_⟩
        simp only [Tr.toL]
        rw [set_parts hs, if_neg h1, if_pos h2, ← g.el]
        exact g2
      have q1 : Op.bytesLess (bs key).toList (bs k).toList = false := by rw [b1]; simpa using h1
      clear ihl ihr ha hn hk hs hg hf hs1 hs2 hg0 hn' hf' b1 h1 h2
      generalize setF key v (Tr.node b l k u x r).toL = L at *
      simp only [Tr.ptr]
      generalize Tr.node b l k u x r = t at *
      generalize l.ptr = lp at *
      generalize r.ptr = rp at *
      go_enter Try.func21, Try.ntmps21
      go_wp2_with fail
      refine (CW.out (by trivial)).mono ?_
      rintro e w1 ⟨o, rfl, d1, d2, d3⟩
      have HG : Hid (Calls Try.prog 25 #[.pointer (some ⟨b, 0, none⟩)] (w1.setCell ⟨b, 3, none⟩ (.pointer o)) fun e w2 => ∃ t', e = .returned t'.ptr ∧ Tg t L w t' w2) := d3
      clear d3 CW
      go_wp2_with fail
      refine HG.out.mono ?_
      rintro e w2 ⟨t', rfl, g⟩
      obtain ⟨o', ho⟩ := t'.is_ptr
      have HX : Hid (∃ t', (Ending.returned (.pointer o') : Ending) = .returned (Tr.ptr t') ∧ Tg t L w t' w2) := ⟨t', by rw [ho], g⟩
      rw [ho]
      clear g HG ho
      go_wp2_with fail
      go_ret
      exact HX.out
end Go.Proofs.Ytogkgibneddngaa
