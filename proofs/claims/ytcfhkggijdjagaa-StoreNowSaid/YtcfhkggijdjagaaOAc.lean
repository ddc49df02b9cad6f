/-
  Order's map: keys set and cut, gathered, found.
-/
import Derived.Test.YtcfhkggijdjagaaOAb
import Derived.Test.YtcfhkggijdjagaaOAa
import Derived.ScopeJumps
import Derived.WalkMore
namespace Go.Proofs.Ytcfhkggijdjagaa
open Go.RowKit

set_option maxHeartbeats 1600000 in
theorem with21 (key : List UInt8) (v : Sv) (t : Tr) : ∀ (w : World), TrAt nl t w → t.blocks.Nodup → Hk t → Srt t.toL → getF key t.toL = none → t.toL.length < 100000 →
    Calls Try.prog 56 #[t.ptr, .string (bs key), .slice v.1 v.2.1 v.2.2] w fun e w' => ∃ t', e = .returned t'.ptr ∧ Tg t (setF key v t.toL) w t' w' := by
  induction t using Tr.ind with
  | nil =>
    intro w _ _ _ _ _ _
    simp only [Tr.ptr]
    have HG : Hid (Tg .nil (setF key v (Tr.toL .nil)) w (.node w.heap.size .nil key v 1 .nil) (w.alloc (.cells #[.string (bs key), .slice v.1 v.2.1 v.2.2, .pointer none, .pointer none, .int .i64 1] 99))) :=
      ⟨TrAt.new (Y := nl) (l := .nil) (r := .nil) trivial trivial key v 1, ⟨rfl, trivial, trivial⟩, by simp [Tr.blocks], rfl, fun i hi => by simp [Tr.blocks] at hi; omega, Kept.of_below (al _)⟩
    go_enter Try.func56, Try.ntmps56
    go_wp2_with fail
    go_ret
    exact ⟨_, rfl, HG.out⟩
  | node b l k u x r ihl ihr =>
    intro w ha hn hk hs hg hf
    obtain ⟨hs1, hs2, _, _⟩ := srt_parts hs
    have hg0 := hg
    simp only [Tr.toL] at hg0
    rw [get_parts hs] at hg0
    have hn' := hn
    rw [Tr.blocks, List.nodup_cons, List.nodup_append] at hn'
    have hf' := hf
    simp only [Tr.toL, List.length_append, List.length_cons] at hf'
    obtain ⟨c0, -, c2, c3, -⟩ := nd_cells ha.1
    have b1 := bl key k
    by_cases h1 : ltK key k = true
    · rw [if_pos h1] at hg0
      have f2 := block_frozen ha.1 2
      have CW : Hid (1 = 1 → Calls Try.prog 56 #[l.ptr, .string (bs key), .slice v.1 v.2.1 v.2.2] w fun e w1 => ∃ o, e = .returned (.pointer o) ∧ w1.cell? ⟨b, 2, none⟩ = some l.ptr ∧ w1.frozen? ⟨b, 2, none⟩ = false ∧ Calls Try.prog 66 #[.pointer (some ⟨b, 0, none⟩)] (w1.setCell ⟨b, 2, none⟩ (.pointer o)) fun e w2 => ∃ t', e = .returned t'.ptr ∧ Tg (.node b l k u x r) (setF key v (Tr.node b l k u x r).toL) w t' w2) := by
        intro _
        refine (ihl w ha.2.1 hn'.2.1 hk.2.1 hs1 hg0 (by omega)).mono ?_
        rintro e w1 ⟨l', rfl, g⟩
        obtain ⟨o, ho⟩ := l'.is_ptr
        have hb1 : w1.heap[b]? = w.heap[b]? := g.kept.block b (Array.getElem?_eq_some_iff.1 ha.1).1 (fun hi => hn'.1 (by simp [hi]))
        obtain ⟨o1, o2, o3, o4⟩ := Tg.setl ha hn g
        rw [ho] at o1 o4
        have hlen : l'.toL.length = l.toL.length + 1 := by rw [g.el, len_set hs1, hg0]; rfl
        refine ⟨o, by rw [ho], block_cell (hb1.trans ha.1) rfl, block_frozen (hb1.trans ha.1) _, ?_⟩
        refine (balanced25 ⟨o1, o2, g.hk, hk.2.2, by omega⟩ (by omega)).mono ?_
        rintro e w2 ⟨t', rfl, g2⟩
        refine ⟨t', rfl, Tg.after o3 o4 ?_⟩
        simp only [Tr.toL]
        rw [set_parts hs, if_pos h1, ← g.el]
        exact g2
      have q1 : Op.bytesLess (bs key).toList (bs k).toList = true := by rw [b1]; exact h1
      clear ihl ihr ha hn hk hs hg hf hs1 hs2 hg0 hn' hf' b1 h1
      generalize setF key v (Tr.node b l k u x r).toL = L at *
      simp only [Tr.ptr]
      generalize Tr.node b l k u x r = t at *
      generalize l.ptr = lp at *
      generalize r.ptr = rp at *
      go_enter Try.func56, Try.ntmps56
      go_wp2_with fail
      refine (CW.out (by trivial)).mono ?_
      rintro e w1 ⟨o, rfl, d1, d2, d3⟩
      have HG : Hid (Calls Try.prog 66 #[.pointer (some ⟨b, 0, none⟩)] (w1.setCell ⟨b, 2, none⟩ (.pointer o)) fun e w2 => ∃ t', e = .returned t'.ptr ∧ Tg t L w t' w2) := d3
      clear d3 CW
      go_wp2_with fail
      refine HG.out.mono ?_
      rintro e w2 ⟨t', rfl, g⟩
      obtain ⟨o', ho⟩ := t'.is_ptr
      have HX : Hid (∃ t', (Ending.returned (.pointer o') : Ending) = .returned (Tr.ptr t') ∧ Tg t L w t' w2) := ⟨t', by rw [ho], g⟩
      rw [ho]
      clear g HG ho
      go_wp2_with fail
      go_ret
      exact HX.out
    · rw [if_neg h1] at hg0
      have h2 : ltK k key = true := by
        by_cases h2 : ltK k key = true
        · exact h2
        · rw [if_neg h2] at hg0
          cases hg0
      rw [if_pos h2] at hg0
      have f2 := block_frozen ha.1 3
      have CW : Hid (1 = 1 → Calls Try.prog 56 #[r.ptr, .string (bs key), .slice v.1 v.2.1 v.2.2] w fun e w1 => ∃ o, e = .returned (.pointer o) ∧ w1.cell? ⟨b, 3, none⟩ = some r.ptr ∧ w1.frozen? ⟨b, 3, none⟩ = false ∧ Calls Try.prog 66 #[.pointer (some ⟨b, 0, none⟩)] (w1.setCell ⟨b, 3, none⟩ (.pointer o)) fun e w2 => ∃ t', e = .returned t'.ptr ∧ Tg (.node b l k u x r) (setF key v (Tr.node b l k u x r).toL) w t' w2) := by
        intro _
        refine (ihr w ha.2.2 hn'.2.2.1 hk.2.2 hs2 hg0 (by omega)).mono ?_
        rintro e w1 ⟨r', rfl, g⟩
        obtain ⟨o, ho⟩ := r'.is_ptr
        have hb1 : w1.heap[b]? = w.heap[b]? := g.kept.block b (Array.getElem?_eq_some_iff.1 ha.1).1 (fun hi => hn'.1 (by simp [hi]))
        obtain ⟨o1, o2, o3, o4⟩ := Tg.setr ha hn g
        rw [ho] at o1 o4
        have hlen : r'.toL.length = r.toL.length + 1 := by rw [g.el, len_set hs2, hg0]; rfl
        refine ⟨o, by rw [ho], block_cell (hb1.trans ha.1) rfl, block_frozen (hb1.trans ha.1) _, ?_⟩
        refine (balanced25 ⟨o1, o2, hk.2.1, g.hk, by omega⟩ (by omega)).mono ?_
        rintro e w2 ⟨t', rfl, g2⟩
        refine ⟨t', rfl, Tg.after o3 o4 ?_⟩
        simp only [Tr.toL]
        rw [set_parts hs, if_neg h1, if_pos h2, ← g.el]
        exact g2
      have q1 : Op.bytesLess (bs key).toList (bs k).toList = false := by rw [b1]; simpa using h1
      clear ihl ihr ha hn hk hs hg hf hs1 hs2 hg0 hn' hf' b1 h1 h2
      generalize setF key v (Tr.node b l k u x r).toL = L at *
      simp only [Tr.ptr]
      generalize Tr.node b l k u x r = t at *
      generalize l.ptr = lp at *
      generalize r.ptr = rp at *
      go_enter Try.func56, Try.ntmps56
      go_wp2_with fail
      refine (CW.out (by trivial)).mono ?_
      rintro e w1 ⟨o, rfl, d1, d2, d3⟩
      have HG : Hid (Calls Try.prog 66 #[.pointer (some ⟨b, 0, none⟩)] (w1.setCell ⟨b, 3, none⟩ (.pointer o)) fun e w2 => ∃ t', e = .returned t'.ptr ∧ Tg t L w t' w2) := d3
      clear d3 CW
      go_wp2_with fail
      refine HG.out.mono ?_
      rintro e w2 ⟨t', rfl, g⟩
      obtain ⟨o', ho⟩ := t'.is_ptr
      have HX : Hid (∃ t', (Ending.returned (.pointer o') : Ending) = .returned (Tr.ptr t') ∧ Tg t L w t' w2) := ⟨t', by rw [ho], g⟩
      rw [ho]
      clear g HG ho
      go_wp2_with fail
      go_ret
      exact HX.out
end Go.Proofs.Ytcfhkggijdjagaa

namespace Go.Proofs.Ytcfhkggijdjagaa
open Go.RowKit

theorem Tg.side {b : Nat} {l r : Tr} {k : List UInt8} {v : Sv} {x : Nat} {w : World} {s : Tr} (hs : s = l ∨ s = r) (h : TrAt nl (.node b l k v x r) w) (hn : (Tr.node b l k v x r).blocks.Nodup) (hk : Hk (.node b l k v x r)) : Tg (.node b l k v x r) s.toL w s w := by
  rw [Tr.blocks, List.nodup_cons, List.nodup_append] at hn
  rcases hs with rfl | rfl
  · exact ⟨h.2.1, hk.2.1, hn.2.1, rfl, fun i hi => .inl (by simp [Tr.blocks, hi]), Kept.refl _ _⟩
  · exact ⟨h.2.2, hk.2.2, hn.2.2.1, rfl, fun i hi => .inl (by simp [Tr.blocks, hi]), Kept.refl _ _⟩

/-- Another key and value in a node. -/
theorem moved {b c : Nat} {l r : Tr} {k q : List UInt8} {v u : Sv} {x y : Nat} {m s : Value} {w : World} (ha : TrAt nl (.node b l k v x r) w) (hn : (Tr.node b l k v x r).blocks.Nodup) (hc : w.heap[c]? = some (.cells (nl.cells q u y m s) nl.ty (0, 0))) (hcr : c ∈ r.blocks) :
    TrAt nl (.node b l q u x r) ((w.setCell ⟨b, 0, none⟩ (.string (bs q))).setCell ⟨b, 1, none⟩ (.slice u.1 u.2.1 u.2.2)) ∧ Kept (fun i => i = b) w ((w.setCell ⟨b, 0, none⟩ (.string (bs q))).setCell ⟨b, 1, none⟩ (.slice u.1 u.2.1 u.2.2)) ∧ ((w.setCell ⟨b, 0, none⟩ (.string (bs q))).setCell ⟨b, 1, none⟩ (.slice u.1 u.2.1 u.2.2)).heap[c]? = some (.cells (nl.cells q u y m s) nl.ty (0, 0)) ∧ c ≠ b := by
  rw [Tr.blocks, List.nodup_cons, List.mem_append, not_or] at hn
  have hcb : c ≠ b := fun e => hn.1.2 (e ▸ hcr)
  have k1 := set_kept' w b 0 (.string (bs q))
  have k2 := set_kept' (w.setCell ⟨b, 0, none⟩ (.string (bs q))) b 1 (.slice u.1 u.2.1 u.2.2)
  have kk := k1.trans k2 (fun i e => .inl e)
  refine ⟨⟨block_set _ (block_set _ ha.1), TrAt.kept kk ha.2.1 (fun i hi e => hn.1.1 (e ▸ hi)), TrAt.kept kk ha.2.2 (fun i hi e => hn.1.2 (e ▸ hi))⟩, kk, ?_, hcb⟩
  rw [kk.block c (Array.getElem?_eq_some_iff.1 hc).1 hcb]
  exact hc

set_option maxHeartbeats 3200000 in
theorem without23 (t : Tr) : ∀ (key : List UInt8) (w : World), TrAt nl t w → t.blocks.Nodup → Hk t → Srt t.toL → (getF key t.toL).isSome = true → t.toL.length < 100000 →
    Calls Try.prog 61 #[t.ptr, .string (bs key)] w fun e w' => ∃ t', e = .returned t'.ptr ∧ Tg t (cutF key t.toL) w t' w' := by
  induction t using Tr.ind with
  | nil =>
    intro key w _ _ _ _ hg _
    cases hg
  | node b l k u x r ihl ihr =>
    intro key w ha hn hk hs hg hf
    obtain ⟨hs1, hs2, _, _⟩ := srt_parts hs
    have hg0 := hg
    simp only [Tr.toL] at hg0
    rw [get_parts hs] at hg0
    have hn' := hn
    rw [Tr.blocks, List.nodup_cons, List.nodup_append] at hn'
    have hf' := hf
    simp only [Tr.toL, List.length_append, List.length_cons] at hf'
    obtain ⟨c0, -, c2, c3, -⟩ := nd_cells ha.1
    have b1 := bl key k
    have b2 := bl k key
    by_cases h1 : ltK key k = true
    · rw [if_pos h1] at hg0
      have f2 := block_frozen ha.1 2
      have CW : Hid (1 = 1 → Calls Try.prog 61 #[l.ptr, .string (bs key)] w fun e w1 => ∃ o, e = .returned (.pointer o) ∧ w1.cell? ⟨b, 2, none⟩ = some l.ptr ∧ w1.frozen? ⟨b, 2, none⟩ = false ∧ Calls Try.prog 66 #[.pointer (some ⟨b, 0, none⟩)] (w1.setCell ⟨b, 2, none⟩ (.pointer o)) fun e w2 => ∃ t', e = .returned t'.ptr ∧ Tg (.node b l k u x r) (cutF key (Tr.node b l k u x r).toL) w t' w2) := by
        intro _
        refine (ihl key w ha.2.1 hn'.2.1 hk.2.1 hs1 hg0 (by omega)).mono ?_
        rintro e w1 ⟨l', rfl, g⟩
        obtain ⟨o, ho⟩ := l'.is_ptr
        have hb1 : w1.heap[b]? = w.heap[b]? := g.kept.block b (Array.getElem?_eq_some_iff.1 ha.1).1 (fun hi => hn'.1 (by simp [hi]))
        obtain ⟨o1, o2, o3, o4⟩ := Tg.setl ha hn g
        rw [ho] at o1 o4
        have hlen : l'.toL.length ≤ l.toL.length := by rw [g.el, len_cut hs1]; split <;> omega
        refine ⟨o, by rw [ho], block_cell (hb1.trans ha.1) rfl, block_frozen (hb1.trans ha.1) _, ?_⟩
        refine (balanced25 ⟨o1, o2, g.hk, hk.2.2, by omega⟩ (by omega)).mono ?_
        rintro e w2 ⟨t', rfl, g2⟩
        refine ⟨t', rfl, Tg.after o3 o4 ?_⟩
        simp only [Tr.toL]
        rw [cut_parts hs, if_pos h1, ← g.el]
        exact g2
      have q1 : Op.bytesLess (bs key).toList (bs k).toList = true := by rw [b1]; exact h1
      clear ihl ihr ha hn hk hs hg hf hs1 hs2 hg0 hn' hf' b1 b2 h1
      generalize cutF key (Tr.node b l k u x r).toL = L at *
      simp only [Tr.ptr]
      generalize Tr.node b l k u x r = t at *
      generalize l.ptr = lp at *
      generalize r.ptr = rp at *
      go_enter Try.func61, Try.ntmps61
      go_wp2_with fail
      refine (CW.out (by trivial)).mono ?_
      rintro e w1 ⟨o, rfl, d1, d2, d3⟩
      have HG : Hid (Calls Try.prog 66 #[.pointer (some ⟨b, 0, none⟩)] (w1.setCell ⟨b, 2, none⟩ (.pointer o)) fun e w2 => ∃ t', e = .returned t'.ptr ∧ Tg t L w t' w2) := d3
      clear d3 CW
      go_wp2_with fail
      refine HG.out.mono ?_
      rintro e w2 ⟨t', rfl, g⟩
      obtain ⟨o', ho⟩ := t'.is_ptr
      have HX : Hid (∃ t', (Ending.returned (.pointer o') : Ending) = .returned (Tr.ptr t') ∧ Tg t L w t' w2) := ⟨t', by rw [ho], g⟩
      rw [ho]
      clear g HG ho
      go_wp2_with fail
      go_ret
      exact HX.out
    · rw [if_neg h1] at hg0
      by_cases h2 : ltK k key = true
      · rw [if_pos h2] at hg0
        have f2 := block_frozen ha.1 3
        have CW : Hid (1 = 1 → Calls Try.prog 61 #[r.ptr, .string (bs key)] w fun e w1 => ∃ o, e = .returned (.pointer o) ∧ w1.cell? ⟨b, 3, none⟩ = some r.ptr ∧ w1.frozen? ⟨b, 3, none⟩ = false ∧ Calls Try.prog 66 #[.pointer (some ⟨b, 0, none⟩)] (w1.setCell ⟨b, 3, none⟩ (.pointer o)) fun e w2 => ∃ t', e = .returned t'.ptr ∧ Tg (.node b l k u x r) (cutF key (Tr.node b l k u x r).toL) w t' w2) := by
          intro _
          refine (ihr key w ha.2.2 hn'.2.2.1 hk.2.2 hs2 hg0 (by omega)).mono ?_
          rintro e w1 ⟨r', rfl, g⟩
          obtain ⟨o, ho⟩ := r'.is_ptr
          have hb1 : w1.heap[b]? = w.heap[b]? := g.kept.block b (Array.getElem?_eq_some_iff.1 ha.1).1 (fun hi => hn'.1 (by simp [hi]))
          obtain ⟨o1, o2, o3, o4⟩ := Tg.setr ha hn g
          rw [ho] at o1 o4
          have hlen : r'.toL.length ≤ r.toL.length := by rw [g.el, len_cut hs2]; split <;> omega
          refine ⟨o, by rw [ho], block_cell (hb1.trans ha.1) rfl, block_frozen (hb1.trans ha.1) _, ?_⟩
          refine (balanced25 ⟨o1, o2, hk.2.1, g.hk, by omega⟩ (by omega)).mono ?_
          rintro e w2 ⟨t', rfl, g2⟩
          refine ⟨t', rfl, Tg.after o3 o4 ?_⟩
          simp only [Tr.toL]
          rw [cut_parts hs, if_neg h1, if_pos h2, ← g.el]
          exact g2
        have q1 : Op.bytesLess (bs key).toList (bs k).toList = false := by rw [b1]; simpa using h1
        have q2 : ((bs key).toList == (bs k).toList) = false := by rw [bs_beq]; simpa using (ltK_ne h2).symm
        clear ihl ihr ha hn hk hs hg hf hs1 hs2 hg0 hn' hf' b1 b2 h1 h2
        generalize cutF key (Tr.node b l k u x r).toL = L at *
        simp only [Tr.ptr]
        generalize Tr.node b l k u x r = t at *
        generalize l.ptr = lp at *
        generalize r.ptr = rp at *
        go_enter Try.func61, Try.ntmps61
        go_wp2_with fail
        refine (CW.out (by trivial)).mono ?_
        rintro e w1 ⟨o, rfl, d1, d2, d3⟩
        have HG : Hid (Calls Try.prog 66 #[.pointer (some ⟨b, 0, none⟩)] (w1.setCell ⟨b, 3, none⟩ (.pointer o)) fun e w2 => ∃ t', e = .returned t'.ptr ∧ Tg t L w t' w2) := d3
        clear d3 CW
        go_wp2_with fail
        refine HG.out.mono ?_
        rintro e w2 ⟨t', rfl, g⟩
        obtain ⟨o', ho⟩ := t'.is_ptr
        have HX : Hid (∃ t', (Ending.returned (.pointer o') : Ending) = .returned (Tr.ptr t') ∧ Tg t L w t' w2) := ⟨t', by rw [ho], g⟩
        rw [ho]
        clear g HG ho
        go_wp2_with fail
        go_ret
        exact HX.out
      · have q1 : Op.bytesLess (bs key).toList (bs k).toList = false := by rw [b1]; simpa using h1
        have q2 : ((bs key).toList == (bs k).toList) = true := by rw [bs_beq]; simpa using ltK_tri (by simpa using h1) (by simpa using h2)
        have hcut : cutF key (Tr.node b l k u x r).toL = l.toL ++ r.toL := by
          simp only [Tr.toL]
          rw [cut_parts hs, if_neg h1, if_neg h2]
        rw [hcut]
        clear hcut b1 b2 hg0 hg h1 h2
        cases l using Tr.cas with
        | nil =>
          have HG : Hid _ := Tg.side (s := r) (.inr rfl) ha hn hk
          obtain ⟨o, ho⟩ := r.is_ptr
          have HX : Hid (∃ t', (Ending.returned (.pointer o) : Ending) = .returned (Tr.ptr t') ∧ Tg (.node b .nil k u x r) (Tr.toL .nil ++ r.toL) w t' w) := ⟨r, by rw [ho], HG.out⟩
          rw [ho] at c3
          simp only [Tr.ptr] at c2 ⊢
          clear HG ho ihl ihr ha hn hk hs hf hs1 hs2 hn' hf'
          generalize Tr.toL .nil ++ r.toL = L at *
          generalize Tr.node b .nil k u x r = t at *
          go_enter Try.func61, Try.ntmps61
          go_wp2_with fail
          go_ret
          exact HX.out
        | node c' l1 k1 u1 x1 r1 =>
          generalize hlN : Tr.node c' l1 k1 u1 x1 r1 = l at *
          have hlp : l.ptr = .pointer (some ⟨c', 0, none⟩) := by rw [← hlN]; rfl
          clear hlN
          cases r using Tr.cas with
          | nil =>
            have HG : Hid _ := Tg.side (s := l) (.inl rfl) ha hn hk
            have HX : Hid (∃ t', (Ending.returned (.pointer (some ⟨c', 0, none⟩)) : Ending) = .returned (Tr.ptr t') ∧ Tg (.node b l k u x .nil) (l.toL ++ Tr.toL .nil) w t' w) := ⟨l, by rw [hlp], by simp only [Tr.toL, List.append_nil]; exact HG.out⟩
            rw [hlp] at c2
            simp only [Tr.ptr] at c3 ⊢
            clear HG hlp ihl ihr ha hn hk hs hf hs1 hs2 hn' hf'
            generalize l.toL ++ Tr.toL .nil = L at *
            generalize Tr.node b l k u x .nil = t at *
            go_enter Try.func61, Try.ntmps61
            go_wp2_with fail
            go_ret
            exact HX.out
          | node d l2 k2 u2 x2 r2 =>
            have CF : Hid (1 = 1 → Calls Try.prog 68 #[.pointer (some ⟨d, 0, none⟩)] w fun e w' => ∃ c q u y m s, e = .returned (.pointer (some ⟨c, 0, none⟩)) ∧ w' = w ∧ w.heap[c]? = some (.cells (nl.cells q u y m s) nl.ty (0, 0)) ∧ c ∈ (Tr.node d l2 k2 u2 x2 r2).blocks ∧ ∃ R, (Tr.node d l2 k2 u2 x2 r2).toL = (q, u) :: R) := fun _ => first26 ha.2.2
            generalize hrN : Tr.node d l2 k2 u2 x2 r2 = r at *
            have hrp : r.ptr = .pointer (some ⟨d, 0, none⟩) := by rw [← hrN]; rfl
            clear hrN
            have f0 := block_frozen ha.1 0
            have f1 := block_frozen ha.1 1
            have c1 : w.cell? ⟨b, 1, none⟩ = some (.slice u.1 u.2.1 u.2.2) := block_cell ha.1 rfl
            have CD : Hid (∀ c q u' y m s R, w.heap[c]? = some (.cells (nl.cells q u' y m s) nl.ty (0, 0)) → c ∈ r.blocks → r.toL = (q, u') :: R → ∀ W1, W1 = (w.setCell ⟨b, 0, none⟩ (.string (bs q))).setCell ⟨b, 1, none⟩ (.slice u'.1 u'.2.1 u'.2.2) → c ≠ b ∧ W1.cell? ⟨b, 3, none⟩ = some r.ptr ∧ W1.cell? ⟨c, 0, none⟩ = some (.string (bs q)) ∧ ∀ W, Sw W1 W →
                Calls Try.prog 61 #[r.ptr, .string (bs q)] W fun e w2 => ∃ o, e = .returned (.pointer o) ∧ w2.cell? ⟨b, 3, none⟩ = some r.ptr ∧ w2.frozen? ⟨b, 3, none⟩ = false ∧ ∀ W3, Sw (w2.setCell ⟨b, 3, none⟩ (.pointer o)) W3 → Calls Try.prog 66 #[.pointer (some ⟨b, 0, none⟩)] W3 fun e w3 => ∃ t', e = .returned t'.ptr ∧ Tg (.node b l k u x r) (l.toL ++ r.toL) w t' w3) := by
              intro c q u' y m s R hc hcr hR W1 hW1
              obtain ⟨m1, m2, m3, m4⟩ := moved ha hn hc hcr
              rw [← hW1] at m1 m2 m3
              refine ⟨m4, block_cell m1.1 rfl, block_cell m3 rfl, fun W hs1' => ?_⟩
              have m1' := m1.sw hs1'
              have hq : getF q r.toL = some u' := (getF_mem hs2).2 (by rw [hR]; simp)
              have hcr2 : cutF q r.toL = R := by rw [hR]; simp [cutF]
              refine (ihr q W m1'.2.2 hn'.2.2.1 hk.2.2 hs2 (by rw [hq]; rfl) (by omega)).mono ?_
              rintro e w2 ⟨r', rfl, g⟩
              obtain ⟨o, ho⟩ := r'.is_ptr
              have hb1 : w2.heap[b]? = W.heap[b]? := g.kept.block b (Array.getElem?_eq_some_iff.1 m1'.1).1 (fun hi => hn'.1 (by simp [hi]))
              obtain ⟨o1, o2, o3, o4⟩ := Tg.setr m1' hn g
              rw [ho] at o1 o4
              have hlen : r'.toL.length ≤ r.toL.length := by rw [g.el, len_cut hs2]; split <;> omega
              refine ⟨o, by rw [ho], block_cell (hb1.trans m1'.1) rfl, block_frozen (hb1.trans m1'.1) _, fun W3 hs3 => ?_⟩
              have hN : Nd b l r' q u' x W3 := (Nd.mk o1 o2 hk.2.1 g.hk (by omega)).sw hs3
              refine (balanced25 hN (by omega)).mono ?_
              rintro e w3 ⟨t', rfl, g2⟩
              have g3 := Tg.after o3 o4 (hs3.tg g2)
              have g4 := hs1'.tg g3
              have hm2 : Kept (fun i => i ∈ (Tr.node b l k u x r).blocks) w W1 := m2.mono (fun i e => by simp [Tr.blocks, e])
              have g5 := Tg.after (t := .node b l k u x r) (t1 := .node b l q u' x r) (fun i hi => .inl (by simpa [Tr.blocks] using hi)) hm2 g4
              refine ⟨t', rfl, ⟨g5.ok, g5.hk, g5.nd, ?_, g5.sub, g5.kept⟩⟩
              rw [g5.el, g.el, hcr2, hR]
            rw [hlp] at c2
            clear ihl ihr ha hn hk hs hf hs1 hs2 hn' hf' hlp
            generalize hLL : l.toL ++ r.toL = L at *
            clear hLL
            simp only [Tr.ptr]
            generalize Tr.node b l k u x r = t at *
            rw [hrp] at c3
            generalize r.ptr = rp at *
            subst hrp
            go_enter Try.func61, Try.ntmps61
            go_wp2_with fail
            refine (CF.out (by trivial)).mono ?_
            rintro e w' ⟨c, q, u', y, m, s, rfl, rfl, hc, hcr, R, hR⟩
            obtain ⟨e0, e1, -, -, -⟩ := nd_cells hc
            obtain ⟨hcb, d3, d4, CC⟩ := CD.out c q u' y m s R hc hcr hR _ rfl
            have HC : Hid _ := CC
            clear hc hcr hR CF CD CC
            go_wp2_with fail
            go_region_held3 (fun W => W.cell? ⟨c, 0, none⟩ = some (.string (bs q)) ∧ W.cell? ⟨c, 1, none⟩ = some (.slice u'.1 u'.2.1 u'.2.2))
              (first | exact ⟨e0, e1⟩ | exact ⟨(set_kept' _ b 0 _).cell e0 hcb, (set_kept' _ b 0 _).cell e1 hcb⟩ | exact ⟨(set_kept' _ b 1 _).cell ((set_kept' _ b 0 _).cell e0 hcb) hcb, (set_kept' _ b 1 _).cell ((set_kept' _ b 0 _).cell e1 hcb) hcb⟩)
              (fail)
            obtain ⟨W, hW⟩ : ∃ W, ((w'.setCell ⟨b, 0, none⟩ (.string (bs q))).setCell ⟨b, 1, none⟩ (.slice u'.1 u'.2.1 u'.2.2)).drew = W := ⟨_, rfl⟩
            have d3' : W.cell? ⟨b, 3, none⟩ = some (.pointer (some ⟨d, 0, none⟩)) := by rw [← hW]; exact d3
            have d4' : W.cell? ⟨c, 0, none⟩ = some (.string (bs q)) := by rw [← hW]; exact d4
            have HD : Hid (Calls Try.prog 61 #[.pointer (some ⟨d, 0, none⟩), .string (bs q)] W.drew fun e w2 => ∃ o, e = .returned (.pointer o) ∧ w2.cell? ⟨b, 3, none⟩ = some (.pointer (some ⟨d, 0, none⟩)) ∧ w2.frozen? ⟨b, 3, none⟩ = false ∧ Hid (∀ W3, Sw (w2.setCell ⟨b, 3, none⟩ (.pointer o)) W3 → Calls Try.prog 66 #[.pointer (some ⟨b, 0, none⟩)] W3 fun e w3 => ∃ t', e = .returned t'.ptr ∧ Tg t L w' t' w3)) := by
              rw [← hW]
              exact HC.out _ ⟨rfl, rfl, rfl, rfl⟩
            rw [hW]
            clear HC d3 d4 hW e0 e1 c0 c1 c2 c3 f0 f1
            rename_i hHeld
            clear hHeld
            go_wp2_with fail
            go_region_with (go_at_call 61; refine HD.out.mono ?_; rintro e w2 ⟨o, rfl, d5, d6, HE⟩)
            all_goals
              go_wp2_with fail
              refine (HE.out _ (Sw.refl _)).mono ?_
              rintro e w3 ⟨t', rfl, g⟩
              obtain ⟨o', ho⟩ := t'.is_ptr
              have HX : Hid (∃ t', (Ending.returned (.pointer o') : Ending) = .returned (Tr.ptr t') ∧ Tg t L w' t' w3) := ⟨t', by rw [ho], g⟩
              rw [ho]
              clear g HE ho
              go_wp2_with fail
              go_ret
              exact HX.out
end Go.Proofs.Ytcfhkggijdjagaa

namespace Go.Proofs.Ytcfhkggijdjagaa
open Go.RowKit

theorem range_len (lo hi : List UInt8) (L : Kv Sv) : (rangeF lo hi L).length ≤ L.length := by
  unfold rangeF
  exact Nat.le_trans (List.length_filter_le _ _) (by simp)
theorem cut_none {k : List UInt8} : ∀ {L : Kv Sv}, getF k L = none → cutF k L = L
  | [], _ => rfl
  | (a, v) :: r, h => by
    unfold getF at h
    split at h
    · cases h
    · rename_i e
      unfold cutF
      rw [if_neg e, cut_none h]
/-- Behind K so many of A that there are lim in all. -/
def gatF (lim : Nat) (K A : List (List UInt8)) : List (List UInt8) := K ++ A.take (lim - K.length)
theorem gat_nil (lim : Nat) (K : List (List UInt8)) : gatF lim K [] = K := by simp [gatF]
theorem gat_full {lim : Nat} {K : List (List UInt8)} (h : lim ≤ K.length) (A : List (List UInt8)) : gatF lim K A = K := by
  unfold gatF
  rw [show lim - K.length = 0 by omega]
  simp
theorem gat_append (lim : Nat) (K A C : List (List UInt8)) : gatF lim K (A ++ C) = gatF lim (gatF lim K A) C := by
  unfold gatF
  rw [List.take_append, List.append_assoc, List.length_append, List.length_take]
  congr 3
  omega
theorem gat_one (lim : Nat) (K : List (List UInt8)) (k : List UInt8) : gatF lim K [k] = if K.length < lim then K ++ [k] else K := by
  by_cases h : K.length < lim
  · rw [if_pos h]
    unfold gatF
    obtain ⟨n, hn⟩ : ∃ n, lim - K.length = n + 1 := ⟨lim - K.length - 1, by omega⟩
    rw [hn]
    simp
  · rw [if_neg h]
    exact gat_full (by omega) _
theorem gat_len (lim : Nat) (K A : List (List UInt8)) : (gatF lim K A).length ≤ K.length + A.length := by
  unfold gatF
  rw [List.length_append, List.length_take]
  omega
theorem gat_start (lo hi : List UInt8) (limit : Int) (L : Kv Sv) : gatF limit.toNat [] (rangeF lo hi L) = keysF lo hi limit L := by simp [gatF, keysF]
theorem below_lo {lo hi : List UInt8} {A R : Kv Sv} {k : List UInt8} {u : Sv} (hs : Srt (A ++ (k, u) :: R)) (h : ltK lo k = false) : rangeF lo hi A = [] := by
  obtain ⟨_, _, h1, _⟩ := srt_parts hs
  refine range_none fun x hx => ?_
  have := ltK_le2 (h1 x hx) h
  simp [inR, this]
theorem above_hi {lo hi : List UInt8} {A R : Kv Sv} {k : List UInt8} {u : Sv} (hs : Srt (A ++ (k, u) :: R)) (h0 : hi.isEmpty = false) (h : ltK k hi = false) : rangeF lo hi ((k, u) :: R) = [] := by
  obtain ⟨_, _, _, h2⟩ := srt_parts hs
  refine range_none fun x hx => ?_
  have hx' : ltK x.1 hi = false := by
    rcases List.mem_cons.1 hx with rfl | hx
    · exact h
    · cases e : ltK x.1 hi
      · rfl
      · exact absurd (ltK_trans (h2 x hx) e) (by simp [h])
  simp only [inR, h0, hx', Bool.or_false, Bool.and_false]
theorem gat_stop {lo hi : List UInt8} {A R : Kv Sv} {k : List UInt8} {u : Sv} {lim : Nat} {K : List (List UInt8)} (hs : Srt (A ++ (k, u) :: R)) (h0 : hi.isEmpty = false) (h : ltK k hi = false) : gatF lim K (rangeF lo hi (A ++ (k, u) :: R)) = gatF lim K (rangeF lo hi A) := by
  rw [range_append, above_hi hs h0 h, List.append_nil]
theorem gat_on {lo hi : List UInt8} {A R : Kv Sv} {k : List UInt8} {u : Sv} {lim : Nat} {K : List (List UInt8)} (h : (hi.isEmpty || ltK k hi) = true) :
    gatF lim K (rangeF lo hi (A ++ (k, u) :: R)) = gatF lim (if ltK k lo = false ∧ (gatF lim K (rangeF lo hi A)).length < lim then gatF lim K (rangeF lo hi A) ++ [k] else gatF lim K (rangeF lo hi A)) (rangeF lo hi R) := by
  rw [range_append, range_cons, gat_append]
  cases h1 : ltK k lo
  · rw [if_pos (by simp only [inR, h1, h]; rfl), show k :: rangeF lo hi R = [k] ++ rangeF lo hi R from rfl, gat_append, gat_one]
    simp
  · rw [if_neg (by simp [inR, h1])]
    simp
end Go.Proofs.Ytcfhkggijdjagaa

namespace Go.Proofs.Ytcfhkggijdjagaa
open Go.RowKit

theorem Kept.of_below' {B : Nat} {w w' : World} (h : Below B w w') : Kept (fun i => B ≤ i) w w' := ⟨h.os, h.tape, h.output, h.size, fun k _ hn => h.block k (by omega)⟩
theorem TrAt.below {Y : Lay} {t : Tr} {B : Nat} {w w' : World} (h : TrAt Y t w) (hb : Below B w w') (hB : ∀ b ∈ t.blocks, b < B) : TrAt Y t w' := TrAt.kept (Kept.of_below' hb) h (fun b hb' e => by have := hB b hb'; omega)

set_option maxHeartbeats 3200000 in
set_option maxRecDepth 100000 in
theorem gather24 (B : Nat) (lo hi : List UInt8) (limit : Int) (t : Tr) : ∀ (K : List (List UInt8)) (vs : Value) (w : World), TrAt nl t w → (∀ b ∈ t.blocks, b < B) → Srt t.toL → B ≤ w.heap.size → w.ownsRow B 9 1 vs K.length (kc K) → K.length + t.toL.length < 1000000 →
    Calls Try.prog 62 #[t.ptr, vs, .string (bs lo), .string (bs hi), .int .i64 limit] w fun e w' => ∃ v', e = .returned v' ∧ w'.ownsRow B 9 1 v' (gatF limit.toNat K (rangeF lo hi t.toL)).length (kc (gatF limit.toNat K (rangeF lo hi t.toL))) ∧ Below B w w' := by
  obtain ⟨i0, hin, hi0, hi1, hi2⟩ := info_parts info9
  induction t using Tr.ind with
  | nil =>
    intro K vs w _ _ _ _ ho _
    obtain ⟨sa, sc, rfl, -, -, -, -⟩ := rw_own ho
    have HO : Hid _ := ho
    clear ho hin hi0 hi1 hi2
    simp only [Tr.toL, rangeF, List.map_nil, List.filter_nil, gat_nil, Tr.ptr]
    go_enter Try.func62, Try.ntmps62
    go_wp2_with fail
    go_ret
    exact ⟨_, rfl, HO.out, Below.refl _ _⟩
  | node b l k u x r ihl ihr =>
    intro K vs w ha hB hs hBw ho hf
    obtain ⟨sa, sc, rfl, -, -, -, -⟩ := rw_own ho
    by_cases hroom : limit ≤ K.length
    · have HX : Hid (gatF limit.toNat K (rangeF lo hi (Tr.node b l k u x r).toL) = K) := gat_full (by omega) _
      rw [HX.out]
      have HO : Hid _ := ho
      clear ho HX ha hB hs hBw hf ihl ihr hin hi0 hi1 hi2
      simp only [Tr.ptr]
      go_enter Try.func62, Try.ntmps62
      go_wp2_with fail
      go_ret
      exact ⟨_, rfl, HO.out, Below.refl _ _⟩
    · obtain ⟨hs1, hs2, _, _⟩ := srt_parts hs
      have hf' := hf
      simp only [Tr.toL, List.length_append, List.length_cons] at hf'
      have hr' : ¬ limit ≤ (K.length : Int) := by omega
      obtain ⟨c0, -, c2, -, -⟩ := nd_cells ha.1
      have q1 := bl lo k
      have q2 := bl k lo
      have q3 := bl k hi
      have q4 : (bs hi).toList.isEmpty = hi.isEmpty := by rw [bs_list]
      have HA : Hid (∀ w', Below B w w' → TrAt nl (.node b l k u x r) w') := fun w' hb => ha.below hb hB
      have CL : Hid (1 = 1 → Calls Try.prog 62 #[l.ptr, .slice sa K.length sc, .string (bs lo), .string (bs hi), .int .i64 limit] w fun e w' => ∃ v', e = .returned v' ∧ w'.ownsRow B 9 1 v' (gatF limit.toNat K (rangeF lo hi l.toL)).length (kc (gatF limit.toNat K (rangeF lo hi l.toL))) ∧ Below B w w') :=
        fun _ => ihl K _ w ha.2.1 (fun i hi => hB i (by simp [Tr.blocks, hi])) hs1 hBw ho (by omega)
      have CR : Hid (∀ (K2 : List (List UInt8)) (v2 : Value) (w2 : World), Below B w w2 → w2.ownsRow B 9 1 v2 K2.length (kc K2) → K2.length + r.toL.length < 1000000 → Calls Try.prog 62 #[r.ptr, v2, .string (bs lo), .string (bs hi), .int .i64 limit] w2 fun e w' => ∃ v', e = .returned v' ∧ w'.ownsRow B 9 1 v' (gatF limit.toNat K2 (rangeF lo hi r.toL)).length (kc (gatF limit.toNat K2 (rangeF lo hi r.toL))) ∧ Below B w2 w') :=
        fun K2 v2 w2 hb ho2 hf2 => ihr K2 v2 w2 (HA.out w2 hb).2.2 (fun i hi => hB i (by simp [Tr.blocks, hi])) hs2 (Nat.le_trans hBw hb.size) ho2 hf2
      have HZ1 : Hid (ltK lo k = false → gatF limit.toNat K (rangeF lo hi l.toL) = K) := fun h => by rw [below_lo hs h, gat_nil]
      have HZ2 : Hid (hi.isEmpty = false → ltK k hi = false → gatF limit.toNat K (rangeF lo hi (Tr.node b l k u x r).toL) = gatF limit.toNat K (rangeF lo hi l.toL)) := fun h0 h => gat_stop hs h0 h
      have HZ3 : Hid ((hi.isEmpty || ltK k hi) = true → gatF limit.toNat K (rangeF lo hi (Tr.node b l k u x r).toL) = gatF limit.toNat (if ltK k lo = false ∧ (gatF limit.toNat K (rangeF lo hi l.toL)).length < limit.toNat then gatF limit.toNat K (rangeF lo hi l.toL) ++ [k] else gatF limit.toNat K (rangeF lo hi l.toL)) (rangeF lo hi r.toL)) := fun h => gat_on h
      have HO : Hid (w.ownsRow B 9 1 (.slice sa K.length sc) K.length (kc K)) := ho
      have HF : Hid ((gatF limit.toNat K (rangeF lo hi l.toL)).length + 1 + r.toL.length < 1000000) := by
        have := gat_len limit.toNat K (rangeF lo hi l.toL)
        have := range_len lo hi l.toL
        show _ < _
        omega
      clear ihl ihr ha hB hs hf hs1 hs2 hf' ho hroom
      generalize gatF limit.toNat K (rangeF lo hi (Tr.node b l k u x r).toL) = Y at *
      generalize gatF limit.toNat K (rangeF lo hi l.toL) = K1 at *
      obtain ⟨lp, hlp⟩ : ∃ lp, l.ptr = lp := ⟨_, rfl⟩
      rw [hlp] at c2 CL
      clear hlp
      simp only [Tr.ptr]
      generalize ltK lo k = z1 at *
      generalize ltK k lo = z2 at *
      generalize ltK k hi = z3 at *
      generalize hi.isEmpty = z4 at *
      go_enter Try.func62, Try.ntmps62
      go_upto_if 25 with fail
      go_cut [1] (fun v wc => ∃ sa sc, v = .slice sa K1.length sc ∧ Hid (wc.ownsRow B 9 1 v K1.length (kc K1) ∧ Below B w wc))
      case first =>
        cases z1
        · have h1 := HZ1.out rfl
          subst h1
          go_wp2_with fail
          go_meet
          exact ⟨sa, sc, rfl, HO.out, Below.refl _ _⟩
        · go_wp2_with fail
          refine (CL.out (by trivial)).mono ?_
          rintro e w1 ⟨v1, rfl, ho1, hb1⟩
          obtain ⟨sa1, sc1, rfl, -, -, -, -⟩ := rw_own ho1
          have H1 : Hid _ := And.intro ho1 hb1
          clear ho1 hb1
          go_wp2_with fail
          go_meet
          exact ⟨sa1, sc1, rfl, H1.out⟩
      case rest =>
        obtain ⟨sa1, sc1, rfl, H1⟩ := hcut
        obtain ⟨d0, -, -, -, -⟩ := nd_cells (HA.out wc H1.out.2).1
        obtain ⟨rp, hrp⟩ : ∃ rp, r.ptr = rp := ⟨_, rfl⟩
        have HR : Hid (∀ w', Below B w w' → w'.cell? ⟨b, 3, none⟩ = some rp) := fun w' hb => by rw [← hrp]; exact (nd_cells (HA.out w' hb).1).2.2.2.1
        rw [hrp] at CR
        clear hrp c0 c2 CL HO HZ1 HA
        by_cases hstop : z4 = false ∧ z3 = false
        · obtain ⟨rfl, rfl⟩ := hstop
          have h := HZ2.out rfl rfl
          subst h
          go_wp2_with fail
          go_ret
          exact ⟨_, rfl, H1.out⟩
        · have HY : Hid _ := HZ3.out (by cases z4 <;> cases z3 <;> simp at hstop ⊢)
          have harms : z4 = true ∨ z4 = false ∧ z3 = true := by cases z4 <;> cases z3 <;> simp at hstop ⊢
          clear hstop HZ2 HZ3
          have CC : Hid (∀ (K2 : List (List UInt8)) (v2 : Value) (w2 : World), K2 = (if z2 = false ∧ K1.length < limit.toNat then K1 ++ [k] else K1) → w2.ownsRow B 9 1 v2 K2.length (kc K2) → Below B w w2 → Calls Try.prog 62 #[rp, v2, .string (bs lo), .string (bs hi), .int .i64 limit] w2 fun e w' => ∃ v', e = .returned v' ∧ w'.ownsRow B 9 1 v' Y.length (kc Y) ∧ Below B w w') := fun K2 v2 w2 hK2 ho hb => by
            have hl2 : K2.length + r.toL.length < 1000000 := by
              have := HF.out
              rw [hK2]
              split <;> simp <;> omega
            refine (CR.out K2 _ _ hb ho hl2).mono ?_
            rintro e w' ⟨v', rfl, ho', hb'⟩
            rw [HY.out, ← hK2]
            exact ⟨v', rfl, ho', hb.trans hb'⟩
          clear CR HY
          rcases harms with rfl | ⟨rfl, rfl⟩
          all_goals
            cases z2
            · by_cases hlt : (K1.length : Int) < limit
              · have HOw : Hid (Ow B 9 1 (.slice sa1 K1.length sc1) K1.length (kc K1) (wc.heap.size + 1) (.slice (some ⟨wc.heap.size, 0, none⟩) 1 1) 1 (kc [k]) (wc.alloc (.cells #[.string (bs k)] 9))) := ⟨World.ownsRow.alloc H1.out.1 _, ks_one wc k, kc_one _, Nat.le_trans hBw (Nat.le_trans H1.out.2.size (by simp)), by have := HF.out; omega⟩
                have HK : Hid (K1 ++ [k] = (if false = false ∧ K1.length < limit.toNat then K1 ++ [k] else K1)) := (if_pos ⟨rfl, by omega⟩).symm
                go_wp2_with (at_builtin; refine wpList_append_rw HOw.out Try.underlying76 hin hi0 hi1 hi2 rfl (by decide) (by decide) (.tmp 58) (.tmp 63) rfl rfl rfl rfl ?_)
                intro v' w2 hown hg hat
                have HB2 : Hid (Below B w w2) := below_own (H1.out.2.alloc (Nat.le_trans hBw H1.out.2.size) _) HOw.out.size HOw.out.own hg
                obtain ⟨sa2, sc2, rfl, -, -, -, -⟩ := rw_own hown
                have CR2 : Hid (1 = 1 → _) := fun _ => CC.out (K1 ++ [k]) (.slice sa2 (K1.length + 1) sc2) w2 HK.out (by rw [kc_append, List.length_append]; exact hown) HB2.out
                have d3 := HR.out _ HB2.out
                clear hown hg hat HOw HK HB2 CC
                go_wp2_with fail
                refine (CR2.out (by trivial)).mono ?_
                rintro e w3 ⟨v3, rfl, ho3, hb3⟩
                obtain ⟨sa3, sc3, rfl, -, -, -, -⟩ := rw_own ho3
                have H3 : Hid _ := And.intro ho3 hb3
                clear ho3 hb3 CR2
                go_wp2_with fail
                go_ret
                exact ⟨_, rfl, H3.out⟩
              · have hge : ¬ (K1.length : Int) < limit := hlt
                have HK : Hid (K1 = (if false = false ∧ K1.length < limit.toNat then K1 ++ [k] else K1)) := (if_neg (by omega)).symm
                have CR2 : Hid (1 = 1 → _) := fun _ => CC.out K1 (.slice sa1 K1.length sc1) wc HK.out H1.out.1 H1.out.2
                have d3 := HR.out _ H1.out.2
                clear hlt HK CC
                go_wp2_with fail
                refine (CR2.out (by trivial)).mono ?_
                rintro e w3 ⟨v3, rfl, ho3, hb3⟩
                obtain ⟨sa3, sc3, rfl, -, -, -, -⟩ := rw_own ho3
                have H3 : Hid _ := And.intro ho3 hb3
                clear ho3 hb3 CR2
                go_wp2_with fail
                go_ret
                exact ⟨_, rfl, H3.out⟩
            · have CR2 : Hid (1 = 1 → _) := fun _ => CC.out K1 (.slice sa1 K1.length sc1) wc (by simp) H1.out.1 H1.out.2
              have d3 := HR.out _ H1.out.2
              clear CC
              go_wp2_with fail
              refine (CR2.out (by trivial)).mono ?_
              rintro e w3 ⟨v3, rfl, ho3, hb3⟩
              obtain ⟨sa3, sc3, rfl, -, -, -, -⟩ := rw_own ho3
              have H3 : Hid _ := And.intro ho3 hb3
              clear ho3 hb3 CR2
              go_wp2_with fail
              go_ret
              exact ⟨_, rfl, H3.out⟩
end Go.Proofs.Ytcfhkggijdjagaa

namespace Go.Proofs.Ytcfhkggijdjagaa
open Go.RowKit

/-- As Q; by a goto to a label: J. -/
def onJump (J : Nat → Act → World → Prop) (Q : Exit → Act → World → Prop) : Exit → Act → World → Prop
  | .goto l, a, w => J l a w
  | e, a, w => Q e a w

theorem scope_labels {P : Program} {a : Act} {w : World} {Q : Exit → Act → World → Prop} {c : Code} (J : Nat → Act → World → Prop) (μ : Nat → Act → World → Nat)
    (pass : ∀ l a w, J l a w → ∃ rest, findLabel c l = some (Code.skip.seq rest) ∧ rest.wp P (onJump (fun l' a' w' => J l' a' w' ∧ μ l' a' w' < μ l a w) Q) a w)
    (first : (∀ l a w rest, findLabel c l = some (Code.skip.seq rest) → J l a w → rest.wp P (onJump J Q) a w) → c.wp P (onJump J Q) a w) : (Code.scope c).wp P Q a w := by
  have first := first (fun l a w rest hr hJ => by
    obtain ⟨r, hr', hwp⟩ := pass l a w hJ
    rw [hr] at hr'
    injection hr' with hr'
    injection hr' with _ hr'
    subst hr'
    refine Code.wp_mono ?_ hwp
    intro e a1 w1 hq
    cases e with
    | goto l' => exact hq.1
    | normal => exact hq
    | exit id => exact hq
    | ret => exact hq
    | panic ch => exact hq
    | outgrown => exact hq)
  intro b k cs
  have key : ∀ n l a w rest, findLabel c l = some rest → μ l a w = n → J l a w → ∃ e a' w', Q e a' w' ∧ Arrives P (lone (b.at a (.code rest :: .inScope c :: k)) cs w) b k cs e a' w' := by
    intro n
    induction n using Nat.strongRecOn with
    | ind n ih =>
      intro l a w rest hr hn hJ
      obtain ⟨rest', hr', hwp⟩ := pass l a w hJ
      rw [hr] at hr'
      injection hr' with hr'
      subst hr'
      have hwp2 : (Code.skip.seq rest').wp P (onJump (fun l' a' w' => J l' a' w' ∧ μ l' a' w' < μ l a w) Q) a w := wp_seq (wp_skip hwp)
      obtain ⟨e, a1, w1, hq, harr⟩ := hwp2 b (.inScope c :: k) cs
      cases e with
      | normal => exact ⟨.normal, a1, w1, hq, Steps.trans harr (.one step_inScope)⟩
      | exit id => exact ⟨.exit id, a1, w1, hq, fun k' hk => harr k' (by simp [exitTo, hk])⟩
      | goto l' =>
        obtain ⟨hJ', hlt⟩ := hq
        obtain ⟨r2, hr2, _⟩ := pass l' a1 w1 hJ'
        obtain ⟨e2, a2, w2, hq2, harr2⟩ := ih _ (by omega) l' a1 w1 _ hr2 rfl hJ'
        exact ⟨e2, a2, w2, hq2, .of_steps (harr _ (by simp [gotoIn, hr2])) harr2⟩
      | ret => exact ⟨_, a1, w1, hq, harr⟩
      | panic ch => exact ⟨_, a1, w1, hq, harr⟩
      | outgrown => exact ⟨_, a1, w1, hq, harr⟩
  obtain ⟨e, a1, w1, hq, harr⟩ := first b (.inScope c :: k) cs
  cases e with
  | normal => exact ⟨.normal, a1, w1, hq, .head step_scope (Steps.trans harr (.one step_inScope))⟩
  | exit id => exact ⟨.exit id, a1, w1, hq, fun k' hk => .head step_scope (harr k' (by simp [exitTo, hk]))⟩
  | goto l' =>
    obtain ⟨r2, hr2, _⟩ := pass l' a1 w1 hq
    obtain ⟨e2, a2, w2, hq2, harr2⟩ := key _ l' a1 w1 _ hr2 rfl hq
    exact ⟨e2, a2, w2, hq2, .of_steps (.head step_scope (harr _ (by simp [gotoIn, hr2]))) harr2⟩
  | ret => exact ⟨_, a1, w1, hq, .of_steps (.one step_scope) harr⟩
  | panic ch => exact ⟨_, a1, w1, hq, .of_steps (.one step_scope) harr⟩
  | outgrown => exact ⟨_, a1, w1, hq, .of_steps (.one step_scope) harr⟩


/-- The frame at the label. -/
def AtLook (p : Nat) (key : List UInt8) (o : Value) (a : Act) : Prop :=
  ∃ u6 u7 u8 u9 u10 u11 u12 u13 u14 u15 u16 u17 u18 u19 u20 u21 u22 u23 u24 u25 u26 u27 u28 u29 u30 u31 u32 u33 u34 u35 u36 : Value, a = { tmps := #[.pointer (some ⟨p, 0, none⟩), .string (bs key), undef, undef, .pointer none, o, u6, u7, u8, u9, u10, u11, u12, u13, u14, u15, u16, u17, u18, u19, u20, u21, u22, u23, u24, u25, u26, u27, u28, u29, u30, u31, u32, u33, u34, u35, u36], defers := [] }
theorem atLook {p : Nat} {key : List UInt8} {o : Value} {u6 u7 u8 u9 u10 u11 u12 u13 u14 u15 u16 u17 u18 u19 u20 u21 u22 u23 u24 u25 u26 u27 u28 u29 u30 u31 u32 u33 u34 u35 u36 : Value} : AtLook p key o { tmps := #[.pointer (some ⟨p, 0, none⟩), .string (bs key), undef, undef, .pointer none, o, u6, u7, u8, u9, u10, u11, u12, u13, u14, u15, u16, u17, u18, u19, u20, u21, u22, u23, u24, u25, u26, u27, u28, u29, u30, u31, u32, u33, u34, u35, u36], defers := [] } :=
  ⟨u6, u7, u8, u9, u10, u11, u12, u13, u14, u15, u16, u17, u18, u19, u20, u21, u22, u23, u24, u25, u26, u27, u28, u29, u30, u31, u32, u33, u34, u35, u36, rfl⟩
/-- The pointer to what is found. -/
def ptrO : Option Nat → Value
  | none => .pointer none
  | some b => .pointer (some ⟨b, 0, none⟩)

set_option maxHeartbeats 1600000 in
set_option maxRecDepth 100000 in
theorem find20 (p : Nat) (key : List UInt8) (t : Tr) (w : World) (h0 : w.cell? ⟨p, 0, none⟩ = some t.ptr) (ht : TrAt nl t w) :
    Calls Try.prog 55 #[.pointer (some ⟨p, 0, none⟩), .string (bs key)] w fun e w' => e = .returned (ptrO (findT key t)) ∧ w' = w := by
  obtain ⟨szAt, szAt_eq⟩ := szAt_ex
  have HSz : Hid (∀ {w : World} {s : Tr}, TrAt nl s w → szAt w s.ptr = s.size) := szAt_eq
  clear szAt_eq
  have HT : Hid (TrAt nl t w) := ht
  obtain ⟨y, hy⟩ : ∃ y, findT key t = y := ⟨_, rfl⟩
  rw [hy]
  have HY : Hid (findT key t = y) := hy
  clear ht hy
  go_enter Try.func55, Try.ntmps55
  go_wp2
  refine scope_labels (fun l a' w' => w' = w ∧ l = 0 ∧ ∃ sp, AtLook p key sp a' ∧ ∃ s, TrAt nl s w ∧ findT key s = y ∧ s.ptr = sp) (fun _ a' _ => szAt w (a'.tmps.getD 5 undef)) ?_ ?_
  · rintro l a' w' ⟨rfl, rfl, sp, hat, s, hs, hf, rfl⟩
    obtain ⟨u6, u7, u8, u9, u10, u11, u12, u13, u14, u15, u16, u17, u18, u19, u20, u21, u22, u23, u24, u25, u26, u27, u28, u29, u30, u31, u32, u33, u34, u35, u36, rfl⟩ := hat
    refine ⟨_, rfl, ?_⟩
    clear HT HY h0
    cases s using Tr.cas with
    | nil =>
      have hy : none = y := hf
      subst hy
      simp only [Tr.ptr]
      clear hs hf
      go_wp2
      simp only [onJump]
      go_ret
      exact ⟨rfl, rfl⟩
    | node c l q u x r =>
      obtain ⟨c0, -, c2, c3, -⟩ := nd_cells hs.1
      have q0 := bs_beq q key
      have q1 := bl key q
      simp only [Tr.ptr]
      by_cases hq : q = key
      · have hy : some c = y := by rw [← hf]; simp [findT, hq, ltK_irrefl]
        subst hy
        have hq' : (q == key) = true := by simp [hq]
        rw [hq'] at q0
        clear hs hf hq hq' c2 c3 q1
        go_wp2
        simp only [onJump]
        go_ret
        exact ⟨rfl, rfl⟩
      · have hq' : (q == key) = false := by simp [hq]
        rw [hq'] at q0
        by_cases h1 : ltK key q = true
        · rw [h1] at q1
          have HN : Hid (TrAt nl l w' ∧ findT key l = y) := ⟨hs.2.1, by rw [← hf]; simp [findT, h1]⟩
          have HM : Hid (szAt w' l.ptr < szAt w' (.pointer (some ⟨c, 0, none⟩))) := by
            have e1 := HSz.out hs.2.1
            have e2 : szAt w' (.pointer (some ⟨c, 0, none⟩)) = _ := HSz.out hs
            show _ < _
            rw [e1, e2]
            simp only [Tr.size]
            omega
          obtain ⟨sp, hsp⟩ : ∃ sp, l.ptr = sp := ⟨_, rfl⟩
          have HJ : Hid (∃ s, TrAt nl s w' ∧ findT key s = y ∧ s.ptr = sp) := ⟨l, HN.out.1, HN.out.2, hsp⟩
          rw [hsp] at HM c2
          clear hs hf HN hsp
          go_wp2_with fail
          go_step3
          exact ⟨⟨rfl, rfl, sp, atLook, HJ.out⟩, HM.out⟩
        · have h1' : ltK key q = false := by simpa using h1
          have h2 : ltK q key = true := by
            cases e : ltK q key
            · exact absurd (ltK_tri e h1') hq
            · rfl
          rw [h1'] at q1
          have HN : Hid (TrAt nl r w' ∧ findT key r = y) := ⟨hs.2.2, by rw [← hf]; simp [findT, h1', h2]⟩
          have HM : Hid (szAt w' r.ptr < szAt w' (.pointer (some ⟨c, 0, none⟩))) := by
            have e1 := HSz.out hs.2.2
            have e2 : szAt w' (.pointer (some ⟨c, 0, none⟩)) = _ := HSz.out hs
            show _ < _
            rw [e1, e2]
            simp only [Tr.size]
            omega
          obtain ⟨sp, hsp⟩ : ∃ sp, r.ptr = sp := ⟨_, rfl⟩
          have HJ : Hid (∃ s, TrAt nl s w' ∧ findT key s = y ∧ s.ptr = sp) := ⟨r, HN.out.1, HN.out.2, hsp⟩
          rw [hsp] at HM c3
          clear hs hf HN hsp
          go_wp2_with fail
          go_step3
          exact ⟨⟨rfl, rfl, sp, atLook, HJ.out⟩, HM.out⟩
  · intro hp
    obtain ⟨tp, htp⟩ : ∃ tp, t.ptr = tp := ⟨_, rfl⟩
    have HX : Hid _ := hp
    have HJ : Hid (∃ s, TrAt nl s w ∧ findT key s = y ∧ s.ptr = tp) := ⟨t, HT.out, HY.out, htp⟩
    rw [htp] at h0
    clear HT HY hp htp
    go_wp2
    go_step3
    rename_i Z hZ
    refine hZ _ _ ?_
    exact HX.out 0 _ _ _ rfl ⟨rfl, rfl, tp, atLook, HJ.out⟩

set_option maxHeartbeats 400000 in
theorem find20_nil (key : List UInt8) (w : World) : Calls Try.prog 55 #[.pointer none, .string (bs key)] w fun e w' => e = .returned (.pointer none) ∧ w' = w := by
  go_enter Try.func55, Try.ntmps55
  go_wp2
  refine scope_labels (fun _ _ _ => False) (fun _ _ _ => 0) (fun _ _ _ h => h.elim) ?_
  intro _
  go_wp2
  simp only [onJump]
  go_ret
  exact ⟨rfl, rfl⟩
end Go.Proofs.Ytcfhkggijdjagaa

namespace Go.Proofs.Ytcfhkggijdjagaa
open Go.RowKit

/-- The map behind p: the tree t, and how many keys it has. -/
structure Mp (B p : Nat) (t : Tr) (w : World) : Prop where
  box : w.heap[p]? = some (.cells #[t.ptr, .int .i64 t.toL.length] 89 (0, 0))
  ok : TrAt nl t w
  srt : Srt t.toL
  hk : Hk t
  pn : p ∉ t.blocks
  nd : t.blocks.Nodup
  low : B ≤ p ∧ ∀ i ∈ t.blocks, B ≤ i
def MapAt (B p : Nat) (F : Nat → Prop) (L : Kv Sv) (w : World) : Prop := ∃ t, Mp B p t w ∧ t.toL = L ∧ F = fun i => i = p ∨ i ∈ t.blocks
theorem Mp.kept {B p : Nat} {t : Tr} {w w' : World} {G : Nat → Prop} (h : Mp B p t w) (hk : Kept G w w') (h1 : ¬ G p) (h2 : ∀ i ∈ t.blocks, ¬ G i) : Mp B p t w' :=
  ⟨by rw [hk.block p (Array.getElem?_eq_some_iff.1 h.box).1 h1]; exact h.box, TrAt.kept hk h.ok h2, h.srt, h.hk, h.pn, h.nd, h.low⟩
theorem Mp.cells {B p : Nat} {t : Tr} {w : World} (h : Mp B p t w) : w.cell? ⟨p, 0, none⟩ = some t.ptr ∧ w.cell? ⟨p, 1, none⟩ = some (.int .i64 t.toL.length) := ⟨block_cell h.box rfl, block_cell h.box rfl⟩

set_option maxHeartbeats 400000 in
theorem new8 (w : World) : Calls Try.prog 27 #[] w fun e w' => ∃ p F, e = .returned (.pointer (some ⟨p, 0, none⟩)) ∧ MapAt w.heap.size p F [] w' ∧ Below w.heap.size w w' := by
  have H : Hid (Mp w.heap.size w.heap.size .nil (w.alloc (.cells #[.pointer none, .int .i64 0] 89))) :=
    ⟨heap_alloc_new w _, trivial, List.Pairwise.nil, trivial, by simp [Tr.blocks], by simp [Tr.blocks], Nat.le_refl _, fun i hi => by simp [Tr.blocks] at hi⟩
  go_enter Try.func27, Try.ntmps27
  go_wp2_with fail
  go_ret
  exact ⟨_, _, rfl, ⟨.nil, H.out, rfl, rfl⟩, al _⟩

set_option maxHeartbeats 400000 in
theorem len15 {B p : Nat} {t : Tr} {w : World} (h : Mp B p t w) : Calls Try.prog 60 #[.pointer (some ⟨p, 0, none⟩)] w fun e w' => e = .returned (.int .i64 t.toL.length) ∧ Below w.heap.size w w' := by
  obtain ⟨c0, c1⟩ := h.cells
  clear h
  go_enter Try.func60, Try.ntmps60
  go_wp2_with fail
  go_ret
  exact ⟨rfl, Below.refl _ _⟩
set_option maxHeartbeats 400000 in
theorem len15_nil (w : World) : Calls Try.prog 60 #[.pointer none] w fun e w' => e = .returned (.int .i64 0) ∧ Below w.heap.size w w' := by
  go_enter Try.func60, Try.ntmps60
  go_wp2_with fail
  go_ret
  exact ⟨rfl, Below.refl _ _⟩

set_option maxHeartbeats 400000 in
theorem get13 {B p : Nat} {t : Tr} {w : World} (k : List UInt8) (h : Mp B p t w) : Calls Try.prog 54 #[.pointer (some ⟨p, 0, none⟩), .string (bs k)] w fun e w' => e = .returned (.tuple #[.slice ((getF k t.toL).getD (none, 0, 0)).1 ((getF k t.toL).getD (none, 0, 0)).2.1 ((getF k t.toL).getD (none, 0, 0)).2.2, .bool (getF k t.toL).isSome]) ∧ Below w.heap.size w w' := by
  have CF : Hid (1 = 1 → Calls Try.prog 55 #[.pointer (some ⟨p, 0, none⟩), .string (bs k)] w fun e w' => e = .returned (ptrO (findT k t)) ∧ w' = w) := fun _ => find20 p k t w h.cells.1 h.ok
  have hg := find_get (k := k) h.srt
  cases hf : findT k t with
  | none =>
    rw [hf] at CF hg
    have hn : getF k t.toL = none := by
      cases e : getF k t.toL with
      | none => rfl
      | some v => rw [e] at hg; cases hg
    rw [hn]
    simp only [ptrO] at CF
    clear h hg hn hf
    go_enter Try.func54, Try.ntmps54
    go_wp2_with fail
    refine (CF.out (by trivial)).mono ?_
    rintro e w' ⟨rfl, rfl⟩
    go_wp2_with fail
    refine bodyPost_ret (v := .tuple #[.slice none 0 0, .bool false]) (by simp [results, Try.results54, go_sem]) rfl ?_
    exact ⟨rfl, Below.refl _ _⟩
  | some b =>
    rw [hf] at CF
    obtain ⟨q, v, x, l, r, hb, hv⟩ := find_at h.srt h.ok hf
    obtain ⟨-, c1, -, -, -⟩ := nd_cells hb
    rw [hv]
    simp only [ptrO] at CF
    clear h hg hv hf hb
    go_enter Try.func54, Try.ntmps54
    go_wp2_with fail
    refine (CF.out (by trivial)).mono ?_
    rintro e w' ⟨rfl, rfl⟩
    go_wp2_with fail
    refine bodyPost_ret (v := .tuple #[.slice v.1 v.2.1 v.2.2, .bool true]) (by simp [results, Try.results54, go_sem]) rfl ?_
    exact ⟨rfl, Below.refl _ _⟩
set_option maxHeartbeats 400000 in
theorem get13_nil (k : List UInt8) (w : World) : Calls Try.prog 54 #[.pointer none, .string (bs k)] w fun e w' => e = .returned (.tuple #[.slice none 0 0, .bool false]) ∧ Below w.heap.size w w' := by
  have CF : Hid (1 = 1 → Calls Try.prog 55 #[.pointer none, .string (bs k)] w fun e w' => e = .returned (.pointer none) ∧ w' = w) := fun _ => find20_nil k w
  go_enter Try.func54, Try.ntmps54
  go_wp2_with fail
  refine (CF.out (by trivial)).mono ?_
  rintro e w' ⟨rfl, rfl⟩
  go_wp2_with fail
  refine bodyPost_ret (v := .tuple #[.slice none 0 0, .bool false]) (by simp [results, Try.results54, go_sem]) rfl ?_
  exact ⟨rfl, Below.refl _ _⟩

set_option maxHeartbeats 400000 in
theorem keys17 {B p : Nat} {t : Tr} {w : World} (lo hi : List UInt8) (limit : Int) (h : Mp B p t w) (hl : t.toL.length < 100000) : Calls Try.prog 44 #[.pointer (some ⟨p, 0, none⟩), .string (bs lo), .string (bs hi), .int .i64 limit] w fun e w' => ∃ v', e = .returned v' ∧ w'.ownsRow w.heap.size 9 1 v' (keysF lo hi limit t.toL).length (kc (keysF lo hi limit t.toL)) ∧ Below w.heap.size w w' := by
  have CG : Hid (1 = 1 → Calls Try.prog 62 #[t.ptr, .slice none 0 0, .string (bs lo), .string (bs hi), .int .i64 limit] w fun e w' => ∃ v', e = .returned v' ∧ w'.ownsRow w.heap.size 9 1 v' (keysF lo hi limit t.toL).length (kc (keysF lo hi limit t.toL)) ∧ Below w.heap.size w w') := fun _ => by
    have := gather24 w.heap.size lo hi limit t [] (.slice none 0 0) w h.ok h.ok.lt h.srt (Nat.le_refl _) (own_nil _ _ _ _) (by simp; omega)
    rw [gat_start] at this
    exact this
  obtain ⟨c0, -⟩ := h.cells
  clear h hl
  generalize t.ptr = tp at *
  generalize keysF lo hi limit t.toL = y at *
  go_enter Try.func44, Try.ntmps44
  go_wp2_with fail
  refine (CG.out (by trivial)).mono ?_
  rintro e w1 ⟨v1, rfl, ho, hb⟩
  obtain ⟨sa, sc, rfl, -, -, -, -⟩ := rw_own ho
  have H3 : Hid _ := And.intro ho hb
  clear ho hb CG
  go_wp2_with fail
  go_ret
  exact ⟨_, rfl, H3.out⟩
set_option maxHeartbeats 400000 in
theorem keys17_nil (lo hi : List UInt8) (limit : Int) (w : World) : Calls Try.prog 44 #[.pointer none, .string (bs lo), .string (bs hi), .int .i64 limit] w fun e w' => ∃ ao cap, e = .returned (.slice ao 0 cap) ∧ Below w.heap.size w w' := by
  go_enter Try.func44, Try.ntmps44
  go_wp2_with fail
  go_ret
  exact ⟨_, _, rfl, Below.refl _ _⟩
end Go.Proofs.Ytcfhkggijdjagaa

namespace Go.Proofs.Ytcfhkggijdjagaa
open Go.RowKit

/-- What Set and Cut leave. -/
def Post (B p : Nat) (F : Nat → Prop) (L : Kv Sv) (w W : World) : Prop := ∃ F', MapAt B p F' L W ∧ Kept F w W ∧ ∀ i, F' i → F i ∨ w.heap.size ≤ i
def foot8 (p : Nat) (t : Tr) : Nat → Prop := fun i => i = p ∨ i ∈ t.blocks

theorem Mp.upd {B p : Nat} {t t' : Tr} {L : Kv Sv} {w w1 : World} (h : Mp B p t w) (g : Tg t L w t' w1) (hs : Srt L) (n : Int) (hn : n = L.length) :
    Post B p (foot8 p t) L w ((w1.setCell ⟨p, 0, none⟩ t'.ptr).setCell ⟨p, 1, none⟩ (.int .i64 n)) := by
  have hp : p < w.heap.size := (Array.getElem?_eq_some_iff.1 h.box).1
  have h1 : w1.heap[p]? = some (.cells #[t.ptr, .int .i64 t.toL.length] 89 (0, 0)) := by rw [g.kept.block p hp h.pn]; exact h.box
  have k1 := set_kept' w1 p 0 t'.ptr
  have k2 := set_kept' (w1.setCell ⟨p, 0, none⟩ t'.ptr) p 1 (.int .i64 n)
  have kk := k1.trans k2 (fun i e => .inl e)
  have pn : p ∉ t'.blocks := fun hi => by
    rcases g.sub p hi with e | e
    · exact h.pn e
    · omega
  refine ⟨_, ⟨t', ⟨?_, TrAt.kept kk g.ok (fun i hi e => pn (e ▸ hi)), by rw [g.el]; exact hs, g.hk, pn, g.nd, h.low.1, fun i hi => ?_⟩, g.el, rfl⟩, ?_, fun i hi => ?_⟩
  · rw [g.el, ← hn]
    exact block_set _ (block_set _ h1)
  · rcases g.sub i hi with e | e
    · exact h.low.2 i e
    · have := h.low.1; omega
  · exact (g.kept.mono (fun i hi => .inr hi)).trans kk (fun i e => .inl (.inl e))
  · rcases hi with e | e
    · exact .inl (.inl e)
    · rcases g.sub i e with e | e
      · exact .inl (.inr e)
      · exact .inr e

theorem Mp.put {B p b : Nat} {t : Tr} {w : World} {k : List UInt8} (v : Sv) (h : Mp B p t w) (hf : findT k t = some b) : Post B p (foot8 p t) (setF k v t.toL) w (w.setCell ⟨b, 1, none⟩ (.slice v.1 v.2.1 v.2.2)) := by
  have hb := find_in hf
  have hs : (findT k t).isSome = true := by rw [hf]; rfl
  have hl : (putT k v t).toL = setF k v t.toL := put_toL h.srt hs
  have hlen : (putT k v t).toL.length = t.toL.length := by rw [hl, len_set h.srt, if_pos (by rw [← find_get h.srt]; exact hs)]
  have kk := set_kept' w b 1 (.slice v.1 v.2.1 v.2.2)
  refine ⟨_, ⟨putT k v t, ⟨?_, put_at h.ok h.nd hf, by rw [hl]; exact setF_srt h.srt, put_hk k v h.hk, by rw [put_blocks]; exact h.pn, by rw [put_blocks]; exact h.nd, by rw [put_blocks]; exact h.low⟩, hl, rfl⟩, ?_, fun i hi => .inl ?_⟩
  · rw [put_ptr, hlen, kk.block p (Array.getElem?_eq_some_iff.1 h.box).1 (fun e => h.pn (e ▸ hb))]
    exact h.box
  · exact kk.mono (fun i e => .inr (e ▸ hb))
  · rw [put_blocks] at hi
    exact hi

set_option maxHeartbeats 800000 in
theorem set9 {B p : Nat} {t : Tr} {w : World} (k : List UInt8) (v : Sv) (h : Mp B p t w) (hl : t.toL.length < 100000) : Calls Try.prog 31 #[.pointer (some ⟨p, 0, none⟩), .string (bs k), .slice v.1 v.2.1 v.2.2] w fun e w' => e = .returned (.tuple #[]) ∧ Post B p (foot8 p t) (setF k v t.toL) w w' := by
  have CF : Hid (1 = 1 → Calls Try.prog 55 #[.pointer (some ⟨p, 0, none⟩), .string (bs k)] w fun e w' => e = .returned (ptrO (findT k t)) ∧ w' = w) := fun _ => find20 p k t w h.cells.1 h.ok
  have hg := find_get (k := k) h.srt
  cases hf : findT k t with
  | some b =>
    rw [hf] at CF
    have HP : Hid (Post B p (foot8 p t) (setF k v t.toL) w (w.setCell ⟨b, 1, none⟩ (.slice v.1 v.2.1 v.2.2))) := h.put v hf
    obtain ⟨q, u, x, l, r, hb, -⟩ := find_at h.srt h.ok hf
    obtain ⟨-, c1, -, -, -⟩ := nd_cells hb
    have f1 := block_frozen hb 1
    simp only [ptrO] at CF
    clear h hg hf hb hl
    generalize setF k v t.toL = L at *
    generalize foot8 p t = F at *
    go_enter Try.func31, Try.ntmps31
    go_wp2_with fail
    refine (CF.out (by trivial)).mono ?_
    rintro e w' ⟨rfl, rfl⟩
    go_wp2_with fail
    refine bodyPost_ret (results_none Try.results31 _ _ _) rfl ?_
    exact ⟨rfl, HP.out⟩
  | none =>
    rw [hf] at CF hg
    have hn : getF k t.toL = none := by
      cases e : getF k t.toL with
      | none => rfl
      | some v => rw [e] at hg; cases hg
    have CW : Hid (1 = 1 → Calls Try.prog 56 #[t.ptr, .string (bs k), .slice v.1 v.2.1 v.2.2] w fun e w1 => ∃ o, e = .returned (.pointer o) ∧ w1.cell? ⟨p, 0, none⟩ = some t.ptr ∧ w1.cell? ⟨p, 1, none⟩ = some (.int .i64 t.toL.length) ∧ w1.frozen? ⟨p, 0, none⟩ = false ∧ w1.frozen? ⟨p, 1, none⟩ = false ∧ Hid (Post B p (foot8 p t) (setF k v t.toL) w ((w1.setCell ⟨p, 0, none⟩ (.pointer o)).setCell ⟨p, 1, none⟩ (.int .i64 (t.toL.length + 1))))) := fun _ => by
      refine (with21 k v t w h.ok h.nd h.hk h.srt hn hl).mono ?_
      rintro e w1 ⟨t', rfl, g⟩
      obtain ⟨o, ho⟩ := t'.is_ptr
      have h1 : w1.heap[p]? = some (.cells #[t.ptr, .int .i64 t.toL.length] 89 (0, 0)) := by rw [g.kept.block p (Array.getElem?_eq_some_iff.1 h.box).1 h.pn]; exact h.box
      refine ⟨o, by rw [ho], block_cell h1 rfl, block_cell h1 rfl, block_frozen h1 _, block_frozen h1 _, ?_⟩
      have := h.upd g (setF_srt h.srt) (t.toL.length + 1) (by rw [len_set h.srt, hn]; rfl)
      rw [ho] at this
      exact this
    obtain ⟨c0, c1⟩ := h.cells
    simp only [ptrO] at CF
    have hl' : ((t.toL.length : Nat) : Int) < 100000 := by omega
    clear h hg hn hf hl
    generalize setF k v t.toL = L at *
    generalize foot8 p t = F at *
    obtain ⟨tp, hto⟩ := t.is_ptr
    rw [hto] at CW c0
    clear hto
    generalize t.toL.length = n at *
    go_enter Try.func31, Try.ntmps31
    go_wp2_with fail
    refine (CF.out (by trivial)).mono ?_
    rintro e w' ⟨rfl, rfl⟩
    go_wp2_with fail
    refine (CW.out (by trivial)).mono ?_
    rintro e w1 ⟨o, rfl, d0, d1, f0, f1, HP⟩
    clear CW CF c0 c1
    go_wp2_with fail
    refine bodyPost_end (results_none Try.results31 _ _ _) rfl ?_
    exact ⟨rfl, HP.out⟩
set_option maxHeartbeats 400000 in
theorem set9_nil (k : List UInt8) (v : Sv) (w : World) : Calls Try.prog 31 #[.pointer none, .string (bs k), .slice v.1 v.2.1 v.2.2] w fun e w' => e = .returned (.tuple #[]) ∧ Below w.heap.size w w' := by
  go_enter Try.func31, Try.ntmps31
  go_wp2_with fail
  refine bodyPost_ret (results_none Try.results31 _ _ _) rfl ?_
  exact ⟨rfl, Below.refl _ _⟩

set_option maxHeartbeats 800000 in
theorem cut11 {B p : Nat} {t : Tr} {w : World} (k : List UInt8) (h : Mp B p t w) (hl : t.toL.length < 100000) : Calls Try.prog 38 #[.pointer (some ⟨p, 0, none⟩), .string (bs k)] w fun e w' => e = .returned (.bool (getF k t.toL).isSome) ∧ Post B p (foot8 p t) (cutF k t.toL) w w' := by
  have CF : Hid (1 = 1 → Calls Try.prog 55 #[.pointer (some ⟨p, 0, none⟩), .string (bs k)] w fun e w' => e = .returned (ptrO (findT k t)) ∧ w' = w) := fun _ => find20 p k t w h.cells.1 h.ok
  have hg := find_get (k := k) h.srt
  rw [← hg]
  cases hf : findT k t with
  | none =>
    rw [hf] at CF hg
    have hn : getF k t.toL = none := by
      cases e : getF k t.toL with
      | none => rfl
      | some v => rw [e] at hg; cases hg
    have HP : Hid (Post B p (foot8 p t) (cutF k t.toL) w w) := ⟨_, ⟨t, h, (cut_none hn).symm, rfl⟩, Kept.refl _ _, fun i hi => .inl hi⟩
    simp only [ptrO] at CF
    clear h hg hn hf hl
    generalize cutF k t.toL = L at *
    generalize foot8 p t = F at *
    go_enter Try.func38, Try.ntmps38
    go_wp2_with fail
    refine (CF.out (by trivial)).mono ?_
    rintro e w' ⟨rfl, rfl⟩
    go_wp2_with fail
    go_ret
    exact ⟨rfl, HP.out⟩
  | some b =>
    rw [hf] at CF hg
    have hs : (getF k t.toL).isSome = true := hg.symm
    have hpos : 0 < t.toL.length := by
      cases e : t.toL with
      | nil => rw [e] at hs; cases hs
      | cons a l => simp
    have CW : Hid (1 = 1 → Calls Try.prog 61 #[t.ptr, .string (bs k)] w fun e w1 => ∃ o, e = .returned (.pointer o) ∧ w1.cell? ⟨p, 0, none⟩ = some t.ptr ∧ w1.cell? ⟨p, 1, none⟩ = some (.int .i64 t.toL.length) ∧ w1.frozen? ⟨p, 0, none⟩ = false ∧ w1.frozen? ⟨p, 1, none⟩ = false ∧ Hid (Post B p (foot8 p t) (cutF k t.toL) w ((w1.setCell ⟨p, 0, none⟩ (.pointer o)).setCell ⟨p, 1, none⟩ (.int .i64 (t.toL.length - 1))))) := fun _ => by
      refine (without23 t k w h.ok h.nd h.hk h.srt hs hl).mono ?_
      rintro e w1 ⟨t', rfl, g⟩
      obtain ⟨o, ho⟩ := t'.is_ptr
      have h1 : w1.heap[p]? = some (.cells #[t.ptr, .int .i64 t.toL.length] 89 (0, 0)) := by rw [g.kept.block p (Array.getElem?_eq_some_iff.1 h.box).1 h.pn]; exact h.box
      refine ⟨o, by rw [ho], block_cell h1 rfl, block_cell h1 rfl, block_frozen h1 _, block_frozen h1 _, ?_⟩
      have := h.upd g (cutF_srt h.srt) (t.toL.length - 1) (by rw [len_cut h.srt, if_pos hs]; omega)
      rw [ho] at this
      exact this
    obtain ⟨c0, c1⟩ := h.cells
    simp only [ptrO] at CF
    have hl' : ((t.toL.length : Nat) : Int) < 100000 := by omega
    clear h hg hf hl hs hpos
    generalize cutF k t.toL = L at *
    generalize foot8 p t = F at *
    obtain ⟨tp, hto⟩ := t.is_ptr
    rw [hto] at CW c0
    clear hto
    generalize t.toL.length = n at *
    go_enter Try.func38, Try.ntmps38
    go_wp2_with fail
    refine (CF.out (by trivial)).mono ?_
    rintro e w' ⟨rfl, rfl⟩
    go_wp2_with fail
    refine (CW.out (by trivial)).mono ?_
    rintro e w1 ⟨o, rfl, d0, d1, f0, f1, HP⟩
    clear CW CF c0 c1
    go_wp2_with fail
    go_ret
    exact ⟨rfl, HP.out⟩
set_option maxHeartbeats 400000 in
theorem cut11_nil (k : List UInt8) (w : World) : Calls Try.prog 38 #[.pointer none, .string (bs k)] w fun e w' => e = .returned (.bool false) ∧ Below w.heap.size w w' := by
  have CF : Hid (1 = 1 → Calls Try.prog 55 #[.pointer none, .string (bs k)] w fun e w' => e = .returned (.pointer none) ∧ w' = w) := fun _ => find20_nil k w
  go_enter Try.func38, Try.ntmps38
  go_wp2_with fail
  refine (CF.out (by trivial)).mono ?_
  rintro e w' ⟨rfl, rfl⟩
  go_wp2_with fail
  go_ret
  exact ⟨rfl, Below.refl _ _⟩

end Go.Proofs.Ytcfhkggijdjagaa
