/-
  A claim written into a node; contract of without.
-/
import Derived.Test.YtknfkpnicjellaaOAb
namespace Go.Proofs.Ytknfkpnicjellaa
open Go.RowKit

theorem five_kept (W : World) (b : Nat) (u : Cv) : Kept (fun i => i = b) W (((((W.setCell ⟨b, 1, none⟩ (.int .u32 u.1.1)).setCell ⟨b, 2, none⟩ (.int .u32 u.1.2)).setCell ⟨b, 3, none⟩ (.string (bs u.2.key))).setCell ⟨b, 4, none⟩ (.string (bs u.2.val))).setCell ⟨b, 5, none⟩ (.bool u.2.dead)) := by
  have t : ∀ {w1 w2 w3 : World}, Kept (fun i => i = b) w1 w2 → Kept (fun i => i = b) w2 w3 → Kept (fun i => i = b) w1 w3 := fun h k => h.trans k (fun i e => .inl e)
  exact t (t (t (t (set_kept' _ _ _ _) (set_kept' _ _ _ _)) (set_kept' _ _ _ _)) (set_kept' _ _ _ _)) (set_kept' _ _ _ _)
theorem five_block {W : World} {b : Nat} {k : List UInt8} {v : Cv} {x : Nat} {l r : Value} (u : Cv) (h : W.heap[b]? = some (.cells (nl.cells k v x l r) nl.ty (0, 0))) : (((((W.setCell ⟨b, 1, none⟩ (.int .u32 u.1.1)).setCell ⟨b, 2, none⟩ (.int .u32 u.1.2)).setCell ⟨b, 3, none⟩ (.string (bs u.2.key))).setCell ⟨b, 4, none⟩ (.string (bs u.2.val))).setCell ⟨b, 5, none⟩ (.bool u.2.dead)).heap[b]? = some (.cells (nl.cells k u x l r) nl.ty (0, 0)) := by
  have h0 : W.heap[b]? = some (.cells #[.string (bs k), .int .u32 v.1.1, .int .u32 v.1.2, .string (bs v.2.key), .string (bs v.2.val), .bool v.2.dead, l, r, .int .i64 (x : Int)] nl.ty (0, 0)) := h
  clear h
  have h1 : (W.setCell ⟨b, 1, none⟩ (.int .u32 u.1.1)).heap[b]? = some (.cells #[.string (bs k), .int .u32 u.1.1, .int .u32 v.1.2, .string (bs v.2.key), .string (bs v.2.val), .bool v.2.dead, l, r, .int .i64 (x : Int)] nl.ty (0, 0)) := block_set _ h0
  generalize W.setCell ⟨b, 1, none⟩ (.int .u32 u.1.1) = W1 at *
  have h2 : (W1.setCell ⟨b, 2, none⟩ (.int .u32 u.1.2)).heap[b]? = some (.cells #[.string (bs k), .int .u32 u.1.1, .int .u32 u.1.2, .string (bs v.2.key), .string (bs v.2.val), .bool v.2.dead, l, r, .int .i64 (x : Int)] nl.ty (0, 0)) := block_set _ h1
  generalize W1.setCell ⟨b, 2, none⟩ (.int .u32 u.1.2) = W2 at *
  have h3 : (W2.setCell ⟨b, 3, none⟩ (.string (bs u.2.key))).heap[b]? = some (.cells #[.string (bs k), .int .u32 u.1.1, .int .u32 u.1.2, .string (bs u.2.key), .string (bs v.2.val), .bool v.2.dead, l, r, .int .i64 (x : Int)] nl.ty (0, 0)) := block_set _ h2
  generalize W2.setCell ⟨b, 3, none⟩ (.string (bs u.2.key)) = W3 at *
  have h4 : (W3.setCell ⟨b, 4, none⟩ (.string (bs u.2.val))).heap[b]? = some (.cells #[.string (bs k), .int .u32 u.1.1, .int .u32 u.1.2, .string (bs u.2.key), .string (bs u.2.val), .bool v.2.dead, l, r, .int .i64 (x : Int)] nl.ty (0, 0)) := block_set _ h3
  generalize W3.setCell ⟨b, 4, none⟩ (.string (bs u.2.val)) = W4 at *
  have h5 : (W4.setCell ⟨b, 5, none⟩ (.bool u.2.dead)).heap[b]? = some (.cells #[.string (bs k), .int .u32 u.1.1, .int .u32 u.1.2, .string (bs u.2.key), .string (bs u.2.val), .bool u.2.dead, l, r, .int .i64 (x : Int)] nl.ty (0, 0)) := block_set _ h4
  exact h5
/-- A value is written. -/
theorem put_at {w : World} {k : List UInt8} {v : Cv} {t : Tr} : ∀ {b : Nat}, TrAt nl t w → t.blocks.Nodup → findT k t = some b → TrAt nl (putT k v t) (((((w.setCell ⟨b, 1, none⟩ (.int .u32 v.1.1)).setCell ⟨b, 2, none⟩ (.int .u32 v.1.2)).setCell ⟨b, 3, none⟩ (.string (bs v.2.key))).setCell ⟨b, 4, none⟩ (.string (bs v.2.val))).setCell ⟨b, 5, none⟩ (.bool v.2.dead)) := by
  induction t using Tr.ind with
  | nil => intro b _ _ h; cases h
  | node c l q u x r ihl ihr =>
    intro b ha hn h
    obtain ⟨a1, a2, a3⟩ := ha
    simp only [Tr.blocks, List.nodup_cons, List.mem_append, not_or, List.nodup_append] at hn
    obtain ⟨⟨n1, n2⟩, n3, n4, n5⟩ := hn
    have hk := five_kept w b v
    rw [find_node] at h
    rw [put_node]
    split
    · rename_i e
      rw [if_pos e] at h
      have hb := find_in h
      refine ⟨?_, ihl a2 n3 h, TrAt.kept hk a3 (fun i hi e => n5 b hb i hi e.symm)⟩
      rw [put_ptr, hk.block c (Array.getElem?_eq_some_iff.1 a1).1 (fun e => n1 (e ▸ hb))]
      exact a1
    · rename_i e
      rw [if_neg e] at h
      split
      · rename_i e2
        rw [if_pos e2] at h
        have hb := find_in h
        refine ⟨?_, TrAt.kept hk a2 (fun i hi e => n5 i hi b hb e), ihr a3 n4 h⟩
        rw [put_ptr, hk.block c (Array.getElem?_eq_some_iff.1 a1).1 (fun e => n2 (e ▸ hb))]
        exact a1
      · rename_i e2
        rw [if_neg e2] at h
        injection h with h
        subst h
        exact ⟨five_block _ a1, TrAt.kept hk a2 (fun i hi e => n1 (e ▸ hi)), TrAt.kept hk a3 (fun i hi e => n2 (e ▸ hi))⟩
theorem Tg.side {b : Nat} {l r : Tr} {k : List UInt8} {v : Cv} {x : Nat} {w : World} {s : Tr} (hs : s = l ∨ s = r) (h : TrAt nl (.node b l k v x r) w) (hn : (Tr.node b l k v x r).blocks.Nodup) (hk : Hk (.node b l k v x r)) : Tg (.node b l k v x r) s.toL w s w := by
  rw [Tr.blocks, List.nodup_cons, List.nodup_append] at hn
  rcases hs with rfl | rfl
  · exact ⟨h.2.1, hk.2.1, hn.2.1, rfl, fun i hi => .inl (by simp [Tr.blocks, hi]), Kept.refl _ _⟩
  · exact ⟨h.2.2, hk.2.2, hn.2.2.1, rfl, fun i hi => .inl (by simp [Tr.blocks, hi]), Kept.refl _ _⟩

/-- Another key and value in a node. -/
theorem moved {b c : Nat} {l r : Tr} {k q : List UInt8} {v u : Cv} {x y : Nat} {m s : Value} {w : World} (ha : TrAt nl (.node b l k v x r) w) (hn : (Tr.node b l k v x r).blocks.Nodup) (hc : w.heap[c]? = some (.cells (nl.cells q u y m s) nl.ty (0, 0))) (hcr : c ∈ r.blocks) :
    TrAt nl (.node b l q u x r) ((((((w.setCell ⟨b, 0, none⟩ (.string (bs q))).setCell ⟨b, 1, none⟩ (.int .u32 u.1.1)).setCell ⟨b, 2, none⟩ (.int .u32 u.1.2)).setCell ⟨b, 3, none⟩ (.string (bs u.2.key))).setCell ⟨b, 4, none⟩ (.string (bs u.2.val))).setCell ⟨b, 5, none⟩ (.bool u.2.dead)) ∧ Kept (fun i => i = b) w ((((((w.setCell ⟨b, 0, none⟩ (.string (bs q))).setCell ⟨b, 1, none⟩ (.int .u32 u.1.1)).setCell ⟨b, 2, none⟩ (.int .u32 u.1.2)).setCell ⟨b, 3, none⟩ (.string (bs u.2.key))).setCell ⟨b, 4, none⟩ (.string (bs u.2.val))).setCell ⟨b, 5, none⟩ (.bool u.2.dead)) ∧ ((((((w.setCell ⟨b, 0, none⟩ (.string (bs q))).setCell ⟨b, 1, none⟩ (.int .u32 u.1.1)).setCell ⟨b, 2, none⟩ (.int .u32 u.1.2)).setCell ⟨b, 3, none⟩ (.string (bs u.2.key))).setCell ⟨b, 4, none⟩ (.string (bs u.2.val))).setCell ⟨b, 5, none⟩ (.bool u.2.dead)).heap[c]? = some (.cells (nl.cells q u y m s) nl.ty (0, 0)) ∧ c ≠ b := by
  rw [Tr.blocks, List.nodup_cons, List.mem_append, not_or] at hn
  have hcb : c ≠ b := fun e => hn.1.2 (e ▸ hcr)
  have k1 := set_kept' w b 0 (.string (bs q))
  have k2 := five_kept (w.setCell ⟨b, 0, none⟩ (.string (bs q))) b u
  have kk := k1.trans k2 (fun i e => .inl e)
  have h1 : (w.setCell ⟨b, 0, none⟩ (.string (bs q))).heap[b]? = some (.cells (nl.cells q v x l.ptr r.ptr) nl.ty (0, 0)) := block_set _ ha.1
  refine ⟨⟨five_block u h1, TrAt.kept kk ha.2.1 (fun i hi e => hn.1.1 (e ▸ hi)), TrAt.kept kk ha.2.2 (fun i hi e => hn.1.2 (e ▸ hi))⟩, kk, ?_, hcb⟩
  rw [kk.block c (Array.getElem?_eq_some_iff.1 hc).1 hcb]
  exact hc
theorem cs_kept {w w' : World} {b c : Nat} {q : List UInt8} {v : Cv} (hk : Kept (fun i => i = b) w w') (hcb : c ≠ b) (h : w.cell? ⟨c, 0, none⟩ = some (.string (bs q)) ∧ w.cell? ⟨c, 1, none⟩ = some (.int .u32 v.1.1) ∧ w.cell? ⟨c, 2, none⟩ = some (.int .u32 v.1.2) ∧ w.cell? ⟨c, 3, none⟩ = some (.string (bs v.2.key)) ∧ w.cell? ⟨c, 4, none⟩ = some (.string (bs v.2.val)) ∧ w.cell? ⟨c, 5, none⟩ = some (.bool v.2.dead)) : w'.cell? ⟨c, 0, none⟩ = some (.string (bs q)) ∧ w'.cell? ⟨c, 1, none⟩ = some (.int .u32 v.1.1) ∧ w'.cell? ⟨c, 2, none⟩ = some (.int .u32 v.1.2) ∧ w'.cell? ⟨c, 3, none⟩ = some (.string (bs v.2.key)) ∧ w'.cell? ⟨c, 4, none⟩ = some (.string (bs v.2.val)) ∧ w'.cell? ⟨c, 5, none⟩ = some (.bool v.2.dead) := by
  obtain ⟨h0, h1, h2, h3, h4, h5⟩ := h
  exact ⟨hk.cell h0 hcb, hk.cell h1 hcb, hk.cell h2 hcb, hk.cell h3 hcb, hk.cell h4 hcb, hk.cell h5 hcb⟩
end Go.Proofs.Ytknfkpnicjellaa

namespace Go.Proofs.Ytknfkpnicjellaa
open Go.RowKit

set_option maxHeartbeats 3200000 in
set_option maxRecDepth 100000 in
theorem without23 (t : Tr) : ∀ (key : List UInt8) (w : World), TrAt nl t w → t.blocks.Nodup → Hk t → Srt t.toL → (getF key t.toL).isSome = true → t.toL.length < 100000 →
    Calls Try.prog 57 #[t.ptr, .string (bs key)] w fun e w' => ∃ t', e = .returned t'.ptr ∧ Tg t (cutF key t.toL) w t' w' := by
  induction t using Tr.ind with
  | nil =>
    intro key w _ _ _ _ hg _
    cases hg
  | node b l k u x r ihl ihr =>
    intro key w ha hn hk hs hg hf
    obtain ⟨hs1, hs2, _, _⟩ := srt_parts hs
    have hg0 := hg
    simp only [Tr.toL] at hg0
    rw [get_parts hs] at hg0
    have hn' := hn
    rw [Tr.blocks, List.nodup_cons, List.nodup_append] at hn'
    have hf' := hf
    simp only [Tr.toL, List.length_append, List.length_cons] at hf'
    obtain ⟨c0, -, c2, c3, -⟩ := nd_cells ha.1
    have b1 := bl key k
    have b2 := bl k key
    by_cases h1 : ltK key k = true
    · rw [if_pos h1] at hg0
      have f2 := block_frozen ha.1 6
      have CW : Hid (1 = 1 → Calls Try.prog 57 #[l.ptr, .string (bs key)] w fun e w1 => ∃ o, e = .returned (.pointer o) ∧ w1.cell? ⟨b, 6, none⟩ = some l.ptr ∧ w1.frozen? ⟨b, 6, none⟩ = false ∧ Calls Try.prog 60 #[.pointer (some ⟨b, 0, none⟩)] (w1.setCell ⟨b, 6, none⟩ (.pointer o)) fun e w2 => ∃ t', e = .returned t'.ptr ∧ Tg (.node b l k u x r) (cutF key (Tr.node b l k u x r).toL) w t' w2) := by
        intro _
        refine (ihl key w ha.2.1 hn'.2.1 hk.2.1 hs1 hg0 (by omega)).mono ?_
        rintro e w1 ⟨l', rfl, g⟩
        obtain ⟨o, ho⟩ := l'.is_ptr
        have hb1 : w1.heap[b]? = w.heap[b]? := g.kept.block b (Array.getElem?_eq_some_iff.1 ha.1).1 (fun hi => hn'.1 (by simp [hi]))
        obtain ⟨o1, o2, o3, o4⟩ := Tg.setl ha hn g
        rw [ho] at o1 o4
        have hlen : l'.toL.length ≤ l.toL.length := by rw [g.el, len_cut hs1]; split <;> omega
        refine ⟨o, by rw [ho], block_cell (hb1.trans ha.1) rfl, block_frozen (hb1.trans ha.1) _, ?_⟩
        refine (balanced25 ⟨o1, o2, g.hk, hk.2.2, by omega⟩ (by omega)).mono ?_
        rintro e w2 ⟨t', rfl, g2⟩
        refine ⟨t', rfl, Tg.after o3 o4 ?_⟩
        simp only [Tr.toL]
        rw [cut_parts hs, if_pos h1, ← g.el]
        exact g2
      have q1 : Op.bytesLess (bs key).toList (bs k).toList = true := by rw [b1]; exact h1
      clear ihl ihr ha hn hk hs hg hf hs1 hs2 hg0 hn' hf' b1 b2 h1
      generalize cutF key (Tr.node b l k u x r).toL = L at *
      simp only [Tr.ptr]
      generalize Tr.node b l k u x r = t at *
      generalize l.ptr = lp at *
      generalize r.ptr = rp at *
      go_enter Try.func57, Try.ntmps57
      go_wp2_with fail
      refine (CW.out (by trivial)).mono ?_
      rintro e w1 ⟨o, rfl, d1, d2, d3⟩
      have HG : Hid (Calls Try.prog 60 #[.pointer (some ⟨b, 0, none⟩)] (w1.setCell ⟨b, 6, none⟩ (.pointer o)) fun e w2 => ∃ t', e = .returned t'.ptr ∧ Tg t L w t' w2) := d3
      clear d3 CW
      go_wp2_with fail
      refine HG.out.mono ?_
      rintro e w2 ⟨t', rfl, g⟩
      obtain ⟨o', ho⟩ := t'.is_ptr
      have HX : Hid (∃ t', (Ending.returned (.pointer o') : Ending) = .returned (Tr.ptr t') ∧ Tg t L w t' w2) := ⟨t', by rw [ho], g⟩
      rw [ho]
      clear g HG ho
      go_wp2_with fail
      go_ret
      exact HX.out
    · rw [if_neg h1] at hg0
      by_cases h2 : ltK k key = true
      · rw [if_pos h2] at hg0
        have f2 := block_frozen ha.1 7
        have CW : Hid (1 = 1 → Calls Try.prog 57 #[r.ptr, .string (bs key)] w fun e w1 => ∃ o, e = .returned (.pointer o) ∧ w1.cell? ⟨b, 7, none⟩ = some r.ptr ∧ w1.frozen? ⟨b, 7, none⟩ = false ∧ Calls Try.prog 60 #[.pointer (some ⟨b, 0, none⟩)] (w1.setCell ⟨b, 7, none⟩ (.pointer o)) fun e w2 => ∃ t', e = .returned t'.ptr ∧ Tg (.node b l k u x r) (cutF key (Tr.node b l k u x r).toL) w t' w2) := by
          intro _
          refine (ihr key w ha.2.2 hn'.2.2.1 hk.2.2 hs2 hg0 (by omega)).mono ?_
          rintro e w1 ⟨r', rfl, g⟩
          obtain ⟨o, ho⟩ := r'.is_ptr
          have hb1 : w1.heap[b]? = w.heap[b]? := g.kept.block b (Array.getElem?_eq_some_iff.1 ha.1).1 (fun hi => hn'.1 (by simp [hi]))
          obtain ⟨o1, o2, o3, o4⟩ := Tg.setr ha hn g
          rw [ho] at o1 o4
          have hlen : r'.toL.length ≤ r.toL.length := by rw [g.el, len_cut hs2]; split <;> omega
          refine ⟨o, by rw [ho], block_cell (hb1.trans ha.1) rfl, block_frozen (hb1.trans ha.1) _, ?_⟩
          refine (balanced25 ⟨o1, o2, hk.2.1, g.hk, by omega⟩ (by omega)).mono ?_
          rintro e w2 ⟨t', rfl, g2⟩
          refine ⟨t', rfl, Tg.after o3 o4 ?_⟩
          simp only [Tr.toL]
          rw [cut_parts hs, if_neg h1, if_pos h2, ← g.el]
          exact g2
        have q1 : Op.bytesLess (bs key).toList (bs k).toList = false := by rw [b1]; simpa using h1
        have q2 : ((bs key).toList == (bs k).toList) = false := by rw [bs_beq]; simpa using (ltK_ne h2).symm
        clear ihl ihr ha hn hk hs hg hf hs1 hs2 hg0 hn' hf' b1 b2 h1 h2
        generalize cutF key (Tr.node b l k u x r).toL = L at *
        simp only [Tr.ptr]
        generalize Tr.node b l k u x r = t at *
        generalize l.ptr = lp at *
        generalize r.ptr = rp at *
        go_enter Try.func57, Try.ntmps57
        go_wp2_with fail
        refine (CW.out (by trivial)).mono ?_
        rintro e w1 ⟨o, rfl, d1, d2, d3⟩
        have HG : Hid (Calls Try.prog 60 #[.pointer (some ⟨b, 0, none⟩)] (w1.setCell ⟨b, 7, none⟩ (.pointer o)) fun e w2 => ∃ t', e = .returned t'.ptr ∧ Tg t L w t' w2) := d3
        clear d3 CW
        go_wp2_with fail
        refine HG.out.mono ?_
        rintro e w2 ⟨t', rfl, g⟩
        obtain ⟨o', ho⟩ := t'.is_ptr
        have HX : Hid (∃ t', (Ending.returned (.pointer o') : Ending) = .returned (Tr.ptr t') ∧ Tg t L w t' w2) := ⟨t', by rw [ho], g⟩
        rw [ho]
        clear g HG ho
        go_wp2_with fail
        go_ret
        exact HX.out
      · have q1 : Op.bytesLess (bs key).toList (bs k).toList = false := by rw [b1]; simpa using h1
        have q2 : ((bs key).toList == (bs k).toList) = true := by rw [bs_beq]; simpa using ltK_tri (by simpa using h1) (by simpa using h2)
        have hcut : cutF key (Tr.node b l k u x r).toL = l.toL ++ r.toL := by
          simp only [Tr.toL]
          rw [cut_parts hs, if_neg h1, if_neg h2]
        rw [hcut]
        clear hcut b1 b2 hg0 hg h1 h2
        cases l using Tr.cas with
        | nil =>
          have HG : Hid _ := Tg.side (s := r) (.inr rfl) ha hn hk
          obtain ⟨o, ho⟩ := r.is_ptr
          have HX : Hid (∃ t', (Ending.returned (.pointer o) : Ending) = .returned (Tr.ptr t') ∧ Tg (.node b .nil k u x r) (Tr.toL .nil ++ r.toL) w t' w) := ⟨r, by rw [ho], HG.out⟩
          rw [ho] at c3
          simp only [Tr.ptr] at c2 ⊢
          clear HG ho ihl ihr ha hn hk hs hf hs1 hs2 hn' hf'
          generalize Tr.toL .nil ++ r.toL = L at *
          generalize Tr.node b .nil k u x r = t at *
          go_enter Try.func57, Try.ntmps57
          go_wp2_with fail
          go_ret
          exact HX.out
        | node c' l1 k1 u1 x1 r1 =>
          generalize hlN : Tr.node c' l1 k1 u1 x1 r1 = l at *
          have hlp : l.ptr = .pointer (some ⟨c', 0, none⟩) := by rw [← hlN]; rfl
          clear hlN
          cases r using Tr.cas with
          | nil =>
            have HG : Hid _ := Tg.side (s := l) (.inl rfl) ha hn hk
            have HX : Hid (∃ t', (Ending.returned (.pointer (some ⟨c', 0, none⟩)) : Ending) = .returned (Tr.ptr t') ∧ Tg (.node b l k u x .nil) (l.toL ++ Tr.toL .nil) w t' w) := ⟨l, by rw [hlp], by simp only [Tr.toL, List.append_nil]; exact HG.out⟩
            rw [hlp] at c2
            simp only [Tr.ptr] at c3 ⊢
            clear HG hlp ihl ihr ha hn hk hs hf hs1 hs2 hn' hf'
            generalize l.toL ++ Tr.toL .nil = L at *
            generalize Tr.node b l k u x .nil = t at *
            go_enter Try.func57, Try.ntmps57
            go_wp2_with fail
            go_ret
            exact HX.out
          | node d l2 k2 u2 x2 r2 =>
            have CF : Hid (1 = 1 → Calls Try.prog 72 #[.pointer (some ⟨d, 0, none⟩)] w fun e w' => ∃ c q u y m s, e = .returned (.pointer (some ⟨c, 0, none⟩)) ∧ w' = w ∧ w.heap[c]? = some (.cells (nl.cells q u y m s) nl.ty (0, 0)) ∧ c ∈ (Tr.node d l2 k2 u2 x2 r2).blocks ∧ ∃ R, (Tr.node d l2 k2 u2 x2 r2).toL = (q, u) :: R) := fun _ => first26 ha.2.2
            generalize hrN : Tr.node d l2 k2 u2 x2 r2 = r at *
            have hrp : r.ptr = .pointer (some ⟨d, 0, none⟩) := by rw [← hrN]; rfl
            clear hrN
            have f0 := block_frozen ha.1 0
            have f1 := block_frozen ha.1 1
            have c10 : w.cell? ⟨b, 1, none⟩ = some (.int .u32 u.1.1) := block_cell ha.1 rfl
            have f2 := block_frozen ha.1 2
            have c11 : w.cell? ⟨b, 2, none⟩ = some (.int .u32 u.1.2) := block_cell ha.1 rfl
            have f3 := block_frozen ha.1 3
            have c12 : w.cell? ⟨b, 3, none⟩ = some (.string (bs u.2.key)) := block_cell ha.1 rfl
            have f4 := block_frozen ha.1 4
            have c13 : w.cell? ⟨b, 4, none⟩ = some (.string (bs u.2.val)) := block_cell ha.1 rfl
            have f5 := block_frozen ha.1 5
            have c14 : w.cell? ⟨b, 5, none⟩ = some (.bool u.2.dead) := block_cell ha.1 rfl
            have CD : Hid (∀ c q u' y m s R, w.heap[c]? = some (.cells (nl.cells q u' y m s) nl.ty (0, 0)) → c ∈ r.blocks → r.toL = (q, u') :: R → ∀ W1, W1 = (((((w.setCell ⟨b, 0, none⟩ (.string (bs q))).setCell ⟨b, 1, none⟩ (.int .u32 u'.1.1)).setCell ⟨b, 2, none⟩ (.int .u32 u'.1.2)).setCell ⟨b, 3, none⟩ (.string (bs u'.2.key))).setCell ⟨b, 4, none⟩ (.string (bs u'.2.val))).setCell ⟨b, 5, none⟩ (.bool u'.2.dead) → c ≠ b ∧ W1.cell? ⟨b, 7, none⟩ = some r.ptr ∧ W1.cell? ⟨c, 0, none⟩ = some (.string (bs q)) ∧ ∀ W, Sw W1 W →
                Calls Try.prog 57 #[r.ptr, .string (bs q)] W fun e w2 => ∃ o, e = .returned (.pointer o) ∧ w2.cell? ⟨b, 7, none⟩ = some r.ptr ∧ w2.frozen? ⟨b, 7, none⟩ = false ∧ ∀ W3, Sw (w2.setCell ⟨b, 7, none⟩ (.pointer o)) W3 → Calls Try.prog 60 #[.pointer (some ⟨b, 0, none⟩)] W3 fun e w3 => ∃ t', e = .returned t'.ptr ∧ Tg (.node b l k u x r) (l.toL ++ r.toL) w t' w3) := by
              intro c q u' y m s R hc hcr hR W1 hW1
              obtain ⟨m1, m2, m3, m4⟩ := moved ha hn hc hcr
              rw [← hW1] at m1 m2 m3
              refine ⟨m4, block_cell m1.1 rfl, block_cell m3 rfl, fun W hs1' => ?_⟩
              have m1' := m1.sw hs1'
              have hq : getF q r.toL = some u' := (getF_mem hs2).2 (by rw [hR]; simp)
              have hcr2 : cutF q r.toL = R := by rw [hR]; simp [cutF]
              refine (ihr q W m1'.2.2 hn'.2.2.1 hk.2.2 hs2 (by rw [hq]; rfl) (by omega)).mono ?_
              rintro e w2 ⟨r', rfl, g⟩
              obtain ⟨o, ho⟩ := r'.is_ptr
              have hb1 : w2.heap[b]? = W.heap[b]? := g.kept.block b (Array.getElem?_eq_some_iff.1 m1'.1).1 (fun hi => hn'.1 (by simp [hi]))
              obtain ⟨o1, o2, o3, o4⟩ := Tg.setr m1' hn g
              rw [ho] at o1 o4
              have hlen : r'.toL.length ≤ r.toL.length := by rw [g.el, len_cut hs2]; split <;> omega
              refine ⟨o, by rw [ho], block_cell (hb1.trans m1'.1) rfl, block_frozen (hb1.trans m1'.1) _, fun W3 hs3 => ?_⟩
              have hN : Nd b l r' q u' x W3 := (Nd.mk o1 o2 hk.2.1 g.hk (by omega)).sw hs3
              refine (balanced25 hN (by omega)).mono ?_
              rintro e w3 ⟨t', rfl, g2⟩
              have g3 := Tg.after o3 o4 (hs3.tg g2)
              have g4 := hs1'.tg g3
              have hm2 : Kept (fun i => i ∈ (Tr.node b l k u x r).blocks) w W1 := m2.mono (fun i e => by simp [Tr.blocks, e])
              have g5 := Tg.after (t := .node b l k u x r) (t1 := .node b l q u' x r) (fun i hi => .inl (by simpa [Tr.blocks] using hi)) hm2 g4
              refine ⟨t', rfl, ⟨g5.ok, g5.hk, g5.nd, ?_, g5.sub, g5.kept⟩⟩
              rw [g5.el, g.el, hcr2, hR]
            rw [hlp] at c2
            clear ihl ihr ha hn hk hs hf hs1 hs2 hn' hf' hlp
            generalize hLL : l.toL ++ r.toL = L at *
            clear hLL
            simp only [Tr.ptr]
            generalize Tr.node b l k u x r = t at *
            rw [hrp] at c3
            generalize r.ptr = rp at *
            subst hrp
            go_enter Try.func57, Try.ntmps57
            go_wp2_with fail
            refine (CF.out (by trivial)).mono ?_
            rintro e w' ⟨c, q, u', y, m, s, rfl, rfl, hc, hcr, R, hR⟩
            obtain ⟨e0, e1, -, -, -⟩ := nd_cells hc
            obtain ⟨e1, e2, e3, e4, e5⟩ := e1
            obtain ⟨hcb, d3, d4, CC⟩ := CD.out c q u' y m s R hc hcr hR _ rfl
            have HC : Hid _ := CC
            clear hc hcr hR CF CD CC
            go_wp2_with fail
            go_region
            obtain ⟨W, hW⟩ : ∃ W, ((((((w'.setCell ⟨b, 0, none⟩ (.string (bs q))).setCell ⟨b, 1, none⟩ (.int .u32 u'.1.1)).setCell ⟨b, 2, none⟩ (.int .u32 u'.1.2)).setCell ⟨b, 3, none⟩ (.string (bs u'.2.key))).setCell ⟨b, 4, none⟩ (.string (bs u'.2.val))).setCell ⟨b, 5, none⟩ (.bool u'.2.dead)).drew = W := ⟨_, rfl⟩
            have d3' : W.cell? ⟨b, 7, none⟩ = some (.pointer (some ⟨d, 0, none⟩)) := by rw [← hW]; exact ((Sw.refl _).drew.cell _).trans d3
            have d4' : W.cell? ⟨c, 0, none⟩ = some (.string (bs q)) := by rw [← hW]; exact ((Sw.refl _).drew.cell _).trans d4
            have HD : Hid (Calls Try.prog 57 #[.pointer (some ⟨d, 0, none⟩), .string (bs q)] W.drew fun e w2 => ∃ o, e = .returned (.pointer o) ∧ w2.cell? ⟨b, 7, none⟩ = some (.pointer (some ⟨d, 0, none⟩)) ∧ w2.frozen? ⟨b, 7, none⟩ = false ∧ Hid (∀ W3, Sw (w2.setCell ⟨b, 7, none⟩ (.pointer o)) W3 → Calls Try.prog 60 #[.pointer (some ⟨b, 0, none⟩)] W3 fun e w3 => ∃ t', e = .returned t'.ptr ∧ Tg t L w' t' w3)) := by
              rw [← hW]
              exact HC.out _ (Sw.refl _).drew.drew
            rw [hW]
            clear HC d3 d4 hW e0 e1 e2 e3 e4 e5 c0 c10 c11 c12 c13 c14 c2 c3 f0 f1 f2 f3 f4 f5
            go_wp2_with fail
            go_region_with (go_at_call 57; refine HD.out.mono ?_; rintro e w2 ⟨o, rfl, d5, d6, HE⟩)
            all_goals
              go_wp2_with fail
              refine (HE.out _ (Sw.refl _)).mono ?_
              rintro e w3 ⟨t', rfl, g⟩
              obtain ⟨o', ho⟩ := t'.is_ptr
              have HX : Hid (∃ t', (Ending.returned (.pointer o') : Ending) = .returned (Tr.ptr t') ∧ Tg t L w' t' w3) := ⟨t', by rw [ho], g⟩
              rw [ho]
              clear g HE ho
              go_wp2_with fail
              go_ret
              exact HX.out
end Go.Proofs.Ytknfkpnicjellaa
