/-
  The document's Done.
-/
import Derived.Test.YtkadaoebehgkbaaOd
namespace Go.Proofs.Ytkadaoebehgkbaa
open Go.RowKit

theorem done_none {c n : Int} : ∀ {K : Bk}, (∀ x ∈ K, ofN c n x = false) → mkDone c n K = K
  | [], _ => rfl
  | x :: K, h => by
    have ih := done_none (K := K) (fun y hy => h y (List.mem_cons_of_mem _ hy))
    unfold mkDone at ih ⊢
    rw [List.map_cons, ih, if_neg (by simp [h x (List.mem_cons_self ..)])]
theorem done_set {c n : Int} : ∀ {K : Bk}, SrtV K → thB c n K = true → mkDone c n K = K.set (plN c n K) { K.getD (plN c n K) dv with dn := true }
  | [], _, h => by simp [thB] at h
  | x :: K, hs, h => by
    obtain ⟨hs1, hs2⟩ := List.pairwise_cons.1 hs
    obtain ⟨h1, h2, h3⟩ := thB_lt h
    by_cases hlt : ltT x.c x.n c n = true
    · have e : plN c n (x :: K) = plN c n K + 1 := by conv => lhs; unfold plN
                                                      rw [if_pos hlt]
      have hno : ofN c n x = false := by
        cases ho : ofN c n x with
        | false => rfl
        | true =>
          obtain ⟨a1, a2⟩ := ofN_iff.1 ho
          rw [a1, a2, ltT_irrefl] at hlt
          cases hlt
      have ht : thB c n K = true := by
        unfold thB at h ⊢
        rw [e] at h
        simpa using h
      have ih := done_set hs2 ht
      rw [e]
      unfold mkDone at ih ⊢
      rw [List.map_cons, ih, if_neg (by simp [hno])]
      rfl
    · have e : plN c n (x :: K) = 0 := by unfold plN; rw [if_neg hlt]
      rw [e] at h2 h3 ⊢
      have ho : ofN c n x = true := ofN_iff.2 ⟨h2, h3⟩
      have ih := done_none (c := c) (n := n) (K := K) (fun y hy => by
        cases hy' : ofN c n y with
        | false => rfl
        | true =>
          obtain ⟨a1, a2⟩ := ofN_iff.1 hy'
          obtain ⟨b1, b2⟩ := ofN_iff.1 ho
          have := hs1 y hy
          rw [a1, a2, b1, b2, ltT_irrefl] at this
          cases this)
      unfold mkDone at ih ⊢
      rw [List.map_cons, ih, if_pos ho]
      rfl
theorem row_dn : ∀ (K : Bk) (m : Nat), m < K.length → (rowC vdc K).set (m * 8 + 7) (.bool true) = rowC vdc (K.set m { K.getD m dv with dn := true })
  | [], m, h => by simp at h
  | x :: K, 0, _ => by simp [rowC, vdc]
  | x :: K, m + 1, h => by
    have ih := row_dn K m (by simpa using h)
    rw [List.set_cons_succ, rowC_cons, rowC_cons, List.set_append, if_neg (by rw [vdc_len]; omega), vdc_len, show (m + 1) * 8 + 7 - 8 = m * 8 + 7 from by omega, ih]
    rfl
/-- One cell of an owned row is written. -/
theorem own_set {base e size g n cap : Nat} {cs : List Value} {w : World} (h : w.ownsRow base e size (.slice (some ⟨g, 0, none⟩) n cap) n cs) (j : Nat) (u : Value) : (w.setCell ⟨g, j, none⟩ u).ownsRow base e size (.slice (some ⟨g, 0, none⟩) n cap) n (cs.set j u) := by
  rcases h.2 with ⟨h0, _⟩ | ⟨g', cap', cur, e', hg, hh, h1, h2, h3, h4⟩
  · cases h0
  · simp only [Value.slice.injEq, Option.some.injEq, Addr.mk.injEq] at e'
    obtain ⟨⟨rfl, _⟩, _, rfl⟩ := e'
    refine ⟨by rw [List.length_set]; exact h.1, .inr ⟨g, cap, cur.setIfInBounds j u, rfl, hg, ?_, h1, h2, by simpa using h3, ?_⟩⟩
    · show (w.heap.modify g _)[g]? = _
      rw [Array.getElem?_modify, if_pos rfl, hh]
      rfl
    · rw [Array.toList_setIfInBounds, ← h4, List.take_set]
theorem own_frozen {base e size g n cap : Nat} {cs : List Value} {w : World} (h : w.ownsRow base e size (.slice (some ⟨g, 0, none⟩) n cap) n cs) (j : Nat) : w.frozen? ⟨g, j, none⟩ = false := by
  rcases h.2 with ⟨h0, _⟩ | ⟨g', cap', cur, e', hg, hh, h1, h2, h3, h4⟩
  · cases h0
  · simp only [Value.slice.injEq, Option.some.injEq, Addr.mk.injEq] at e'
    obtain ⟨⟨rfl, _⟩, _, rfl⟩ := e'
    unfold World.frozen?
    rw [hh]
    simp
theorem set_kept (F : Nat → Prop) (w : World) (a : Addr) (u : Value) (h : F a.block) : Kept F w (w.setCell a u) := by
  have hb : Below a.block w (w.setCell a u) := (Below.refl _ _).setCell (Nat.le_refl _) u
  refine ⟨hb.os, hb.tape, hb.output, hb.size, fun k hk hF => ?_⟩
  exact Below.heap_setCell _ _ _ _ (fun e => hF (e ▸ h))
/-- The book's row is none, or one of its own. -/
theorem RbAt.two {B rb : Nat} {sl : Value} {K : Bk} {w : World} (h : RbAt B rb sl K w) : (sl = .slice none 0 0 ∧ K = []) ∨ ∃ g cap, sl = .slice (some ⟨g, 0, none⟩) K.length cap ∧ K.length ≤ cap ∧ cap ≤ 9223372036854775807 := by
  rcases h.row.2 with ⟨e, h0⟩ | ⟨g, cap, cur, e, _, _, h1, h2, _⟩
  · exact .inl ⟨e, List.eq_nil_of_length_eq_zero h0⟩
  · exact .inr ⟨g, cap, e, h1, by unfold maxLen at h2; omega⟩
/-- What a call leaves of the document's book. -/
def RbTo (B rb : Nat) (sl : Value) (K : Bk) (w w' : World) : Prop := ∃ sl', RbAt B rb sl' K w' ∧ Kept (foot rb sl) w w' ∧ ∀ i, foot rb sl' i → foot rb sl i ∨ w.heap.size ≤ i
theorem RbAt.to {B rb : Nat} {sl : Value} {K : Bk} {w w' : World} (h : RbAt B rb sl K w) (hb : Below w.heap.size w w') : RbTo B rb sl K w w' := ⟨sl, h.on hb, Kept.of_below hb, fun _ hi => .inl hi⟩
theorem RbAt.dn {B rb g cap : Nat} {K : Bk} {w w1 : World} (h : RbAt B rb (.slice (some ⟨g, 0, none⟩) K.length cap) K w) (hb : Below w.heap.size w w1) {c n : Int} (ht : thB c n K = true) : RbTo B rb (.slice (some ⟨g, 0, none⟩) K.length cap) (mkDone c n K) w (w1.setCell ⟨g, plN c n K * 8 + 7, none⟩ (.bool true)) := by
  have h1 := h.on hb
  have hF : foot rb (.slice (some ⟨g, 0, none⟩) K.length cap) g := .inr rfl
  have hk := set_kept (foot rb (.slice (some ⟨g, 0, none⟩) K.length cap)) w1 ⟨g, plN c n K * 8 + 7, none⟩ (.bool true) hF
  have hlen : (mkDone c n K).length = K.length := by simp [mkDone]
  refine ⟨.slice (some ⟨g, 0, none⟩) K.length cap, ⟨?_, ?_, h.lo, h.ne, done_srt h.ok c n⟩, (Kept.of_below hb).trans hk (fun i hi => .inl hi), fun i hi => .inl hi⟩
  · rw [(set_kept (fun k => k = g) w1 ⟨g, plN c n K * 8 + 7, none⟩ (.bool true) rfl).block rb (h1.lt (.inl rfl)).2 (fun e => h1.ne (by rw [e]; rfl))]
    exact h1.box
  · have := own_set h1.row (plN c n K * 8 + 7) (.bool true)
    rw [row_dn K _ (thB_lt ht).1, ← done_set h.ok ht] at this
    rw [hlen]
    exact this

set_option maxHeartbeats 1600000 in
set_option maxRecDepth 100000 in
theorem done12 (B rb : Nat) (sl : Value) (K : Bk) (c n : Int) (w : World) (h : RbAt B rb sl K w) (hl : K.length < 100000) :
    Calls Try.prog 12 #[.pointer (some ⟨rb, 0, none⟩), .agg #[.int .u32 c, .int .u32 n]] w fun e w' => e = .returned (.bool (doneB c n K).2) ∧ RbTo B rb sl (doneB c n K).1 w w' := by
  have H : Hid (RbAt B rb sl K w) := h
  have CP : Hid (∀ W, Below w.heap.size w W → _) := fun W hb => place23 B rb _ K c n W (h.on hb) hl
  have CC : Hid (∀ x W, _) := fun x W => com22 x W
  have HG : Hid (doneB c n K = if thB c n K = true then (if cmB (K.getD (plN c n K) dv) then (mkDone c n K, true) else (K, false)) else (K, false)) := by
    show _ = _
    unfold doneB
    rw [get_th h.ok]
    by_cases ht : thB c n K = true
    · rw [if_pos ht, if_pos ht]
    · rw [if_neg ht, if_neg ht]
  have HT : Hid (∀ g cap w1, sl = .slice (some ⟨g, 0, none⟩) K.length cap → Below w.heap.size w w1 → thB c n K = true → RbTo B rb sl (mkDone c n K) w (w1.setCell ⟨g, plN c n K * 8 + 7, none⟩ (.bool true))) := fun g cap w1 e hb ht => by subst e; exact h.dn hb ht
  have HL : Hid (thB c n K = true → plN c n K < K.length) := fun h => (thB_lt h).1
  have h2 := h.two
  clear h
  generalize doneB c n K = y at *
  generalize mkDone c n K = K' at *
  generalize plN c n K = m at *
  generalize thB c n K = z at *
  go_enter Try.func12, Try.ntmps12
  go_wp2_with fail
  obtain ⟨W0, hW0⟩ : ∃ W0, w.alloc (.cells #[.int .u32 c, .int .u32 n] 32) = W0 := ⟨_, rfl⟩
  have HB0 : Hid (Below w.heap.size w W0) := by rw [← hW0]; exact al _
  rw [hW0]
  refine (CP.out W0 HB0.out).mono ?_
  rintro e w1 ⟨rfl, hb1⟩
  have HB1 : Hid (Below w.heap.size w w1) := HB0.out.trans (hb1.mono HB0.out.size)
  have H1 : Hid (RbAt B rb sl K w1) := H.out.on HB1.out
  clear hb1 CP hW0 HB0
  cases z
  · have HY : Hid (y = (K, false)) := by show _ = _; rw [HG.out]; rfl
    clear HG HT HL h2
    go_wp2_with fail
    go_ret
    rw [HY.out]
    exact ⟨rfl, H.out.to HB1.out⟩
  · have hml : m < K.length := HL.out rfl
    rcases h2 with ⟨rfl, rfl⟩ | ⟨g, cap, rfl, hlc, hcm⟩
    · simp at hml
    obtain ⟨b, off, eg, e0, e1, e2, e3, e4, e5, e6, e7⟩ := H1.out.is.el hml
    injection eg with eg
    injection eg with eg1 eg2
    subst eg1
    subst eg2
    have c0 := H1.out.cell
    have hfz := own_frozen H1.out.row (m * 8 + 7)
    simp only [Nat.zero_add] at e0 e1 e2 e3 e4 e5 e6 e7
    have hml' : (m : Int) < K.length := by omega
    generalize K.getD m dv = x at *
    clear HL
    go_wp2_with fail
    refine (CC.out x w1).mono ?_
    rintro e w2 ⟨rfl, hb2⟩
    have HB2 : Hid (Below w.heap.size w w2) := HB1.out.trans (hb2.mono HB1.out.size)
    have c0' := (H.out.on HB2.out).cell
    have hfz' := own_frozen (H.out.on HB2.out).row (m * 8 + 7)
    have e7' : w2.cell? ⟨g, m * 8 + 7, none⟩ = some (.bool x.dn) := by rw [hb2.cell (World.block_lt_of_cell? _ _ e7)]; exact e7
    clear c0 hfz e0 e1 e2 e3 e4 e5 e6 e7 hb2 CC
    cases hcm2 : cmB x
    · have HY : Hid (y = (K, false)) := by show _ = _; rw [HG.out, hcm2]; rfl
      clear HG HT
      go_wp2_with fail
      go_ret
      rw [HY.out]
      exact ⟨rfl, H.out.to HB2.out⟩
    · have HY : Hid (y = (K', true)) := by show _ = _; rw [HG.out, hcm2]; rfl
      clear HG
      go_wp2_with fail
      go_ret
      rw [HY.out]
      exact ⟨rfl, HT.out _ _ _ rfl HB2.out trivial⟩
end Go.Proofs.Ytkadaoebehgkbaa
