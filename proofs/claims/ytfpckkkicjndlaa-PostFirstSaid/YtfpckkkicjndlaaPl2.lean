/-
  The place that a raw number picks, in both posts; the document's Double and Take.
-/
import Derived.Test.YtfpckkkicjndlaaRp
namespace Go.Proofs.Ytfpckkkicjndlaa
open Go.RowKit Go.Sort

def placeI (x : Int) (K : Kq) : Int := if K.length = 0 then -1 else (pickN x K.length : Int)
def pickI (x : Int) (K : Kq) : Int := if K.length = 0 then 0 else (pickN x K.length : Int)
theorem tmod_in (x : Int) {n : Nat} (h : 0 < n) : -(n : Int) < x.tmod n ∧ x.tmod n < n := by
  refine ⟨?_, Int.tmod_lt_of_pos x (by omega)⟩
  have := Int.lt_tmod_of_pos x (show (0 : Int) < n by omega)
  omega
set_option maxHeartbeats 800000 in
set_option maxRecDepth 100000 in
theorem place19 {B p : Nat} {v : Value} {K : Kq} {w : World} (x : Int) (h : RpAt 29 B p v K w) : Calls Try.prog 19 #[.pointer (some ⟨p, 0, none⟩), .int .i64 x] w fun e w' => e = .returned (.int .i64 (placeI x K)) ∧ w' = w := by
  obtain ⟨sa, sc, rfl, hla, hma⟩ := h.row.shape
  have c0 := h.cell
  have HL : Hid (K.length ≤ 200) := h.len
  clear h
  by_cases h0 : K.length = 0
  · have HP : Hid (placeI x K = -1 ∧ someB K = false) := ⟨by unfold placeI; rw [if_pos h0], by simp [someB, h0]⟩
    rw [HP.out.1]
    generalize K.length = n at *
    subst h0
    go_enter Try.func19, Try.ntmps19
    go_wp2_with fail
    go_ret
    exact ⟨rfl, rfl⟩
  · have h1 : 0 < K.length := by omega
    have HP : Hid ((if x.tmod K.length < 0 then x.tmod K.length + K.length else x.tmod K.length) = placeI x K) := by
      show _ = _
      unfold placeI
      rw [if_neg h0, tmod_pick h1]
    have HB : Hid (someB K = true) := by show _ = _; simp [someB]; omega
    obtain ⟨t1, t2⟩ := tmod_in x h1
    generalize placeI x K = z at *
    have hn0 : ¬ (K.length : Int) = 0 := by omega
    have h200 := HL.out
    generalize K.length = n at *
    clear HL
    by_cases hr : x.tmod n < 0
    · have HQ : Hid (x.tmod n + n = z) := by have := HP.out; rw [if_pos hr] at this; exact this
      clear HP
      go_enter Try.func19, Try.ntmps19
      go_wp2_with fail
      go_ret
      exact ⟨by rw [← HQ.out]; rfl, rfl⟩
    · have HQ : Hid (x.tmod n = z) := by have := HP.out; rw [if_neg hr] at this; exact this
      clear HP
      go_enter Try.func19, Try.ntmps19
      go_wp2_with fail
      go_ret
      exact ⟨by rw [← HQ.out]; rfl, rfl⟩
set_option maxHeartbeats 800000 in
set_option maxRecDepth 100000 in
theorem pick17 {B p : Nat} {v : Value} {K : Kq} {w : World} (x : Int) (h : RpAt 42 B p v K w) : Calls Try.prog 17 #[.pointer (some ⟨p, 0, none⟩), .int .i64 x] w fun e w' => e = .returned (.tuple #[.int .i64 (pickI x K), .bool (someB K)]) ∧ w' = w := by
  obtain ⟨sa, sc, rfl, hla, hma⟩ := h.row.shape
  have c0 := h.cell
  have HL : Hid (K.length ≤ 200) := h.len
  clear h
  by_cases h0 : K.length = 0
  · have HP : Hid (pickI x K = 0 ∧ someB K = false) := ⟨by unfold pickI; rw [if_pos h0], by simp [someB, h0]⟩
    rw [HP.out.1]
    rw [HP.out.2]
    generalize K.length = n at *
    subst h0
    go_enter Try.func17, Try.ntmps17
    go_wp2_with fail
    go_ret2
    exact ⟨rfl, rfl⟩
  · have h1 : 0 < K.length := by omega
    have HP : Hid ((if x.tmod K.length < 0 then x.tmod K.length + K.length else x.tmod K.length) = pickI x K) := by
      show _ = _
      unfold pickI
      rw [if_neg h0, tmod_pick h1]
    have HB : Hid (someB K = true) := by show _ = _; simp [someB]; omega
    rw [HB.out]
    obtain ⟨t1, t2⟩ := tmod_in x h1
    generalize pickI x K = z at *
    have hn0 : ¬ (K.length : Int) = 0 := by omega
    have h200 := HL.out
    generalize K.length = n at *
    clear HL
    by_cases hr : x.tmod n < 0
    · have HQ : Hid (x.tmod n + n = z) := by have := HP.out; rw [if_pos hr] at this; exact this
      clear HP
      go_enter Try.func17, Try.ntmps17
      go_wp2_with fail
      go_ret2
      exact ⟨by rw [← HQ.out]; rfl, rfl⟩
    · have HQ : Hid (x.tmod n = z) := by have := HP.out; rw [if_neg hr] at this; exact this
      clear HP
      go_enter Try.func17, Try.ntmps17
      go_wp2_with fail
      go_ret2
      exact ⟨by rw [← HQ.out]; rfl, rfl⟩
set_option maxHeartbeats 800000 in
set_option maxRecDepth 100000 in
theorem doub14 {B p : Nat} {v : Value} {K : Kq} {w : World} (x : Int) (h : RpAt 29 B p v K w) : Calls Try.prog 14 #[.pointer (some ⟨p, 0, none⟩), .int .i64 x] w fun e w' => e = .returned (.bool (doubB K)) ∧ ∃ v', RpAt 29 B p v' (doubF x K) w' ∧ Kept (rpM p v) w w' ∧ ∀ i, rpM p v' i → rpM p v i ∨ w.heap.size ≤ i := by
  obtain ⟨sa, sc, rfl, hla, hma⟩ := h.row.shape
  have H0 : Hid (RpAt 29 B p (.slice sa K.length sc) K w) := h
  clear h
  have CP : Hid (1 = 1 → _) := fun _ => place19 x H0.out
  by_cases h0 : K.length = 0
  · have e1 : placeI x K = -1 := by unfold placeI; rw [if_pos h0]
    rw [e1] at CP
    have HS : Hid (doubB K = false ∧ doubF x K = K) := ⟨by simp [doubB, someB, h0], by unfold doubF; rw [if_neg (by omega)]⟩
    clear e1 h0
    go_enter Try.func14, Try.ntmps14
    go_wp2_with fail
    refine (CP.out (by trivial)).mono ?_
    rintro e w1 ⟨rfl, hw⟩
    subst hw
    clear CP
    go_wp2_with fail
    go_ret
    exact ⟨by rw [HS.out.1]; rfl, _, by rw [HS.out.2]; exact H0.out, Kept.refl _ _, fun i e => .inl e⟩
  · have h1 : 0 < K.length := by omega
    have e1 : placeI x K = (pickN x K.length : Int) := by unfold placeI; rw [if_neg h0]
    rw [e1] at CP
    have hpl := pick_lt (raw := x) h1
    obtain ⟨b1, o1, rfl, d0⟩ := H0.out.row.el hpl
    have HS : Hid (doubB K = sendB K ∧ doubF x K = sendF (K.getD (pickN x K.length) []) K) := ⟨by simp [doubB, someB, h1], by unfold doubF atF; rw [if_pos h1]⟩
    have CS : Hid (1 = 1 → _) := fun _ => send9 (K.getD (pickN x K.length) []) H0.out
    have c0 := H0.out.cell
    clear e1 h0
    generalize K.getD (pickN x K.length) [] = s at *
    generalize pickN x K.length = i at *
    have hpi : (i : Int) < K.length := by omega
    go_enter Try.func14, Try.ntmps14
    go_wp2_with fail
    refine (CP.out (by trivial)).mono ?_
    rintro e w1 ⟨rfl, hw⟩
    subst hw
    clear CP
    go_wp2_with fail
    refine (CS.out (by trivial)).mono ?_
    rintro e w2 ⟨rfl, hr⟩
    have HR : Hid _ := hr
    clear hr CS
    go_wp2_with fail
    go_ret
    exact ⟨by rw [HS.out.1]; rfl, by rw [HS.out.2]; exact HR.out⟩
theorem erase_parts (K : Kq) (i : Nat) : K.eraseIdx i = K.take i ++ K.drop (i + 1) := List.eraseIdx_eq_take_drop_succ _ _
set_option maxHeartbeats 1600000 in
set_option maxRecDepth 100000 in
theorem take11 {B p : Nat} {v : Value} {K : Kq} {w : World} (x : Int) (h : RpAt 29 B p v K w) : Calls Try.prog 11 #[.pointer (some ⟨p, 0, none⟩), .int .i64 x] w fun e w' => e = .returned (.tuple #[.string (bs (atF x K)), .bool (someB K)]) ∧ ∃ v', RpAt 29 B p v' (takeF x K) w' ∧ Kept (rpM p v) w w' ∧ ∀ i, rpM p v' i → rpM p v i ∨ w.heap.size ≤ i := by
  obtain ⟨i0, hin, hi0, hi1, hi2⟩ := info_parts info9
  obtain ⟨sa, sc, rfl, hla, hma⟩ := h.row.shape
  have H0 : Hid (RpAt 29 B p (.slice sa K.length sc) K w) := h
  clear h
  have CP : Hid (1 = 1 → _) := fun _ => place19 x H0.out
  by_cases h0 : K.length = 0
  · have e1 : placeI x K = -1 := by unfold placeI; rw [if_pos h0]
    rw [e1] at CP
    have HS : Hid (someB K = false ∧ takeF x K = K ∧ atF x K = []) := by
      have : K = [] := List.eq_nil_of_length_eq_zero h0
      subst this
      exact ⟨rfl, rfl, rfl⟩
    rw [HS.out.1, HS.out.2.1, HS.out.2.2]
    clear e1 h0
    go_enter Try.func11, Try.ntmps11
    go_wp2_with fail
    refine (CP.out (by trivial)).mono ?_
    rintro e w1 ⟨rfl, hw⟩
    subst hw
    clear CP
    go_wp2_with fail
    go_ret2
    exact ⟨rfl, _, H0.out, Kept.refl _ _, fun i e => .inl e⟩
  · have h1 : 0 < K.length := by omega
    have e1 : placeI x K = (pickN x K.length : Int) := by unfold placeI; rw [if_neg h0]
    rw [e1] at CP
    have hpl := pick_lt (raw := x) h1
    obtain ⟨b1, o1, rfl, d0⟩ := H0.out.row.el hpl
    have HS : Hid (someB K = true ∧ takeF x K = K.take (pickN x K.length) ++ K.drop (pickN x K.length + 1) ∧ atF x K = K.getD (pickN x K.length) []) := ⟨by simp [someB, h1], by unfold takeF; rw [erase_parts], rfl⟩
    rw [HS.out.1, HS.out.2.1, HS.out.2.2]
    clear HS
    have c0 := H0.out.cell
    clear e1 h0
    generalize K.getD (pickN x K.length) [] = s at *
    generalize pickN x K.length = i at *
    have hpi : (i : Int) < K.length := by omega
    have h200 : K.length ≤ 200 := H0.out.len
    have h201 : i ≤ sc := by omega
    have HOw : Hid (Ow w.heap.size 9 1 (.slice none 0 0) 0 [] w.heap.size (.slice (some ⟨b1, o1, none⟩) i sc) i (rowC txc (K.take i)) w) := ⟨own_nil _ _ _ _, by have := H0.out.row.take (show i ≤ K.length by omega); rw [rowC_take txc_len] at this; exact this, rowC_cells txc txc_one _, Nat.le_refl _, by omega⟩
    go_enter Try.func11, Try.ntmps11
    go_wp2_with fail
    refine (CP.out (by trivial)).mono ?_
    rintro e w1 ⟨rfl, hw⟩
    subst hw
    clear CP
    go_wp2_with (at_builtin; refine wpList_append_rw HOw.out Try.underlying27 hin hi0 hi1 hi2 rfl (by decide) (by decide) (.tmp 21) (.tmp 27) rfl rfl rfl rfl ?_)
    intro v1 w2 hown hg hat
    have hlt := (Array.getElem?_eq_some_iff.1 H0.out.b).1
    have hk1 : Kept (fun _ => False) w1 w2 := ⟨hg.os, hg.tape, hg.output, hg.size, fun k hk _ => hg.block k hk (fun e => by cases e)⟩
    obtain ⟨s1, c1, hv1, -, -, -, -⟩ := rw_own hown
    subst hv1
    have H1 : Hid (RpAt 29 B p (.slice (some ⟨b1, o1, none⟩) K.length sc) K w2) := H0.out.keep hk1 (fun _ _ e => e)
    obtain ⟨ad, hA⟩ : ∃ ad, (if sc = i + 1 then some (⟨b1, o1, none⟩ : Addr) else some ⟨b1, o1 + (i + 1), none⟩) = some ad := by split <;> exact ⟨_, rfl⟩
    have HOx : Hid (Ow w1.heap.size 9 1 (.slice s1 i c1) i (rowC txc (K.take i)) w2.heap.size (.slice (some ad) (K.length - (i + 1)) (sc - (i + 1))) (K.length - (i + 1)) (rowC txc (K.drop (i + 1))) w2) := by
      refine ⟨hown, ?_, rowC_cells txc txc_one _, hg.size, by omega⟩
      have := RwAt.drop H1.out.row (show i + 1 ≤ K.length by omega)
      rw [rowC_drop txc_len] at this
      rw [← hA]
      simpa [Addr.add_lit] using this
    have HK1 : Hid (Kept (fun _ => False) w1 w2) := hk1
    have HA : Hid (Value.ownBlock (.slice s1 i c1) = none ∨ Value.ownBlock (.slice s1 i c1) = some w1.heap.size) := hat
    have c9 := H1.out.cell
    have hi1k : (i : Int) + 1 ≤ K.length := by omega
    have hi1s : i + 1 ≤ sc := by omega
    clear hown hg hk1 HOw c0 d0 hat
    go_wp2_with (at_builtin; refine wpList_append_rw HOx.out Try.underlying27 hin hi0 hi1 hi2 rfl (by decide) (by decide) (.tmp 30) (.tmp 37) rfl rfl rfl rfl ?_)
    intro v2 w3 hown2 hg2 hat2
    obtain ⟨s2, c2, hv2, -, -, -, -⟩ := rw_own hown2
    have hlen : i + (K.length - (i + 1)) = (K.take i ++ K.drop (i + 1)).length := by simp; omega
    rw [← rowC_append, hlen] at hown2
    have HP : Hid (RpAt 29 B p v2 (K.take i ++ K.drop (i + 1)) (w3.setCell ⟨p, 0, none⟩ v2) ∧ Kept (rpM p (.slice (some ⟨b1, o1, none⟩) K.length sc)) w1 (w3.setCell ⟨p, 0, none⟩ v2) ∧ ∀ k, rpM p v2 k → rpM p (.slice (some ⟨b1, o1, none⟩) K.length sc) k ∨ w1.heap.size ≤ k) := by
      refine H0.out.put (K' := K.take i ++ K.drop (i + 1)) ?_ (own_le hown2 (by omega)) (fun k e => ?_) (by simp; omega)
      · have k1 : Kept (fun k => (Value.slice (some ⟨b1, o1, none⟩) K.length sc).ownBlock = some k) w1 w2 := ⟨HK1.out.os, HK1.out.tape, HK1.out.output, HK1.out.size, fun k hk _ => HK1.out.block k hk (fun e => e)⟩
        refine k1.trans (grown_kept hg2) (fun k e => .inr ?_)
        rcases HA.out with e1 | e1
        · rw [e1] at e; cases e
        · rw [e1] at e; injection e with e; omega
      · right
        have := HK1.out.size
        rcases hat2 with e1 | e1
        · rw [e1] at e
          rcases HA.out with e2 | e2
          · rw [e2] at e; cases e
          · rw [e2] at e; injection e with e; omega
        · rw [e1] at e; injection e with e; omega
    have hnp : ∀ k, k = p → ¬ (Value.slice s1 i c1).ownBlock = some k := fun k hk e => by
      subst hk
      rcases HA.out with e1 | e1
      · rw [e1] at e; cases e
      · rw [e1] at e; injection e with e; omega
    have hb3 : w3.heap[p]? = some (.cells #[.slice (some ⟨b1, o1, none⟩) K.length sc] 29 (0, 0)) := by
      rw [(grown_kept hg2).block p (Nat.lt_of_lt_of_le hlt HK1.out.size) (hnp p rfl)]
      exact H1.out.b
    have c3 := block_cell (j := 0) hb3 rfl
    have f3 := block_frozen hb3 0
    clear hown2 hg2 hat2 HOx c9 H0 H1 HK1 HA hnp hb3 hlen
    subst hv2
    go_wp2_with fail
    go_ret2
    exact ⟨rfl, _, HP.out⟩
end Go.Proofs.Ytfpckkkicjndlaa
