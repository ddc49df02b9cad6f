/-
  The program's post itself: its calls, and what the laws ask of them.
-/
import Derived.Test.YtfpckkkicjndlaaDe
namespace Go.Proofs.Ytfpckkkicjndlaa
open Go.RowKit Go.Sort

/-- The program's post behind the pointer p. -/
def PoAt (B p : Nat) (M : Nat → Prop) (K : Kq) (w : World) : Prop := ∃ v, M = rpM p v ∧ RpAt 42 B p v K w
set_option maxHeartbeats 800000 in
theorem new7 (w : World) : Calls Try.prog 7 #[] w fun e w' => ∃ p M, e = .returned (.pointer (some ⟨p, 0, none⟩)) ∧ PoAt w.heap.size p M [] w' ∧ Below w.heap.size w w' := by
  go_enter Try.func7, Try.ntmps7
  go_wp2_with fail
  go_ret
  refine ⟨_, _, rfl, ⟨_, rfl, ⟨heap_alloc_new w _, own_nil _ _ _ _, Nat.le_refl _, by simp⟩⟩, al _⟩
set_option maxHeartbeats 800000 in
set_option maxRecDepth 100000 in
theorem send8 {B p : Nat} {v : Value} {K : Kq} {w : World} (s : Tx) (h : RpAt 42 B p v K w) : Calls Try.prog 8 #[.pointer (some ⟨p, 0, none⟩), .string (bs s)] w fun e w' => e = .returned (.bool (sendB K)) ∧ ∃ v', RpAt 42 B p v' (sendF s K) w' ∧ Kept (rpM p v) w w' ∧ ∀ i, rpM p v' i → rpM p v i ∨ w.heap.size ≤ i := by
  obtain ⟨i0, hin, hi0, hi1, hi2⟩ := info_parts info9
  obtain ⟨sa, sc, rfl, hla, hma⟩ := h.row.shape
  have H0 : Hid (RpAt 42 B p (.slice sa K.length sc) K w) := h
  clear h
  have c0 := H0.out.cell
  by_cases hl : (200 : Int) ≤ K.length
  · have HS : Hid (sendB K = false ∧ sendF s K = K) := by
      have h9 : ¬ K.length < 200 := by omega
      exact ⟨by simp [sendB]; omega, by unfold sendF; rw [if_neg h9]⟩
    go_enter Try.func8, Try.ntmps8
    go_wp2_with fail
    go_ret
    refine ⟨by rw [HS.out.1]; rfl, .slice sa K.length sc, ?_, Kept.refl _ _, fun i e => .inl e⟩
    rw [HS.out.2]
    exact H0.out
  · have hll : K.length < 200 := by omega
    have HS : Hid (sendB K = true ∧ sendF s K = K ++ [s]) := ⟨by simp [sendB]; omega, by unfold sendF; rw [if_pos hll]⟩
    have HOw : Hid (Ow (p + 1) 9 1 (.slice sa K.length sc) K.length (rowC txc K) (w.heap.size + 1) (.slice (some ⟨w.heap.size, 0, none⟩) 1 1) 1 (rowC txc [s]) (w.alloc (.cells #[.string (bs s)] 9))) := tx_ow s H0.out.own (by have := (Array.getElem?_eq_some_iff.1 H0.out.b).1; omega) (by omega)
    go_enter Try.func8, Try.ntmps8
    go_wp2_with (at_builtin; refine wpList_append_rw HOw.out Try.underlying27 hin hi0 hi1 hi2 rfl (by decide) (by decide) (.tmp 19) (.tmp 21) rfl rfl rfl rfl ?_)
    intro v1 w1 hown hg hat
    obtain ⟨s1, c1, hv1, -, -, -, -⟩ := rw_own hown
    subst hv1
    obtain ⟨v1, hv1⟩ : ∃ v1, Value.slice s1 (K.length + 1) c1 = v1 := ⟨_, rfl⟩
    rw [hv1] at hown hat
    have HP : Hid (RpAt 42 B p v1 (K ++ [s]) (w1.setCell ⟨p, 0, none⟩ v1) ∧ Kept (rpM p (.slice sa K.length sc)) w (w1.setCell ⟨p, 0, none⟩ v1) ∧ ∀ k, rpM p v1 k → rpM p (.slice sa K.length sc) k ∨ w.heap.size ≤ k) := by
      refine H0.out.put (K' := K ++ [s]) ?_ (by rw [rowC_append, List.length_append]; exact hown) (fun k e => ?_) (by simp; omega)
      · exact (Kept.of_below (F := fun k => (Value.slice sa K.length sc).ownBlock = some k) (al _)).trans (grown_kept hg) (fun _ e => .inl e)
      · rcases hat with e1 | e1
        · rw [e1] at e; exact .inl e
        · rw [e1] at e
          injection e with e
          subst e
          right
          simp
    have c9 : w1.cell? ⟨p, 0, none⟩ = some (.slice sa K.length sc) := by
      have h1 := (Array.getElem?_eq_some_iff.1 H0.out.b).1
      have h2 : (w.alloc (.cells #[.string (bs s)] 9)).cell? ⟨p, 0, none⟩ = some (.slice sa K.length sc) := by rw [(bcell (al (W := w) _)).1 _ _ h1]; exact c0
      exact (grown_kept hg).cell h2 (fun e => by have := (World.ownsRow.lt H0.out.own p e).1; omega)
    have f1 : w1.frozen? ⟨p, 0, none⟩ = false := by
      have h1 := (Array.getElem?_eq_some_iff.1 H0.out.b).1
      have h2 : w1.heap[p]? = some (.cells #[.slice sa K.length sc] 42 (0, 0)) := by
        rw [(grown_kept hg).block p (by simp; omega) (fun e => by have := (World.ownsRow.lt H0.out.own p e).1; omega), (al (W := w) _).block p h1]
        exact H0.out.b
      exact block_frozen h2 0
    clear hown hg hat HOw c0 H0
    subst hv1
    go_wp2_with fail
    go_ret
    exact ⟨by rw [HS.out.1]; rfl, _, by rw [HS.out.2]; exact HP.out.1, HP.out.2⟩
theorem send8n (s : Tx) (w : World) : Calls Try.prog 8 #[.pointer none, .string (bs s)] w fun e w' => e = .returned (.bool false) ∧ Below w.heap.size w w' := by
  go_enter Try.func8, Try.ntmps8
  go_wp2_with fail
  go_ret
  exact ⟨rfl, Below.refl _ _⟩
theorem pick17n (x : Int) (w : World) : Calls Try.prog 17 #[.pointer none, .int .i64 x] w fun e w' => e = .returned (.tuple #[.int .i64 0, .bool false]) ∧ w' = w := by
  go_enter Try.func17, Try.ntmps17
  go_wp2_with fail
  go_ret2
  exact ⟨rfl, rfl⟩
set_option maxHeartbeats 1600000 in
set_option maxRecDepth 100000 in
theorem take10 {B p : Nat} {v : Value} {K : Kq} {w : World} (x : Int) (h : RpAt 42 B p v K w) : Calls Try.prog 10 #[.pointer (some ⟨p, 0, none⟩), .int .i64 x] w fun e w' => e = .returned (.tuple #[.string (bs (atF x K)), .bool (someB K)]) ∧ ∃ v', RpAt 42 B p v' (takeF x K) w' ∧ Kept (rpM p v) w w' ∧ ∀ i, rpM p v' i → rpM p v i ∨ w.heap.size ≤ i := by
  obtain ⟨sa, sc, rfl, hla, hma⟩ := h.row.shape
  have H0 : Hid (RpAt 42 B p (.slice sa K.length sc) K w) := h
  clear h
  have CP : Hid (1 = 1 → _) := fun _ => pick17 x H0.out
  by_cases h0 : K.length = 0
  · have e1 : pickI x K = 0 := by unfold pickI; rw [if_pos h0]
    have HS : Hid (someB K = false ∧ takeF x K = K ∧ atF x K = []) := by
      have : K = [] := List.eq_nil_of_length_eq_zero h0
      subst this
      exact ⟨rfl, rfl, rfl⟩
    rw [e1, HS.out.1] at CP
    rw [HS.out.1, HS.out.2.1, HS.out.2.2]
    clear e1 h0
    go_enter Try.func10, Try.ntmps10
    go_wp2_with fail
    refine (CP.out (by trivial)).mono ?_
    rintro e w1 ⟨rfl, hw⟩
    subst hw
    clear CP
    go_wp2_with fail
    go_ret2
    exact ⟨rfl, _, H0.out, Kept.refl _ _, fun i e => .inl e⟩
  · have h1 : 0 < K.length := by omega
    have e1 : pickI x K = (pickN x K.length : Int) := by unfold pickI; rw [if_neg h0]
    have hpl := pick_lt (raw := x) h1
    have HS : Hid (someB K = true ∧ takeF x K = K.eraseIdx (pickN x K.length) ∧ atF x K = K.getD (pickN x K.length) []) := ⟨by simp [someB, h1], rfl, rfl⟩
    rw [e1, HS.out.1] at CP
    rw [HS.out.1, HS.out.2.1, HS.out.2.2]
    clear HS
    obtain ⟨g, cap, he⟩ : ∃ g cap, Value.slice sa K.length sc = .slice (some ⟨g, 0, none⟩) K.length cap := by
      rcases H0.out.own.2 with ⟨_, e⟩ | ⟨g, cap, cur, e, _⟩
      · exact absurd e h0
      · exact ⟨g, cap, e⟩
    simp only [Value.slice.injEq, true_and] at he
    obtain ⟨rfl, rfl⟩ := he
    obtain ⟨b1, o1, he, d0⟩ := H0.out.row.el hpl
    simp only [Option.some.injEq, Addr.mk.injEq, and_true] at he
    obtain ⟨rfl, rfl⟩ := he
    rw [Nat.zero_add] at d0
    have c0 := H0.out.cell
    clear e1 h0
    have CD : Hid (1 = 1 → _) := fun _ => del18 H0.out.own hpl
    generalize K.getD (pickN x K.length) [] = s at *
    generalize pickN x K.length = i at *
    have hpi : (i : Int) < K.length := by omega
    have h200 : K.length ≤ 200 := H0.out.len
    go_enter Try.func10, Try.ntmps10
    go_wp2_with fail
    refine (CP.out (by trivial)).mono ?_
    rintro e w1 ⟨rfl, hw⟩
    subst hw
    clear CP
    go_wp2_with fail
    refine (CD.out (by trivial)).mono ?_
    rintro e w2 ⟨rfl, ho, hk⟩
    have hlt := (Array.getElem?_eq_some_iff.1 H0.out.b).1
    have hgp : g ≠ p := fun e => by have := (World.ownsRow.lt H0.out.own g rfl).1; omega
    have HP : Hid (RpAt 42 B p (.slice (some ⟨g, 0, none⟩) (K.length - 1) sc) (K.eraseIdx i) (w2.setCell ⟨p, 0, none⟩ (.slice (some ⟨g, 0, none⟩) (K.length - 1) sc)) ∧ Kept (rpM p (.slice (some ⟨g, 0, none⟩) K.length sc)) w1 (w2.setCell ⟨p, 0, none⟩ (.slice (some ⟨g, 0, none⟩) (K.length - 1) sc)) ∧ ∀ k, rpM p (.slice (some ⟨g, 0, none⟩) (K.length - 1) sc) k → rpM p (.slice (some ⟨g, 0, none⟩) K.length sc) k ∨ w1.heap.size ≤ k) := by
      refine H0.out.put (K' := K.eraseIdx i) ?_ ho (fun k e => .inl e) (by have := K.length_eraseIdx_le i; omega)
      exact ⟨hk.os, hk.tape, hk.output, hk.size, fun k hk' hn => hk.block k hk' (fun e => hn (by subst e; rfl))⟩
    have hb3 : w2.heap[p]? = some (.cells #[.slice (some ⟨g, 0, none⟩) K.length sc] 42 (0, 0)) := by
      rw [hk.block p hlt (Ne.symm hgp)]
      exact H0.out.b
    have c3 := block_cell (j := 0) hb3 rfl
    have f3 := block_frozen hb3 0
    clear ho hk CD c0 d0 H0 hb3 hgp
    go_wp2_with fail
    go_ret2
    exact ⟨rfl, _, HP.out⟩
theorem take10n (x : Int) (w : World) : Calls Try.prog 10 #[.pointer none, .int .i64 x] w fun e w' => e = .returned (.tuple #[.string (bs []), .bool false]) ∧ Below w.heap.size w w' := by
  have CP : Hid (1 = 1 → _) := fun _ => pick17n x w
  go_enter Try.func10, Try.ntmps10
  go_wp2_with fail
  refine (CP.out (by trivial)).mono ?_
  rintro e w1 ⟨rfl, hw⟩
  subst hw
  clear CP
  go_wp2_with fail
  go_ret2
  exact ⟨rfl, Below.refl _ _⟩
set_option maxRecDepth 100000 in
theorem lose12 {B p : Nat} {v : Value} {K : Kq} {w : World} (x : Int) (h : RpAt 42 B p v K w) : Calls Try.prog 12 #[.pointer (some ⟨p, 0, none⟩), .int .i64 x] w fun e w' => e = .returned (.bool (someB K)) ∧ ∃ v', RpAt 42 B p v' (takeF x K) w' ∧ Kept (rpM p v) w w' ∧ ∀ i, rpM p v' i → rpM p v i ∨ w.heap.size ≤ i := by
  have CP : Hid (1 = 1 → _) := fun _ => take10 x h
  clear h
  go_enter Try.func12, Try.ntmps12
  go_wp2_with fail
  refine (CP.out (by trivial)).mono ?_
  rintro e w1 ⟨rfl, hr⟩
  have HR : Hid _ := hr
  clear hr CP
  go_wp2_with fail
  go_ret
  exact ⟨rfl, HR.out⟩
theorem lose12n (x : Int) (w : World) : Calls Try.prog 12 #[.pointer none, .int .i64 x] w fun e w' => e = .returned (.bool false) ∧ Below w.heap.size w w' := by
  have CP : Hid (1 = 1 → _) := fun _ => take10n x w
  go_enter Try.func12, Try.ntmps12
  go_wp2_with fail
  refine (CP.out (by trivial)).mono ?_
  rintro e w1 ⟨rfl, hr⟩
  have HR : Hid _ := hr
  clear hr CP
  go_wp2_with fail
  go_ret
  exact ⟨rfl, HR.out⟩
set_option maxHeartbeats 800000 in
set_option maxRecDepth 100000 in
theorem doub13 {B p : Nat} {v : Value} {K : Kq} {w : World} (x : Int) (h : RpAt 42 B p v K w) : Calls Try.prog 13 #[.pointer (some ⟨p, 0, none⟩), .int .i64 x] w fun e w' => e = .returned (.bool (doubB K)) ∧ ∃ v', RpAt 42 B p v' (doubF x K) w' ∧ Kept (rpM p v) w w' ∧ ∀ i, rpM p v' i → rpM p v i ∨ w.heap.size ≤ i := by
  obtain ⟨sa, sc, rfl, hla, hma⟩ := h.row.shape
  have H0 : Hid (RpAt 42 B p (.slice sa K.length sc) K w) := h
  clear h
  have CP : Hid (1 = 1 → _) := fun _ => pick17 x H0.out
  by_cases h0 : K.length = 0
  · have e1 : pickI x K = 0 := by unfold pickI; rw [if_pos h0]
    have HS : Hid (doubB K = false ∧ doubF x K = K ∧ someB K = false) := ⟨by simp [doubB, someB, h0], by unfold doubF; rw [if_neg (by omega)], by simp [someB, h0]⟩
    rw [e1, HS.out.2.2] at CP
    clear e1 h0
    go_enter Try.func13, Try.ntmps13
    go_wp2_with fail
    refine (CP.out (by trivial)).mono ?_
    rintro e w1 ⟨rfl, hw⟩
    subst hw
    clear CP
    go_wp2_with fail
    go_ret
    exact ⟨by rw [HS.out.1]; rfl, _, by rw [HS.out.2.1]; exact H0.out, Kept.refl _ _, fun i e => .inl e⟩
  · have h1 : 0 < K.length := by omega
    have e1 : pickI x K = (pickN x K.length : Int) := by unfold pickI; rw [if_neg h0]
    have hpl := pick_lt (raw := x) h1
    obtain ⟨b1, o1, rfl, d0⟩ := H0.out.row.el hpl
    have HS : Hid (doubB K = sendB K ∧ doubF x K = sendF (K.getD (pickN x K.length) []) K ∧ someB K = true) := ⟨by simp [doubB, someB, h1], by unfold doubF atF; rw [if_pos h1], by simp [someB, h1]⟩
    rw [e1, HS.out.2.2] at CP
    have CS : Hid (1 = 1 → _) := fun _ => send8 (K.getD (pickN x K.length) []) H0.out
    have c0 := H0.out.cell
    clear e1 h0
    generalize K.getD (pickN x K.length) [] = s at *
    generalize pickN x K.length = i at *
    have hpi : (i : Int) < K.length := by omega
    go_enter Try.func13, Try.ntmps13
    go_wp2_with fail
    refine (CP.out (by trivial)).mono ?_
    rintro e w1 ⟨rfl, hw⟩
    subst hw
    clear CP
    go_wp2_with fail
    refine (CS.out (by trivial)).mono ?_
    rintro e w2 ⟨rfl, hr⟩
    have HR : Hid _ := hr
    clear hr CS
    go_wp2_with fail
    go_ret
    exact ⟨by rw [HS.out.1]; rfl, by rw [HS.out.2.1]; exact HR.out⟩
theorem doub13n (x : Int) (w : World) : Calls Try.prog 13 #[.pointer none, .int .i64 x] w fun e w' => e = .returned (.bool false) ∧ Below w.heap.size w w' := by
  have CP : Hid (1 = 1 → _) := fun _ => pick17n x w
  go_enter Try.func13, Try.ntmps13
  go_wp2_with fail
  refine (CP.out (by trivial)).mono ?_
  rintro e w1 ⟨rfl, hw⟩
  subst hw
  clear CP
  go_wp2_with fail
  go_ret
  exact ⟨rfl, Below.refl _ _⟩
theorem all16 {B p : Nat} {v : Value} {K : Kq} {w : World} (h : RpAt 42 B p v K w) : Calls Try.prog 16 #[.pointer (some ⟨p, 0, none⟩)] w fun e w' => ∃ v', e = .returned v' ∧ KsAt w'.heap.size v' K w' ∧ (∀ k, v'.ownBlock = some k → w.heap.size ≤ k) ∧ Below w.heap.size w w' := by
  have CP : Hid (1 = 1 → _) := fun _ => clone20 h.own h.len
  have c0 := h.cell
  obtain ⟨sa, sc, rfl, hla, hma⟩ := h.row.shape
  clear h
  go_enter Try.func16, Try.ntmps16
  go_wp2_with fail
  refine (CP.out (by trivial)).mono ?_
  rintro e w1 ⟨v', rfl, ho, hb⟩
  have HR : Hid (w1.ownsRow w.heap.size 9 1 v' K.length (rowC txc K) ∧ Below w.heap.size w w1) := ⟨ho, hb⟩
  clear ho hb CP
  go_wp2_with fail
  go_ret
  exact ⟨v', rfl, rw_own HR.out.1, fun k e => (World.ownsRow.lt HR.out.1 k e).1, HR.out.2⟩
theorem all16n (w : World) : Calls Try.prog 16 #[.pointer none] w fun e w' => ∃ ao cap, e = .returned (.slice ao 0 cap) ∧ Below w.heap.size w w' := by
  go_enter Try.func16, Try.ntmps16
  go_wp2_with fail
  go_ret
  exact ⟨_, _, rfl, Below.refl _ _⟩
theorem postIfo : Ifo PoAt where
  lt := by rintro B p M K w ⟨v, rfl, h⟩; exact h.mem
  keep := by rintro B p M G K w w' ⟨v, rfl, h⟩ hk hG; exact ⟨v, rfl, h.keep hk hG⟩
  ok := by rintro B p M K w ⟨v, rfl, h⟩; exact h.len
  new := new7
  send := by
    rintro B p M K w s ⟨v, rfl, h⟩
    refine (send8 s h).mono ?_
    rintro e w' ⟨rfl, v', h', hk, hm⟩
    exact ⟨rfl, _, ⟨v', rfl, h'⟩, hk, hm⟩
  take := by
    rintro B p M K w x ⟨v, rfl, h⟩ -
    refine (take10 x h).mono ?_
    rintro e w' ⟨rfl, v', h', hk, hm⟩
    exact ⟨rfl, _, ⟨v', rfl, h'⟩, hk, hm⟩
  lose := by
    rintro B p M K w x ⟨v, rfl, h⟩ -
    refine (lose12 x h).mono ?_
    rintro e w' ⟨rfl, v', h', hk, hm⟩
    exact ⟨rfl, _, ⟨v', rfl, h'⟩, hk, hm⟩
  doub := by
    rintro B p M K w x ⟨v, rfl, h⟩ -
    refine (doub13 x h).mono ?_
    rintro e w' ⟨rfl, v', h', hk, hm⟩
    exact ⟨rfl, _, ⟨v', rfl, h'⟩, hk, hm⟩
  all := by rintro B p M K w ⟨v, rfl, h⟩; exact all16 h
  send0 := send8n
  take0 := fun x w _ => take10n x w
  lose0 := fun x w _ => lose12n x w
  doub0 := fun x w _ => doub13n x w
  all0 := all16n
end Go.Proofs.Ytfpckkkicjndlaa
