/-
  The document's post: where it lies; Place, Send.
-/
import Derived.Test.YtfpckkkicjndlaaAw
namespace Go.Proofs.Ytfpckkkicjndlaa
open Go.RowKit Go.Sort

theorem info9 : (Try.prog.info? 9).map (fun i => (i.zero, i.size, i.bytes)) = some (some (.string ⟨#[]⟩), 1, 16) := by kernel_rfl
theorem block_set {w : World} {b j : Nat} {cs : Array Value} {ty : TypeId} (u : Value) (h : w.heap[b]? = some (.cells cs ty (0, 0))) : (w.setCell ⟨b, j, none⟩ u).heap[b]? = some (.cells (cs.setIfInBounds j u) ty (0, 0)) := by
  show (w.heap.modify b _)[b]? = _
  rw [Array.getElem?_modify, if_pos rfl, h]
  rfl
theorem block_cell {w : World} {b j : Nat} {cs : Array Value} {ty : TypeId} {u : Value} (h : w.heap[b]? = some (.cells cs ty (0, 0))) (hj : cs[j]? = some u) : w.cell? ⟨b, j, none⟩ = some u := by
  unfold World.cell?
  rw [h]
  exact hj
theorem block_frozen {w : World} {b : Nat} {cs : Array Value} {ty : TypeId} (h : w.heap[b]? = some (.cells cs ty (0, 0))) (j : Nat) : w.frozen? ⟨b, j, none⟩ = false := by
  unfold World.frozen?
  rw [h]
  simp
theorem set_kept' (w : World) (b j : Nat) (u : Value) : Kept (fun c => c = b) w (w.setCell ⟨b, j, none⟩ u) := by
  have hb : Below b w (w.setCell ⟨b, j, none⟩ u) := (Below.refl b w).setCell (p := ⟨b, j, none⟩) (Nat.le_refl b) u
  exact ⟨hb.os, hb.tape, hb.output, hb.size, fun k _ hF => Below.heap_setCell w ⟨b, j, none⟩ u k hF⟩
theorem own_nil (base e size : Nat) (w : World) : w.ownsRow base e size (.slice none 0 0) 0 [] := World.ownsRow_nil w base e size
/-- A line of letters in a box of one cell, its row behind it. -/
structure RpAt (ty : Nat) (B p : Nat) (v : Value) (K : Kq) (w : World) : Prop where
  b : w.heap[p]? = some (.cells #[v] ty (0, 0))
  own : w.ownsRow (p + 1) 9 1 v K.length (rowC txc K)
  lt : B ≤ p
  len : K.length ≤ 200
def rpM (p : Nat) (v : Value) : Nat → Prop := fun k => k = p ∨ v.ownBlock = some k
theorem RpAt.mem {ty B p : Nat} {v : Value} {K : Kq} {w : World} (h : RpAt ty B p v K w) : ∀ k, rpM p v k → B ≤ k ∧ k < w.heap.size := fun k hk => by
  have h1 := (Array.getElem?_eq_some_iff.1 h.b).1
  have h2 := h.lt
  rcases hk with e | e
  · omega
  · have := World.ownsRow.lt h.own k e
    omega
theorem RpAt.keep {ty B p : Nat} {v : Value} {K : Kq} {G : Nat → Prop} {w w' : World} (h : RpAt ty B p v K w) (hk : Kept G w w') (hG : ∀ k, rpM p v k → ¬ G k) : RpAt ty B p v K w' :=
  ⟨by rw [hk.block p (Array.getElem?_eq_some_iff.1 h.b).1 (hG p (.inl rfl))]; exact h.b, own_kept h.own hk (fun k e => hG k (.inr e)), h.lt, h.len⟩
theorem RpAt.on {ty B p : Nat} {v : Value} {K : Kq} {w w' : World} (h : RpAt ty B p v K w) (hb : Below w.heap.size w w') : RpAt ty B p v K w' := h.keep (Kept.of_below (F := fun _ => False) hb) (fun _ _ h => h)
theorem RpAt.cell {ty B p : Nat} {v : Value} {K : Kq} {w : World} (h : RpAt ty B p v K w) : w.cell? ⟨p, 0, none⟩ = some v := block_cell h.b rfl
theorem RpAt.row {ty B p : Nat} {v : Value} {K : Kq} {w : World} (h : RpAt ty B p v K w) : KsAt w.heap.size v K w := rw_own h.own
/-- Another row, the call's own, laid into the box. -/
theorem RpAt.put {ty B p : Nat} {v v' : Value} {K K' : Kq} {w w1 : World} (h : RpAt ty B p v K w) (hk : Kept (fun k => v.ownBlock = some k) w w1) (ho : w1.ownsRow (p + 1) 9 1 v' K'.length (rowC txc K')) (hv : ∀ k, v'.ownBlock = some k → v.ownBlock = some k ∨ w.heap.size ≤ k) (hl : K'.length ≤ 200) : RpAt ty B p v' K' (w1.setCell ⟨p, 0, none⟩ v') ∧ Kept (rpM p v) w (w1.setCell ⟨p, 0, none⟩ v') ∧ ∀ k, rpM p v' k → rpM p v k ∨ w.heap.size ≤ k := by
  have hp := (Array.getElem?_eq_some_iff.1 h.b).1
  have hb1 : w1.heap[p]? = some (.cells #[v] ty (0, 0)) := by
    rw [hk.block p hp (fun e => by have := (World.ownsRow.lt h.own p e).1; omega)]
    exact h.b
  have ks := set_kept' w1 p 0 v'
  refine ⟨⟨by have := block_set (j := 0) v' hb1; simpa using this, own_kept ho ks (fun k e hf => by have := (World.ownsRow.lt ho k e).1; omega), h.lt, hl⟩, ?_, fun k e => ?_⟩
  · have k1 : Kept (rpM p v) w w1 := ⟨hk.os, hk.tape, hk.output, hk.size, fun k hk' hn => hk.block k hk' (fun e => hn (.inr e))⟩
    exact k1.trans ks (fun i e => .inl (.inl e))
  · rcases e with e | e
    · exact .inl (.inl e)
    · rcases hv k e with e | e
      · exact .inl (.inr e)
      · exact .inr e
theorem tx_ow {base n : Nat} {v : Value} {l : Kq} {w : World} (x : Tx) (ho : w.ownsRow base 9 1 v n (rowC txc l)) (hb : base ≤ w.heap.size) (hl : n < 1048576) :
    Ow base 9 1 v n (rowC txc l) (w.heap.size + 1) (.slice (some ⟨w.heap.size, 0, none⟩) 1 1) 1 (rowC txc [x]) (w.alloc (.cells #[.string (bs x)] 9)) :=
  ⟨World.ownsRow.alloc ho _, row_one txc 1 txc_len x 9 w (fun j u hj => block_cell (heap_alloc_new w _) (by simpa using hj)), rowC_cells txc txc_one _, Nat.le_trans hb (by simp), by omega⟩
set_option maxHeartbeats 800000 in
set_option maxRecDepth 100000 in
theorem send9 {B p : Nat} {v : Value} {K : Kq} {w : World} (s : Tx) (h : RpAt 29 B p v K w) : Calls Try.prog 9 #[.pointer (some ⟨p, 0, none⟩), .string (bs s)] w fun e w' => e = .returned (.bool (sendB K)) ∧ ∃ v', RpAt 29 B p v' (sendF s K) w' ∧ Kept (rpM p v) w w' ∧ ∀ i, rpM p v' i → rpM p v i ∨ w.heap.size ≤ i := by
  obtain ⟨i0, hin, hi0, hi1, hi2⟩ := info_parts info9
  obtain ⟨sa, sc, rfl, hla, hma⟩ := h.row.shape
  have H0 : Hid (RpAt 29 B p (.slice sa K.length sc) K w) := h
  clear h
  have c0 := H0.out.cell
  by_cases hl : (200 : Int) ≤ K.length
  · have HS : Hid (sendB K = false ∧ sendF s K = K) := by
      have h9 : ¬ K.length < 200 := by omega
      exact ⟨by simp [sendB]; omega, by unfold sendF; rw [if_neg h9]⟩
    go_enter Try.func9, Try.ntmps9
    go_wp2_with fail
    go_ret
    refine ⟨by rw [HS.out.1]; rfl, .slice sa K.length sc, ?_, Kept.refl _ _, fun i e => .inl e⟩
    rw [HS.out.2]
    exact H0.out
  · have hll : K.length < 200 := by omega
    have HS : Hid (sendB K = true ∧ sendF s K = K ++ [s]) := ⟨by simp [sendB]; omega, by unfold sendF; rw [if_pos hll]⟩
    have HOw : Hid (Ow (p + 1) 9 1 (.slice sa K.length sc) K.length (rowC txc K) (w.heap.size + 1) (.slice (some ⟨w.heap.size, 0, none⟩) 1 1) 1 (rowC txc [s]) (w.alloc (.cells #[.string (bs s)] 9))) := tx_ow s H0.out.own (by have := (Array.getElem?_eq_some_iff.1 H0.out.b).1; omega) (by omega)
    go_enter Try.func9, Try.ntmps9
    go_wp2_with (at_builtin; refine wpList_append_rw HOw.out Try.underlying27 hin hi0 hi1 hi2 rfl (by decide) (by decide) (.tmp 15) (.tmp 17) rfl rfl rfl rfl ?_)
    intro v1 w1 hown hg hat
    obtain ⟨s1, c1, hv1, -, -, -, -⟩ := rw_own hown
    subst hv1
    obtain ⟨v1, hv1⟩ : ∃ v1, Value.slice s1 (K.length + 1) c1 = v1 := ⟨_, rfl⟩
    rw [hv1] at hown hat
    have HP : Hid (RpAt 29 B p v1 (K ++ [s]) (w1.setCell ⟨p, 0, none⟩ v1) ∧ Kept (rpM p (.slice sa K.length sc)) w (w1.setCell ⟨p, 0, none⟩ v1) ∧ ∀ k, rpM p v1 k → rpM p (.slice sa K.length sc) k ∨ w.heap.size ≤ k) := by
      refine H0.out.put (K' := K ++ [s]) ?_ (by rw [rowC_append, List.length_append]; exact hown) (fun k e => ?_) (by simp; omega)
      · exact (Kept.of_below (F := fun k => (Value.slice sa K.length sc).ownBlock = some k) (al _)).trans (grown_kept hg) (fun _ e => .inl e)
      · rcases hat with e1 | e1
        · rw [e1] at e; exact .inl e
        · rw [e1] at e
          injection e with e
          subst e
          right
          simp
    have c9 : w1.cell? ⟨p, 0, none⟩ = some (.slice sa K.length sc) := by
      have h1 := (Array.getElem?_eq_some_iff.1 H0.out.b).1
      have h2 : (w.alloc (.cells #[.string (bs s)] 9)).cell? ⟨p, 0, none⟩ = some (.slice sa K.length sc) := by rw [(bcell (al (W := w) _)).1 _ _ h1]; exact c0
      exact (grown_kept hg).cell h2 (fun e => by have := (World.ownsRow.lt H0.out.own p e).1; omega)
    have f1 : w1.frozen? ⟨p, 0, none⟩ = false := by
      have h1 := (Array.getElem?_eq_some_iff.1 H0.out.b).1
      have h2 : w1.heap[p]? = some (.cells #[.slice sa K.length sc] 29 (0, 0)) := by
        rw [(grown_kept hg).block p (by simp; omega) (fun e => by have := (World.ownsRow.lt H0.out.own p e).1; omega), (al (W := w) _).block p h1]
        exact H0.out.b
      exact block_frozen h2 0
    clear hown hg hat HOw c0 H0
    subst hv1
    go_wp2_with fail
    go_ret
    exact ⟨by rw [HS.out.1]; rfl, _, by rw [HS.out.2]; exact HP.out.1, HP.out.2⟩
end Go.Proofs.Ytfpckkkicjndlaa
