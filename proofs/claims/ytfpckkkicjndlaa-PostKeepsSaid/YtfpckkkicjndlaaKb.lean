/-
  The post and the map of counts beside it.
-/
import Derived.Test.YtfpckkkicjndlaaCt
import Derived.Test.YtfpckkkicjndlaaFi
namespace Go.Proofs.Ytfpckkkicjndlaa
open Go.RowKit Go.Sort

structure Ka (w : World) (p mb : Nat) (K : Kq) (N : Tx → Int) (W : World) : Prop where
  pz : Pz PoAt w p K (fun k => k = mb) W
  cm : Cm mb N W
  lo : w.heap.size ≤ mb
structure Kb (w : World) (p mb xb : Nat) (A : Ac) (K : Kq) (N : Tx → Int) (W : World) : Prop where
  pz : Pz PoAt w p K (fun k => k = mb ∨ k = xb) W
  cm : Cm mb N W
  lo : w.heap.size ≤ mb
  ne : xb ≠ mb
  xl : w.heap.size ≤ xb
  box : W.heap[xb]? = some (.cells #[.int .i64 A.k, .int .i64 A.x, .string (bs A.t)] 31 (0, 0))
theorem Kb.out {w W : World} {p mb xb : Nat} {A : Ac} {K : Kq} {N : Tx → Int} (h : Kb w p mb xb A K N W) : Ka w p mb K N W := ⟨h.pz.less (fun _ e => .inl e), h.cm, h.lo⟩
theorem Ka.on {w W W' : World} {p mb : Nat} {K : Kq} {N : Tx → Int} (h : Ka w p mb K N W) (hb : Below W.heap.size W W') : Ka w p mb K N W' := ⟨h.pz.on postIfo hb, h.cm.on hb, h.lo⟩
theorem Kb.on {w W W' : World} {p mb xb : Nat} {A : Ac} {K : Kq} {N : Tx → Int} (h : Kb w p mb xb A K N W) (hb : Below W.heap.size W W') : Kb w p mb xb A K N W' := ⟨h.pz.on postIfo hb, h.cm.on hb, h.lo, h.ne, h.xl, by rw [hb.block xb (Array.getElem?_eq_some_iff.1 h.box).1]; exact h.box⟩
theorem Ka.boxed {w W : World} {p mb : Nat} {K : Kq} {N : Tx → Int} (h : Ka w p mb K N W) (A : Ac) : Kb w p mb W.heap.size A K N (W.alloc (.cells #[.int .i64 A.k, .int .i64 A.x, .string (bs A.t)] 31)) :=
  ⟨h.pz.more postIfo (al _) (fun k e => by rcases e with e | e; exact .inl e; right; subst e; simp), h.cm.on (al _), h.lo, fun e => by have := h.cm.lt; omega, h.pz.bel.size, heap_alloc_new W _⟩
theorem Kb.three {w W : World} {p mb xb : Nat} {A : Ac} {K : Kq} {N : Tx → Int} (h : Kb w p mb xb A K N W) : W.cell? ⟨xb, 0, none⟩ = some (.int .i64 A.k) ∧ W.cell? ⟨xb, 1, none⟩ = some (.int .i64 A.x) ∧ W.cell? ⟨xb, 2, none⟩ = some (.string (bs A.t)) := ⟨block_cell h.box rfl, block_cell h.box rfl, block_cell h.box rfl⟩
theorem Kb.step {w W W' : World} {p mb xb : Nat} {A : Ac} {K K' : Kq} {N : Tx → Int} (h : Kb w p mb xb A K N W) (hp : Pz PoAt w p K' (fun k => k = mb ∨ k = xb) W') (hk : Kp (fun k => k = mb ∨ k = xb) w W W') : Kb w p mb xb A K' N W' :=
  ⟨hp, h.cm.kept hk (fun e => e.1 (.inl rfl)), h.lo, h.ne, h.xl, hk.block (.inl (.inr rfl)) h.box⟩
theorem Kb.put {w W : World} {p mb xb : Nat} {A : Ac} {K : Kq} {N : Tx → Int} (h : Kb w p mb xb A K N W) (q : Tx) (v : Int) : ∃ w', (Instr.mapUpdate 39 (.map (some mb)) (.string (bs q)) (.int .i64 v)).run Try.prog W = .ok () w' ∧ Kb w p mb xb A K (upd N q v) w' := by
  obtain ⟨w', hr, hc, hk⟩ := h.cm.put q v
  refine ⟨w', hr, ⟨h.pz.own postIfo ⟨hk.os, hk.tape, hk.output, hk.size, fun k hk' hn => hk.block k hk' (fun e => hn (.inl e))⟩ (fun k e => by rcases e with e | e; rw [e]; exact h.lo; rw [e]; exact h.xl), hc, h.lo, h.ne, h.xl, ?_⟩⟩
  rw [hk.block xb (Array.getElem?_eq_some_iff.1 h.box).1 h.ne]
  exact h.box
theorem Ka.put {w W : World} {p mb : Nat} {K : Kq} {N : Tx → Int} (h : Ka w p mb K N W) (q : Tx) (v : Int) : ∃ w', (Instr.mapUpdate 39 (.map (some mb)) (.string (bs q)) (.int .i64 v)).run Try.prog W = .ok () w' ∧ Ka w p mb K (upd N q v) w' ∧ Kept (fun i => i = mb) W w' := by
  obtain ⟨w', hr, hc, hk⟩ := h.cm.put q v
  exact ⟨w', hr, ⟨h.pz.own postIfo hk (fun k e => by rw [e]; exact h.lo), hc, h.lo⟩, hk⟩
section
variable {w W : World} {p mb xb : Nat} {A : Ac} {K : Kq} {N : Tx → Int}
theorem kb_send (s : Tx) (h : Kb w p mb xb A K N W) : Calls Try.prog 8 #[.pointer (some ⟨p, 0, none⟩), .string (bs s)] W fun e w' => e = .returned (.bool (sendB K)) ∧ Kb w p mb xb A (sendF s K) N w' := by
  refine (pz_send postIfo s h.pz).mono ?_
  rintro e w' ⟨rfl, h1, h2⟩
  exact ⟨rfl, h.step h1 h2⟩
theorem pzt10 (x : Int) {F : Nat → Prop} (h : Pz PoAt w p K F W) : Calls Try.prog 10 #[.pointer (some ⟨p, 0, none⟩), .int .i64 x] W fun e w' => e = .returned (.tuple #[.string (bs (atF x K)), .bool (someB K)]) ∧ Pz PoAt w p (takeF x K) F w' ∧ Kp F w W w' := by
  obtain ⟨B, M, ⟨v, rfl, hm⟩, hB, hM⟩ := h.ta
  refine (take10 x hm).mono ?_
  rintro e w' ⟨rfl, v', hm', hk, hn⟩
  exact ⟨rfl, pz_post postIfo h ⟨v, rfl, hm⟩ hB hM ⟨v', rfl, hm'⟩ hk hn⟩
theorem pzt12 (x : Int) {F : Nat → Prop} (h : Pz PoAt w p K F W) : Calls Try.prog 12 #[.pointer (some ⟨p, 0, none⟩), .int .i64 x] W fun e w' => e = .returned (.bool (someB K)) ∧ Pz PoAt w p (takeF x K) F w' ∧ Kp F w W w' := by
  obtain ⟨B, M, ⟨v, rfl, hm⟩, hB, hM⟩ := h.ta
  refine (lose12 x hm).mono ?_
  rintro e w' ⟨rfl, v', hm', hk, hn⟩
  exact ⟨rfl, pz_post postIfo h ⟨v, rfl, hm⟩ hB hM ⟨v', rfl, hm'⟩ hk hn⟩
theorem pzt13 (x : Int) {F : Nat → Prop} (h : Pz PoAt w p K F W) : Calls Try.prog 13 #[.pointer (some ⟨p, 0, none⟩), .int .i64 x] W fun e w' => e = .returned (.bool (doubB K)) ∧ Pz PoAt w p (doubF x K) F w' ∧ Kp F w W w' := by
  obtain ⟨B, M, ⟨v, rfl, hm⟩, hB, hM⟩ := h.ta
  refine (doub13 x hm).mono ?_
  rintro e w' ⟨rfl, v', hm', hk, hn⟩
  exact ⟨rfl, pz_post postIfo h ⟨v, rfl, hm⟩ hB hM ⟨v', rfl, hm'⟩ hk hn⟩
theorem kb_take (x : Int) (h : Kb w p mb xb A K N W) : Calls Try.prog 10 #[.pointer (some ⟨p, 0, none⟩), .int .i64 x] W fun e w' => e = .returned (.tuple #[.string (bs (atF x K)), .bool (someB K)]) ∧ Kb w p mb xb A (takeF x K) N w' := by
  refine (pzt10 x h.pz).mono ?_
  rintro e w' ⟨rfl, h1, h2⟩
  exact ⟨rfl, h.step h1 h2⟩
theorem kb_lose (x : Int) (h : Kb w p mb xb A K N W) : Calls Try.prog 12 #[.pointer (some ⟨p, 0, none⟩), .int .i64 x] W fun e w' => e = .returned (.bool (someB K)) ∧ Kb w p mb xb A (takeF x K) N w' := by
  refine (pzt12 x h.pz).mono ?_
  rintro e w' ⟨rfl, h1, h2⟩
  exact ⟨rfl, h.step h1 h2⟩
theorem kb_doub (x : Int) (h : Kb w p mb xb A K N W) : Calls Try.prog 13 #[.pointer (some ⟨p, 0, none⟩), .int .i64 x] W fun e w' => e = .returned (.bool (doubB K)) ∧ Kb w p mb xb A (doubF x K) N w' := by
  refine (pzt13 x h.pz).mono ?_
  rintro e w' ⟨rfl, h1, h2⟩
  exact ⟨rfl, h.step h1 h2⟩
theorem kb_all (h : Kb w p mb xb A K N W) : Calls Try.prog 16 #[.pointer (some ⟨p, 0, none⟩)] W fun e w' => ∃ v', e = .returned v' ∧ KsAt w'.heap.size v' K w' ∧ Kb w p mb xb A K N w' := by
  refine (pz_all postIfo h.pz).mono ?_
  rintro e w' ⟨v', rfl, h1, -, -, hb⟩
  exact ⟨v', rfl, h1, h.on hb⟩
theorem ka_all (h : Ka w p mb K N W) : Calls Try.prog 16 #[.pointer (some ⟨p, 0, none⟩)] W fun e w' => ∃ v', e = .returned v' ∧ KsAt w'.heap.size v' K w' ∧ (∀ k, v'.ownBlock = some k → k ≠ mb) ∧ Ka w p mb K N w' := by
  refine (pz_all postIfo h.pz).mono ?_
  rintro e w' ⟨v', rfl, h1, h2, -, hb⟩
  exact ⟨v', rfl, h1, fun k e hk => by have := h2 k e; have := h.cm.lt; omega, h.on hb⟩
end
theorem ka_start {w W : World} {p : Nat} (h : Pz PoAt w p [] nF W) : Ka w p W.heap.size [] (cnt []) (W.alloc (.map #[] 0)) :=
  ⟨h.more postIfo (al _) (fun k e => .inr (by subst e; simp)), cm_new W, h.bel.size⟩
/-- A walk over the map: nothing that it tells is more or less than zero. -/
theorem rg_zero {w W : World} {p mb : Nat} {K : Kq} {N : Tx → Int} (h : Ka w p mb K N W) (hz : ∀ q, N q = 0) : ∃ m, (∀ x ∈ m, (x : Cn).2 = 0) ∧ ∃ w', (Instr.range 39 (.map (some mb))).run Try.prog W = .ok (.pointer (some ⟨W.heap.size, 0, none⟩)) w' ∧ Gs.Rg ky vlc mb W.heap.size m m w' ∧ Below w.heap.size w w' := by
  obtain ⟨m, hat, hn, hv, _⟩ := h.cm
  obtain ⟨w', hr, hg, hgr, _⟩ := Gs.run_range Try.underlying39 hat
  refine ⟨m, fun x hx => by rw [hv x hx, hz], w', hr, hg, h.pz.bel.trans ?_⟩
  exact ⟨hgr.os, hgr.tape, hgr.output, hgr.size, fun k hk => hgr.block k (Nat.lt_of_lt_of_le hk h.pz.bel.size) (by simp)⟩
theorem ks_kept {v : Value} {K : Kq} {w w' : World} {mb : Nat} (h : KsAt w.heap.size v K w) (hv : ∀ k, v.ownBlock = some k → k ≠ mb) (hk : Kept (fun i => i = mb) w w') : KsAt w'.heap.size v K w' := by
  obtain ⟨ao, cap, rfl, hl, hm, hc, h⟩ := h
  refine ⟨ao, cap, rfl, hl, hm, hc, fun h0 => ?_⟩
  obtain ⟨b, off, rfl, hb, hcell⟩ := h h0
  exact ⟨b, off, rfl, fun h1 => Nat.lt_of_lt_of_le (hb h1) hk.size, fun j u hj => hk.cell (hcell j u hj) (hv b rfl)⟩
def less (K : Kq) (i : Nat) (q : Tx) : Int := cnt K q - cnt (K.take i) q
theorem less_zero (K : Kq) : less K 0 = cnt K := by funext q; simp [less, cnt]
theorem less_all (K : Kq) (q : Tx) : less K K.length q = 0 := by simp [less]
theorem less_next {K : Kq} {i : Nat} (hi : i < K.length) : upd (less K i) (K.getD i []) (less K i (K.getD i []) - 1) = less K (i + 1) := by
  have e1 : K.getD i [] = K[i] := by simp [List.getD, hi]
  funext q
  unfold upd less
  rw [List.take_succ_eq_append_getElem hi, e1]
  generalize K[i] = x at *
  by_cases e : q = x
  · subst e
    rw [if_pos rfl]
    unfold cnt
    rw [List.count_append, List.count_singleton_self]
    omega
  · rw [if_neg e]
    unfold cnt
    rw [List.count_append, List.count_singleton]
    simp [Ne.symm e]
theorem less_in (K : Kq) (i : Nat) (q : Tx) : -(K.length : Int) ≤ less K i q ∧ less K i q ≤ K.length := by
  have h1 := cnt_le K q
  have h2 := cnt_le (K.take i) q
  have h3 : (K.take i).length ≤ K.length := by simp; omega
  unfold less
  omega
/-- A count turned by d. -/
theorem Kb.turn {w W : World} {p mb xb : Nat} {A : Ac} {K K' : Kq} (h : Kb w p mb xb A K' (cnt K) W) (q : Tx) (d : Int) (hup : upd (cnt K) q (cnt K q + d) = cnt K') (hl : K.length ≤ 200) : ∃ y w', 0 ≤ y ∧ y ≤ 200 ∧ y = cnt K q ∧ (Instr.lookup 39 (.map (some mb)) (.string (bs q)) false).run Try.prog W = .ok (.int .i64 y) W ∧ (Instr.mapUpdate 39 (.map (some mb)) (.string (bs q)) (.int .i64 (y + d))).run Try.prog W = .ok () w' ∧ (Instr.lookup 39 (.map (some mb)) (.string (bs q)) false).run Try.prog w' = .ok (.int .i64 (y + d)) w' ∧ Kb w p mb xb A K' (cnt K') w' := by
  obtain ⟨w', hr, hb⟩ := h.put q (cnt K q + d)
  have h1 := cnt_le K q
  refine ⟨cnt K q, w', h1.1, by omega, rfl, h.cm.look q, hr, ?_, by rw [hup] at hb; exact hb⟩
  have := hb.cm.look q
  rw [show upd (cnt K) q (cnt K q + d) q = cnt K q + d from by simp [upd]] at this
  exact this
theorem take_cnt {K : Kq} (x : Int) (h : 0 < K.length) : upd (cnt K) (atF x K) (cnt K (atF x K) + -1) = cnt (takeF x K) := cnt_down (pick_lt h)
theorem take_pos {K : Kq} (x : Int) (h : 0 < K.length) : 0 < cnt K (atF x K) := cnt_pos (pick_lt h)
end Go.Proofs.Ytfpckkkicjndlaa
