/-
  How often each text is under way: a Go map of counts beside the post.
-/
import Derived.Test.YtfpckkkicjndlaaGs
import Derived.Test.YtfpckkkicjndlaaAw
namespace Go.Proofs.Ytfpckkkicjndlaa
open Go.RowKit Go.Sort

abbrev Cn := Tx × Int
def ky (x : Cn) : Tx := x.1
def vlc (x : Cn) : Value := .int .i64 x.2
def cnt (K : Kq) (q : Tx) : Int := (K.count q : Int)
def upd (N : Tx → Int) (k : Tx) (v : Int) : Tx → Int := fun q => if q = k then v else N q
/-- The map in the block b tells N of each text. -/
def Cm (b : Nat) (N : Tx → Int) (w : World) : Prop := ∃ m : List Cn, Gs.At ky vlc b m w ∧ (m.map ky).Nodup ∧ (∀ x ∈ m, x.2 = N x.1) ∧ ∀ k, N k ≠ 0 → k ∈ m.map ky
theorem Cm.kept {b : Nat} {N : Tx → Int} {w w' : World} {F : Nat → Prop} (h : Cm b N w) (hk : Kept F w w') (hF : ¬ F b) : Cm b N w' := by
  obtain ⟨m, h1, h2⟩ := h
  exact ⟨m, h1.kept hk hF, h2⟩
theorem Cm.lt {b : Nat} {N : Tx → Int} {w : World} (h : Cm b N w) : b < w.heap.size := by
  obtain ⟨m, h1, h2⟩ := h
  exact h1.lt
theorem Cm.on {b : Nat} {N : Tx → Int} {w w' : World} (h : Cm b N w) (hb : Below w.heap.size w w') : Cm b N w' := h.kept (F := fun _ => False) (Kept.of_below hb) (fun h => h)
theorem cm_new (w : World) : Cm w.heap.size (cnt []) (w.alloc (.map #[] 0)) := ⟨[], Gs.At.new w, by simp, by simp, fun k h => absurd rfl h⟩
theorem find_key {k : Tx} : ∀ {m : List Cn}, m.find? (Gs.isK ky k) = none → k ∉ m.map ky
  | [], _ => by simp
  | x :: m, h => by
    simp only [List.find?_cons] at h
    split at h
    · cases h
    · rename_i e
      simp only [List.map_cons, List.mem_cons, not_or]
      exact ⟨fun e2 => by simp [Gs.isK, e2] at e, find_key h⟩
theorem find_has {k : Tx} {x : Cn} {m : List Cn} (h : m.find? (Gs.isK ky k) = some x) : x ∈ m ∧ x.1 = k := ⟨List.mem_of_find?_eq_some h, by have h1 := List.find?_some h; unfold Gs.isK ky at h1; exact of_decide_eq_true h1⟩
theorem Cm.look {b : Nat} {N : Tx → Int} {w : World} (h : Cm b N w) (k : Tx) : (Instr.lookup 39 (.map (some b)) (.string (bs k)) false).run Try.prog w = .ok (.int .i64 (N k)) w := by
  obtain ⟨m, ⟨es, cl, h1, h2, _⟩, hn, hv, hz⟩ := h
  cases hg : m.find? (Gs.isK ky k) with
  | none =>
    have h0 : N k = 0 := by
      by_cases e : N k = 0
      · exact e
      · exact absurd (hz k e) (find_key hg)
    rw [h0]
    have := Gs.run_findK (key := ky) (val := vlc) k h2 w
    rw [Gs.idx_none (i := 0) hg] at this
    have hc := Gs.run_check k
    unfold Gs.kx at this hc
    simp [Instr.lookup, run_underlying Try.underlying39, MapKept.run_getObj_map h1, hc, this, Result.andThen]
  | some x =>
    obtain ⟨j, g1, _⟩ := Gs.idx_some (i := 0) hg
    obtain ⟨hx, hk⟩ := find_has hg
    have hv' := hv x hx
    rw [hk] at hv'
    have := Gs.run_findK (key := ky) (val := vlc) k h2 w
    rw [g1] at this
    have hc := Gs.run_check k
    unfold Gs.kx at this hc
    simp [Instr.lookup, run_underlying Try.underlying39, MapKept.run_getObj_map h1, hc, this, Result.andThen, vlc, hv']
theorem Cm.put {b : Nat} {N : Tx → Int} {w : World} (h : Cm b N w) (k : Tx) (v : Int) : ∃ w', (Instr.mapUpdate 39 (.map (some b)) (.string (bs k)) (.int .i64 v)).run Try.prog w = .ok () w' ∧ Cm b (upd N k v) w' ∧ Kept (fun i => i = b) w w' := by
  obtain ⟨m, hat, hn, hv, hz⟩ := h
  cases hg : m.find? (Gs.isK ky k) with
  | none =>
    obtain ⟨w', hr, ha, hk, _⟩ := Gs.run_upd0 (key := ky) (val := vlc) Try.underlying39 hat (k, v) hg
    have hnk := find_key hg
    refine ⟨w', hr, ⟨m ++ [(k, v)], ha, ?_, fun x hx => ?_, fun q hq => ?_⟩, hk⟩
    · rw [List.map_append, List.nodup_append]
      refine ⟨hn, by simp, fun a ha1 c hc => ?_⟩
      simp [ky] at hc
      subst hc
      exact fun e => hnk (e ▸ ha1)
    · rcases List.mem_append.1 hx with hx | hx
      · have : x.1 ≠ k := fun e => hnk (List.mem_map.2 ⟨x, hx, e⟩)
        unfold upd
        rw [if_neg this]
        exact hv x hx
      · simp at hx
        subst hx
        simp [upd]
    · unfold upd at hq
      by_cases e : q = k
      · subst e; simp [ky]
      · rw [if_neg e] at hq
        rw [List.map_append]
        exact List.mem_append_left _ (hz q hq)
  | some x =>
    obtain ⟨w', j, hr, hj, ha, hk, _⟩ := Gs.run_upd1 (key := ky) (val := vlc) Try.underlying39 hat (k, v) hg
    obtain ⟨hx, hxk⟩ := find_has hg
    have hmap : (m.set j (k, v)).map ky = m.map ky := by
      rw [List.map_set]
      refine Gs.set_same ?_
      rw [List.getElem?_map, hj]
      simp [ky, hxk]
    refine ⟨w', hr, ⟨m.set j (k, v), ha, by rw [hmap]; exact hn, fun y hy => ?_, fun q hq => ?_⟩, hk⟩
    · obtain ⟨i, hi⟩ := List.getElem?_of_mem hy
      rw [List.getElem?_set] at hi
      by_cases e : j = i
      · subst e
        have hjl := (List.getElem?_eq_some_iff.1 hj).1
        rw [if_pos rfl, if_pos hjl] at hi
        injection hi with hi
        subst hi
        simp [upd]
      · rw [if_neg e] at hi
        have hne : y.1 ≠ k := fun e2 => by
          have hil := (List.getElem?_eq_some_iff.1 hi).1
          have hjl := (List.getElem?_eq_some_iff.1 hj).1
          have a1 : (m.map ky)[i]'(by simpa using hil) = (m.map ky)[j]'(by simpa using hjl) := by
            rw [List.getElem_map, List.getElem_map, (List.getElem?_eq_some_iff.1 hi).2, (List.getElem?_eq_some_iff.1 hj).2]
            show y.1 = x.1
            rw [e2, hxk]
          exact e ((List.getElem_inj hn).1 a1).symm
        unfold upd
        rw [if_neg hne]
        exact hv y (List.mem_of_getElem? hi)
    · rw [hmap]
      unfold upd at hq
      by_cases e : q = k
      · subst e; exact List.mem_map.2 ⟨x, hx, hxk⟩
      · rw [if_neg e] at hq
        exact hz q hq
theorem cnt_up (K : Kq) (t : Tx) : upd (cnt K) t (cnt K t + 1) = cnt (K ++ [t]) := by
  funext q
  unfold upd cnt
  by_cases e : q = t
  · subst e; simp
  · rw [if_neg e, List.count_append, List.count_singleton]
    simp [Ne.symm e]
theorem cnt_down {K : Kq} {i : Nat} (hi : i < K.length) : upd (cnt K) (K.getD i []) (cnt K (K.getD i []) - 1) = cnt (K.eraseIdx i) := by
  have e1 : K.getD i [] = K[i] := by simp [List.getD, hi]
  have e2 : K = K.take i ++ K[i] :: K.drop (i + 1) := by rw [List.getElem_cons_drop, List.take_append_drop]
  rw [erase_parts, e1]
  generalize K[i] = x at *
  funext q
  have e3 : cnt K q = cnt (K.take i ++ K.drop (i + 1)) q + (if q = x then 1 else 0) := by
    unfold cnt
    conv => lhs; rw [e2]
    rw [List.count_append, List.count_append, List.count_cons]
    by_cases e : q = x
    · subst e; simp; omega
    · simp [e, Ne.symm e]
  unfold upd
  by_cases e : q = x
  · subst e
    rw [if_pos rfl, e3, if_pos rfl]
    omega
  · rw [if_neg e, e3, if_neg e]
    omega
theorem cnt_pos {K : Kq} {i : Nat} (hi : i < K.length) : 0 < cnt K (K.getD i []) := by
  have e1 : K.getD i [] = K[i] := by simp [List.getD, hi]
  have : 0 < K.count (K.getD i []) := List.count_pos_iff.2 (by rw [e1]; exact List.getElem_mem _)
  unfold cnt
  omega
theorem cnt_le (K : Kq) (q : Tx) : 0 ≤ cnt K q ∧ cnt K q ≤ K.length := by
  have := List.count_le_length (a := q) (l := K)
  unfold cnt
  omega
/-- The law's own way to the place. -/
theorem tmod_two {x : Int} {n : Nat} (h : 0 < n) : (x.tmod n + n).tmod n = (pickN x n : Int) := by
  obtain ⟨t1, t2⟩ := tmod_in x h
  rw [← tmod_pick h]
  by_cases hr : x.tmod n < 0
  · rw [if_pos hr, Int.tmod_eq_of_lt (by omega) (by omega)]
  · rw [if_neg hr, Int.tmod_eq_emod_of_nonneg (by omega), Int.add_emod_right, Int.emod_eq_of_lt (by omega) (by omega)]
end Go.Proofs.Ytfpckkkicjndlaa
