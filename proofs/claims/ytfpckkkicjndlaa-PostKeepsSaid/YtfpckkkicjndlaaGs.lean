/-
  A Go map whose keys are texts, whatever its values: what its calls answer and leaves; a walk over one.
-/
import Derived.Test.YtfpckkkicjndlaaRu
import Derived.WideKeyRuns
import Derived.Maps.Range
import Derived.RangeFuncNested
namespace Go.Proofs.Ytfpckkkicjndlaa
open Go.RowKit
namespace Gs

def kx (k : Tx) : Value := .string (bs k)
theorem bs_eqb (a b : Tx) : (bs a == bs b) = decide (a = b) := by
  have h : (bs a == bs b) = (a.toArray == b.toArray) := rfl
  rw [h]
  by_cases e : a = b
  · subst e; simp
  · simp [e]
theorem sameBits_kx (n : Nat) (k : Tx) : Instr.sameBits (n + 1) (kx k) (kx k) = true := by
  simp [kx, Instr.sameBits, bs_eqb]
theorem run_check (k : Tx) (em : Bool) (w : World) : (Instr.checkKey em 10000 9 (kx k)).run Try.prog w = .ok () w := by
  unfold kx
  unfold Instr.checkKey
  simp [go_sem]
theorem set_kb {w : World} {b : Nat} {o o' : Obj} (h : w.heap[b]? = some o) : Kept (fun i => i = b) w { w with heap := w.heap.setIfInBounds b o' } := ⟨rfl, rfl, rfl, by simp, fun k _ hk => (MapKept.heap_set h).2 k hk⟩

theorem set_same {β : Type} {l : List β} {j : Nat} {a : β} (h : l[j]? = some a) : l.set j a = l := by
  refine List.ext_getElem? (fun i => ?_)
  rw [List.getElem?_set]
  split
  · rename_i e
    subst e
    rw [if_pos (List.getElem?_eq_some_iff.1 h).1, h]
  · rfl

section
variable {α : Type} (key : α → Tx) (val : α → Value)
/-- The entries es hold the things m. -/
def Ek (es : List MapEntry) (m : List α) : Prop := es.map (fun e => (e.key, e.val)) = m.map (fun x => (kx (key x), val x))
def isK (k : Tx) (x : α) : Bool := decide (key x = k)
def idx (k : Tx) : List α → Nat → Option (Nat × α)
  | [], _ => none
  | x :: m, i => if k = key x then some (i, x) else idx k m (i + 1)
variable {key val}
theorem Ek.len {es : List MapEntry} {m : List α} (h : Ek key val es m) : es.length = m.length := by
  have := congrArg List.length h
  simpa using this
theorem idx_none {k : Tx} : ∀ {m : List α} {i : Nat}, m.find? (isK key k) = none → idx key k m i = none
  | [], _, _ => rfl
  | x :: m, i, h => by
    simp only [List.find?_cons] at h
    split at h
    · cases h
    · rename_i e
      unfold idx
      rw [if_neg (fun e2 => by simp [isK, e2] at e)]
      exact idx_none h
theorem idx_some {k : Tx} {x : α} : ∀ {m : List α} {i : Nat}, m.find? (isK key k) = some x → ∃ j, idx key k m i = some (i + j, x) ∧ m[j]? = some x ∧ key x = k
  | [], _, h => by cases h
  | y :: m, i, h => by
    simp only [List.find?_cons] at h
    split at h
    · rename_i e
      injection h with h
      subst h
      have e' : key y = k := by simpa [isK] using e
      exact ⟨0, by unfold idx; rw [if_pos e'.symm]; rfl, rfl, e'⟩
    · rename_i e
      obtain ⟨j, h1, h2, h3⟩ := idx_some (i := i + 1) h
      refine ⟨j + 1, ?_, h2, h3⟩
      unfold idx
      rw [if_neg (fun e2 => by simp [isK, e2] at e), h1]
      congr 2
      omega
theorem run_now {d : TypeDesc} (hd : Try.prog.underlying 9 = some d) (k : Tx) : ∀ (es : List MapEntry) (m : List α) (i : Nat), Ek key val es m → Instr.findNow d (kx k) es i = some ((idx key k m i).map fun p => (p.1, val p.2))
  | [], [], i, _ => rfl
  | [], x :: m, _, h => by cases h
  | e :: es, [], _, h => by cases h
  | e :: es, x :: m, i, h => by
    simp only [Ek, List.map_cons, List.cons.injEq, Prod.mk.injEq] at h
    obtain ⟨⟨h1, h2⟩, h3⟩ := h
    have hs : Instr.sameNow d (kx k) (kx (key x)) = some (decide (k = key x)) := by
      rw [Try.underlying9] at hd
      injection hd with hd
      subst hd
      simp [Instr.sameNow, kx, bs_eqb]
    unfold Instr.findNow idx
    rw [h1, hs]
    by_cases e1 : k = key x
    · rw [if_pos e1]
      simp [e1, h2]
    · rw [if_neg e1]
      simp [e1, run_now hd k es m (i + 1) h3]
theorem run_findK (k : Tx) {es : List MapEntry} {m : List α} (h : Ek key val es m) (w : World) : (Instr.findKey 9 (kx k) es).run Try.prog w = .ok ((idx key k m 0).map fun p => (p.1, val p.2)) w :=
  MapKept.run_findKey Try.underlying9 (run_now Try.underlying9 k es m 0 h)

variable (key val)
/-- The map in the block b holds the things m, in the order in which they were laid. -/
def At (b : Nat) (m : List α) (w : World) : Prop := ∃ es clock, w.heap[b]? = some (.map es clock) ∧ Ek key val es.toList m ∧ (es.toList.map (·.born)).Nodup ∧ ∀ e ∈ es.toList, e.born < clock
variable {key val}
theorem At.kept {b : Nat} {m : List α} {w w' : World} {F : Nat → Prop} (h : At key val b m w) (hk : Kept F w w') (hF : ¬ F b) : At key val b m w' := by
  obtain ⟨es, cl, h1, h2⟩ := h
  exact ⟨es, cl, by rw [hk.block b (Array.getElem?_eq_some_iff.1 h1).1 hF]; exact h1, h2⟩
theorem At.on {b : Nat} {m : List α} {w w' : World} (h : At key val b m w) (hb : Below w.heap.size w w') : At key val b m w' := h.kept (F := fun _ => False) (Kept.of_below hb) (fun h => h)
theorem At.lt {b : Nat} {m : List α} {w : World} (h : At key val b m w) : b < w.heap.size := by
  obtain ⟨es, cl, h1, _⟩ := h
  exact (Array.getElem?_eq_some_iff.1 h1).1
theorem At.new (w : World) : At key val w.heap.size [] (w.alloc (.map #[] 0)) := ⟨#[], 0, heap_alloc_new w _, rfl, by simp, by simp⟩
theorem At.size {b : Nat} {m : List α} {w : World} (h : At key val b m w) (t e : TypeId) (ht : Try.prog.underlying t = some (.map 9 e)) (ty : TypeId) : (Builtin.len_ #[t] ty #[.map (some b)]).run Try.prog w = .ok (.int .i64 m.length) w := by
  obtain ⟨es, cl, h1, h2, _⟩ := h
  have : es.size = m.length := by rw [← h2.len]; simp
  simp [Builtin.len_, run_underlying ht, MapKept.run_getObj_map h1, Result.andThen, this, goInt]
theorem run_upd0 {t e b : Nat} {m : List α} {w : World} (ht : Try.prog.underlying t = some (.map 9 e)) (h : At key val b m w) (v : α) (hg : m.find? (isK key (key v)) = none) : ∃ w', (Instr.mapUpdate t (.map (some b)) (kx (key v)) (val v)).run Try.prog w = .ok () w' ∧ At key val b (m ++ [v]) w' ∧ Kept (fun i => i = b) w w' ∧ w'.heap.size = w.heap.size := by
  obtain ⟨es, cl, h1, h2, h3, h4⟩ := h
  refine ⟨_, ?_, ⟨es.push ⟨kx (key v), val v, cl⟩, cl + 1, (MapKept.heap_set h1).1, ?_, ?_, ?_⟩, set_kb h1, by simp⟩
  · simp [Instr.mapUpdate, run_underlying ht, MapKept.run_getObj_map h1, run_check, run_findK (key v) h2, idx_none (i := 0) hg, MapKept.run_setObj_map _ h1, Result.andThen]
  · unfold Ek
    rw [Array.toList_push, List.map_append, List.map_append, h2]
    rfl
  · rw [Array.toList_push, List.map_append, List.nodup_append]
    refine ⟨h3, by simp, fun a ha b' hb' => ?_⟩
    simp at hb'
    subst hb'
    obtain ⟨x, hx, rfl⟩ := List.mem_map.1 ha
    have := h4 x hx
    omega
  · intro x hx
    rw [Array.toList_push] at hx
    rcases List.mem_append.1 hx with hx | hx
    · have := h4 x hx
      omega
    · simp at hx
      subst hx
      exact Nat.lt_succ_self _
theorem run_upd1 {t e b : Nat} {m : List α} {w : World} (ht : Try.prog.underlying t = some (.map 9 e)) (h : At key val b m w) (v : α) {x : α} (hg : m.find? (isK key (key v)) = some x) : ∃ w' j, (Instr.mapUpdate t (.map (some b)) (kx (key v)) (val v)).run Try.prog w = .ok () w' ∧ m[j]? = some x ∧ At key val b (m.set j v) w' ∧ Kept (fun i => i = b) w w' ∧ w'.heap.size = w.heap.size := by
  obtain ⟨es, cl, h1, h2, h3, h4⟩ := h
  obtain ⟨j, g1, g2, g3⟩ := idx_some (i := 0) hg
  have hl := h2.len
  have hj : j < m.length := (List.getElem?_eq_some_iff.1 g2).1
  have hje : es.toList[j]? = some (es.toList[j]'(by omega)) := List.getElem?_eq_getElem (by omega)
  generalize es.toList[j]'(by omega) = e0 at hje
  have hk0 : e0.key = kx (key v) := by
    have a1 : (es.toList.map (fun e => (e.key, e.val)))[j]? = some (e0.key, e0.val) := by rw [List.getElem?_map, hje]; rfl
    rw [h2, List.getElem?_map, g2] at a1
    simp only [Option.map_some, Option.some.injEq, Prod.mk.injEq] at a1
    rw [← a1.1, g3]
  have hja : es[j]? = some e0 := by simpa using hje
  have hmod : (es.modify j (fun e' => { e' with key := kx (key v), val := val v })).toList = es.toList.set j { e0 with key := kx (key v), val := val v } := by
    rw [Array.toList_modify, ChangeMaps.modify_eq_set _ _ _ _ hje]
  refine ⟨_, j, ?_, g2, ⟨es.modify j (fun e' => { e' with key := kx (key v), val := val v }), cl, (MapKept.heap_set h1).1, ?_, ?_, ?_⟩, set_kb h1, by simp⟩
  · simp [Instr.mapUpdate, run_underlying ht, MapKept.run_getObj_map h1, run_check, run_findK (key v) h2, g1, hja, hk0, Instr.keyThatStays, sameBits_kx 9999 (key v), MapKept.run_setObj_map _ h1, Result.andThen]
  · unfold Ek
    rw [hmod, List.map_set, List.map_set, h2]
  · rw [hmod, List.map_set]
    have : (es.toList.map (·.born)).set j e0.born = es.toList.map (·.born) := set_same (by rw [List.getElem?_map, hje]; rfl)
    show ((es.toList.map (·.born)).set j e0.born).Nodup
    rw [this]
    exact h3
  · intro y hy
    rw [hmod] at hy
    rcases List.mem_or_eq_of_mem_set hy with hy | rfl
    · exact h4 y hy
    · exact h4 e0 (List.mem_of_getElem? hje)

variable (key val)
/-- A walk over the map in the block b, by the iterator in the block r: the things of left are still to come. -/
def Rg (b r : Nat) (m left : List α) (w : World) : Prop := ∃ es clock since seen c0, w.heap[b]? = some (.map es clock) ∧ Ek key val es.toList m ∧ (es.toList.map (·.born)).Nodup ∧ (∀ e ∈ es.toList, e.born < clock) ∧
  w.heap[r]? = some (.mapIter (some b) since seen c0) ∧ (∀ e ∈ es.toList, e.born < since) ∧ since ≤ c0 ∧ since ≤ clock ∧ Ek key val (es.toList.filter fun e => !seen.contains e.born) left
variable {key val}
theorem Rg.at {b r : Nat} {m left : List α} {w : World} (h : Rg key val b r m left w) : At key val b m w := by
  obtain ⟨es, cl, since, seen, c0, h1, h2, h3, h4, _⟩ := h
  exact ⟨es, cl, h1, h2, h3, h4⟩
theorem Rg.lt {b r : Nat} {m left : List α} {w : World} (h : Rg key val b r m left w) : r < w.heap.size := by
  obtain ⟨es, cl, since, seen, c0, h1, h2, h3, h4, h5, _⟩ := h
  exact (Array.getElem?_eq_some_iff.1 h5).1
theorem Rg.ne {b r : Nat} {m left : List α} {w : World} (h : Rg key val b r m left w) : r ≠ b := by
  obtain ⟨es, cl, since, seen, c0, h1, h2, h3, h4, h5, _⟩ := h
  intro e
  rw [e, h1] at h5
  cases h5
theorem Rg.walk {b r : Nat} {m left : List α} {w : World} (h : Rg key val b r m left w) : ∃ o : Obj, w.heap[r]? = some o ∧ o.isWalk = true := by
  obtain ⟨es, cl, since, seen, c0, h1, h2, h3, h4, h5, _⟩ := h
  exact ⟨_, h5, rfl⟩
theorem Rg.kept {b r : Nat} {m left : List α} {w w' : World} {F : Nat → Prop} (h : Rg key val b r m left w) (hk : Kept F w w') (hb : ¬ F b) (hr : ¬ F r) : Rg key val b r m left w' := by
  have l1 := h.at.lt
  have l2 := h.lt
  obtain ⟨es, cl, since, seen, c0, h1, h2, h3, h4, h5, h6⟩ := h
  exact ⟨es, cl, since, seen, c0, by rw [hk.block b l1 hb]; exact h1, h2, h3, h4, by rw [hk.block r l2 hr]; exact h5, h6⟩
theorem Rg.on {b r : Nat} {m left : List α} {w w' : World} (h : Rg key val b r m left w) (hb : Below w.heap.size w w') : Rg key val b r m left w' := h.kept (F := fun _ => False) (Kept.of_below hb) (fun h => h) (fun h => h)
theorem Rg.walks {b r : Nat} {m left : List α} {w w' : World} (h : Rg key val b r m left w) (hk : KeepsWalks w w') : Rg key val b r m left w' := by
  obtain ⟨es, cl, since, seen, c0, h1, h2, h3, h4, h5, h6⟩ := h
  exact ⟨es, cl, since, seen, c0, hk.same b _ h1 rfl, h2, h3, h4, hk.same r _ h5 rfl, h6⟩
theorem Rg.left_eq {b r : Nat} {m left : List α} {w : World} (h : Rg key val b r m left w) : w.rangeLeft b r = left.length := by
  obtain ⟨es, cl, since, seen, c0, h1, h2, h3, h4, h5, h6, h7, h8, h9⟩ := h
  simp only [World.rangeLeft, h1, h5]
  rw [← h9.len]
  unfold leftOf
  rw [← Array.toList_filter, Array.length_toList]
theorem run_range {t e b : Nat} {m : List α} {w : World} (ht : Try.prog.underlying t = some (.map 9 e)) (h : At key val b m w) : ∃ w', (Instr.range t (.map (some b))).run Try.prog w = .ok (.pointer (some ⟨w.heap.size, 0, none⟩)) w' ∧ Rg key val b w.heap.size m m w' ∧ w.grownBy w' none ∧ w'.heap.size = w.heap.size + 1 := by
  have hlt := h.lt
  obtain ⟨es, cl, h1, h2, h3, h4⟩ := h
  refine ⟨_, run_range_map w t 9 e b es cl ht h1, ⟨es, cl, cl, #[], cl, ((MapKept.heap_alloc w _).2 b hlt).trans h1, h2, h3, h4, (MapKept.heap_alloc w _).1, h4, Nat.le_refl _, Nat.le_refl _, ?_⟩, World.grownBy_alloc w _ none, by simp⟩
  rw [List.filter_eq_self.2 (fun a _ => by simp)]
  exact h2
theorem ek_split {l1 l2 : List MapEntry} {e : MapEntry} {L : List α} (h : Ek key val (l1 ++ e :: l2) L) : ∃ L1 x L2, L = L1 ++ x :: L2 ∧ e.key = kx (key x) ∧ e.val = val x ∧ Ek key val (l1 ++ l2) (L1 ++ L2) := by
  unfold Ek at h
  rw [List.map_append, List.map_cons] at h
  obtain ⟨L1, R, rfl, h1, h2⟩ := List.map_eq_append_iff.1 h.symm
  obtain ⟨x, L2, rfl, h3, h4⟩ := List.map_eq_cons_iff.1 h2
  simp only [Prod.mk.injEq] at h3
  exact ⟨L1, x, L2, rfl, h3.1.symm, h3.2.symm, by unfold Ek; rw [List.map_append, List.map_append, h1, h4]⟩
theorem filter_push {es : List MapEntry} {seen : Array Nat} {e : MapEntry} (hn : (es.map (·.born)).Nodup) (he : e ∈ es.filter fun x => !seen.contains x.born) : ∃ l1 l2, (es.filter fun x => !seen.contains x.born) = l1 ++ e :: l2 ∧ (es.filter fun x => !(seen.push e.born).contains x.born) = l1 ++ l2 := by
  obtain ⟨l1, l2, hs⟩ := List.append_of_mem he
  refine ⟨l1, l2, hs, ?_⟩
  have e1 : (es.filter fun x => !(seen.push e.born).contains x.born) = (es.filter fun x => !seen.contains x.born).filter fun x => !(x.born == e.born) := by
    rw [List.filter_filter]
    refine List.filter_congr (fun x _ => ?_)
    rw [contains_push]
    cases seen.contains x.born <;> cases (x.born == e.born) <;> rfl
  have hn2 : ((l1 ++ e :: l2).map (·.born)).Nodup := by
    rw [← hs]
    exact hn.sublist (List.filter_sublist.map _)
  rw [e1, hs, List.filter_append, List.filter_cons]
  simp only [beq_self_eq_true, Bool.not_true, Bool.false_eq_true, if_false]
  rw [List.map_append, List.map_cons, List.nodup_append] at hn2
  obtain ⟨_, h2, h3⟩ := hn2
  rw [List.nodup_cons] at h2
  congr 1
  · refine List.filter_eq_self.2 (fun x hx => ?_)
    have : x.born ≠ e.born := h3 _ (List.mem_map.2 ⟨x, hx, rfl⟩) _ (List.mem_cons_self ..)
    simpa using this
  · refine List.filter_eq_self.2 (fun x hx => ?_)
    have : x.born ≠ e.born := fun h => h2.1 (List.mem_map.2 ⟨x, hx, h⟩)
    simpa using this
/-- A step of the walk. -/
theorem Rg.next {b r : Nat} {m left : List α} {w : World} (h : Rg key val b r m left w) (ty : TypeId) :
    (left = [] ∧ (Instr.next (.pointer (some ⟨r, 0, none⟩)) false ty).run Try.prog w = .ok (.tuple #[.bool false]) w) ∨
    ∃ L1 x L2 w', left = L1 ++ x :: L2 ∧ (Instr.next (.pointer (some ⟨r, 0, none⟩)) false ty).run Try.prog w = .ok (.tuple #[.bool true, kx (key x), val x]) w' ∧ Rg key val b r m (L1 ++ L2) w' ∧ w.grownBy w' (some r) ∧ w'.heap.size = w.heap.size ∧ (Instr.entry (.pointer (some ⟨r, 0, none⟩))).run Try.prog w' = .ok (.tuple #[kx (key x), val x]) w' := by
  have hne := h.ne
  obtain ⟨es, clock, since, seen, c0, hb, h2, h3, h4, hr, hold, hsc, hsk, hl⟩ := h
  have hfl : (leftOf es seen).toList = es.toList.filter fun e => !seen.contains e.born := by unfold leftOf; rw [Array.toList_filter]
  rcases run_next_at (P := Try.prog) w ty r b since c0 seen es clock hr hb hold hsc with ⟨h0, hrun⟩ | ⟨e, he, w1, hal, hrun⟩
  · refine .inl ⟨?_, hrun⟩
    have : (leftOf es seen).toList.length = 0 := by rw [Array.length_toList]; exact h0
    rw [hfl, hl.len] at this
    exact List.eq_nil_of_length_eq_zero this
  · rw [hfl] at he
    have hem : e ∈ es.toList := (List.mem_filter.1 he).1
    obtain ⟨l1, l2, s1, s2⟩ := filter_push h3 he
    rw [s1] at hl
    obtain ⟨L1, x, L2, rfl, k1, k2, k3⟩ := ek_split hl
    have hr1 : w1.heap[r]? = some (.mapIter (some b) since seen c0) := by rcases hal with rfl | rfl <;> exact hr
    have hb1 : w1.heap[b]? = some (.map es clock) := by rcases hal with rfl | rfl <;> exact hb
    have hset := MapKept.heap_set (o' := .mapIter (some b) since (seen.push e.born) clock) hr1
    have hb' : (ChangeMaps.setBlock w1 r (.mapIter (some b) since (seen.push e.born) clock)).heap[b]? = some (.map es clock) := (hset.2 b (fun e1 => hne e1.symm)).trans hb1
    refine .inr ⟨L1, x, L2, _, rfl, by rw [hrun, k1, k2], ⟨es, clock, since, seen.push e.born, clock, hb', h2, h3, h4, hset.1, hold, hsk, hsk, by rw [s2]; exact k3⟩, ?_, ?_, ?_⟩
    · rcases hal with rfl | rfl <;> exact ⟨rfl, rfl, rfl, by simp [ChangeMaps.setBlock], fun i _ hi => hset.2 i (fun e1 => hi (by rw [e1]))⟩
    · rcases hal with rfl | rfl <;> simp [ChangeMaps.setBlock]
    · rw [run_entry_at _ r b since seen es clock e hset.1 hb' hem h3, k1, k2]
end
end Gs
end Go.Proofs.Ytfpckkkicjndlaa
