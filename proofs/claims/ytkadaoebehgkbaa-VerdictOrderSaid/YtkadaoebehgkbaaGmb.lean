/-
  A Go map of transactions: what its calls answer and leave.
-/
import Derived.Test.YtkadaoebehgkbaaSyp
import Derived.WideKeyRuns
namespace Go.Proofs.Ytkadaoebehgkbaa
open Go.RowKit

def kx (k : Int × Int) : Value := .agg #[.int .u32 k.1, .int .u32 k.2]
abbrev Mm := List ((Int × Int) × Bool)
def getM (k : Int × Int) : Mm → Option Bool
  | [] => none
  | (a, t) :: m => if a = k then some t else getM k m
def setM (k : Int × Int) (v : Bool) : Mm → Mm
  | [] => [(k, v)]
  | (a, t) :: m => if a = k then (k, v) :: m else (a, t) :: setM k v m
def delM (k : Int × Int) : Mm → Mm
  | [] => []
  | (a, t) :: m => if a = k then m else (a, t) :: delM k m
theorem get_setM (k k' : Int × Int) (v : Bool) : ∀ m : Mm, getM k' (setM k v m) = if k = k' then some v else getM k' m
  | [] => by simp [setM, getM]
  | (a, t) :: m => by
    unfold setM
    by_cases h : a = k
    · subst h
      rw [if_pos rfl]
      simp only [getM]
      by_cases h2 : a = k'
      · rw [if_pos h2, if_pos h2]
      · rw [if_neg h2, if_neg h2, if_neg h2]
    · rw [if_neg h]
      simp only [getM]
      rw [get_setM k k' v m]
      by_cases h2 : a = k'
      · rw [if_pos h2, if_pos h2, if_neg (fun e => h (h2.trans e.symm))]
      · rw [if_neg h2, if_neg h2]
theorem gm_none {k : Int × Int} : ∀ {m : Mm}, k ∉ m.map (·.1) → getM k m = none
  | [], _ => rfl
  | (a, t) :: m, h => by
    simp only [List.map_cons, List.mem_cons, not_or] at h
    unfold getM
    rw [if_neg (fun e => h.1 e.symm)]
    exact gm_none h.2
theorem gm_mem {k : Int × Int} {t : Bool} : ∀ {m : Mm}, getM k m = some t → (k, t) ∈ m
  | [], h => by cases h
  | (a, u) :: m, h => by
    unfold getM at h
    split at h
    · rename_i e
      subst e
      injection h with h
      subst h
      exact List.mem_cons_self ..
    · exact List.mem_cons_of_mem _ (gm_mem h)
theorem mm_get {k : Int × Int} {t : Bool} : ∀ {m : Mm}, (m.map (·.1)).Nodup → (k, t) ∈ m → getM k m = some t
  | [], _, h => by cases h
  | (a, u) :: m, hn, h => by
    simp only [List.map_cons, List.nodup_cons] at hn
    unfold getM
    rcases List.mem_cons.1 h with e | e
    · injection e with e1 e2
      subst e1 e2
      rw [if_pos rfl]
    · rw [if_neg (fun e2 => hn.1 (List.mem_map.2 ⟨(k, t), e, e2.symm⟩))]
      exact mm_get hn.2 e
theorem mem_setM {k : Int × Int} {v : Bool} {x : (Int × Int) × Bool} : ∀ {m : Mm}, x ∈ setM k v m → x = (k, v) ∨ x ∈ m
  | [], h => by simpa [setM] using h
  | (a, t) :: m, h => by
    unfold setM at h
    split at h
    · rcases List.mem_cons.1 h with e | e
      · exact .inl e
      · exact .inr (List.mem_cons_of_mem _ e)
    · rcases List.mem_cons.1 h with e | e
      · exact .inr (by rw [e]; exact List.mem_cons_self ..)
      · rcases mem_setM e with e | e
        · exact .inl e
        · exact .inr (List.mem_cons_of_mem _ e)
theorem keys_setM (k : Int × Int) (v : Bool) : ∀ m : Mm, (setM k v m).map (·.1) = if k ∈ m.map (·.1) then m.map (·.1) else m.map (·.1) ++ [k]
  | [] => by simp [setM]
  | (a, t) :: m => by
    unfold setM
    by_cases h : a = k
    · subst h; simp
    · rw [if_neg h]
      simp only [List.map_cons]
      rw [keys_setM k v m]
      by_cases h2 : k ∈ m.map (·.1)
      · rw [if_pos h2, if_pos (List.mem_cons_of_mem _ h2)]
      · rw [if_neg h2, if_neg (by simp only [List.mem_cons, not_or]; exact ⟨fun e => h e.symm, h2⟩)]
        rfl
theorem nd_setM {k : Int × Int} {v : Bool} {m : Mm} (h : (m.map (·.1)).Nodup) : ((setM k v m).map (·.1)).Nodup := by
  rw [keys_setM]
  split
  · exact h
  · rename_i h2
    rw [List.nodup_append]
    exact ⟨h, by simp, fun a ha b hb => by simp at hb; subst hb; exact fun e => h2 (e ▸ ha)⟩
theorem del_sub {k : Int × Int} : ∀ m : Mm, (delM k m).Sublist m
  | [] => List.Sublist.slnil
  | (a, t) :: m => by
    unfold delM
    split
    · exact List.sublist_cons_self _ _
    · exact List.Sublist.cons_cons _ (del_sub m)
theorem nd_delM {k : Int × Int} {m : Mm} (h : (m.map (·.1)).Nodup) : ((delM k m).map (·.1)).Nodup := h.sublist ((del_sub m).map _)
theorem get_delM {k k' : Int × Int} : ∀ {m : Mm}, (m.map (·.1)).Nodup → getM k' (delM k m) = if k = k' then none else getM k' m
  | [], _ => by simp [delM, getM]
  | (a, t) :: m, hn => by
    simp only [List.map_cons, List.nodup_cons] at hn
    unfold delM
    by_cases h : a = k
    · subst h
      rw [if_pos rfl]
      by_cases h2 : a = k'
      · subst h2
        rw [if_pos rfl]
        exact gm_none hn.1
      · rw [if_neg h2]
        simp only [getM]
        rw [if_neg h2]
    · rw [if_neg h]
      simp only [getM]
      rw [get_delM hn.2]
      by_cases h2 : a = k'
      · rw [if_pos h2, if_pos h2, if_neg (fun e => h (h2.trans e.symm))]
      · rw [if_neg h2, if_neg h2]

/-- The map in the block b: its entries, in the order in which they were laid. -/
def GmAt (b : Nat) (m : Mm) (w : World) : Prop := ∃ es clock, w.heap[b]? = some (.map es clock) ∧ es.toList.map (fun e => (e.key, e.val)) = m.map (fun x => (kx x.1, Value.bool x.2))
theorem GmAt.kept {b : Nat} {m : Mm} {w w' : World} {F : Nat → Prop} (h : GmAt b m w) (hk : Kept F w w') (hF : ¬ F b) : GmAt b m w' := by
  obtain ⟨es, cl, h1, h2⟩ := h
  exact ⟨es, cl, by rw [hk.block b (Array.getElem?_eq_some_iff.1 h1).1 hF]; exact h1, h2⟩
theorem GmAt.lt {b : Nat} {m : Mm} {w : World} (h : GmAt b m w) : b < w.heap.size := by
  obtain ⟨es, cl, h1, _⟩ := h
  exact (Array.getElem?_eq_some_iff.1 h1).1
theorem GmAt.new (w : World) : GmAt w.heap.size [] (w.alloc (.map #[] 0)) := ⟨#[], 0, heap_alloc_new w _, rfl⟩

theorem run_same (a b : Int × Int) (w : World) : (Op.equal 32 (kx a) (kx b)).run Try.prog w = .ok (decide (a = b)) w := by
  obtain ⟨p, l⟩ := a
  obtain ⟨q, m⟩ := b
  show (Op.equalIn 10000 32 (.agg #[.int .u32 p, .int .u32 l]) (.agg #[.int .u32 q, .int .u32 m])).run Try.prog w = _
  by_cases h : p = q <;> by_cases h2 : l = m <;> simp [go_sem, h, h2]
theorem run_check1 (n : Nat) (k : Int) (em : Bool) (w : World) : (Instr.checkKey em (n + 1) 30 (.int .u32 k)).run Try.prog w = .ok () w := by
  unfold Instr.checkKey
  simp [go_sem]
set_option maxRecDepth 100000 in
theorem run_check2 (n : Nat) (k : Int × Int) (em : Bool) (w : World) : (Instr.checkKey em (n + 1 + 1) 32 (kx k)).run Try.prog w = .ok () w := by
  unfold kx
  unfold Instr.checkKey
  simp [go_sem, run_check1]
theorem run_check (k : Int × Int) (em : Bool) (w : World) : (Instr.checkKey em 10000 32 (kx k)).run Try.prog w = .ok () w := run_check2 9998 k em w

def findI (k : Int × Int) : Mm → Nat → Option (Nat × Value)
  | [], _ => none
  | (a, t) :: m, i => if k = a then some (i, Value.bool t) else findI k m (i + 1)
theorem find_none {k : Int × Int} : ∀ {m : Mm} {i : Nat}, getM k m = none → findI k m i = none
  | [], _, _ => rfl
  | (a, t) :: m, i, h => by
    unfold getM at h
    split at h
    · cases h
    · rename_i e
      unfold findI
      rw [if_neg (fun e2 => e e2.symm)]
      exact find_none h
theorem find_some {k : Int × Int} {t : Bool} : ∀ {m : Mm} {i : Nat}, getM k m = some t → ∃ j, findI k m i = some (i + j, Value.bool t) ∧ m[j]? = some (k, t) ∧ (∀ v, setM k v m = m.set j (k, v)) ∧ delM k m = m.eraseIdx j
  | [], _, h => by cases h
  | (a, u) :: m, i, h => by
    unfold getM at h
    split at h
    · rename_i e
      subst e
      injection h with h
      subst h
      refine ⟨0, by unfold findI; rw [if_pos rfl]; rfl, rfl, fun v => ?_, ?_⟩
      · unfold setM; rw [if_pos rfl]; rfl
      · unfold delM; rw [if_pos rfl]; rfl
    · rename_i e
      obtain ⟨j, h1, h2, h3, h4⟩ := find_some (i := i + 1) h
      refine ⟨j + 1, ?_, h2, fun v => ?_, ?_⟩
      · unfold findI
        rw [if_neg (fun e2 => e e2.symm), h1]
        congr 2
        omega
      · unfold setM; rw [if_neg e, h3 v]; rfl
      · unfold delM; rw [if_neg e, h4]; rfl
theorem run_ask (k : Int × Int) (w : World) : ∀ (es : List MapEntry) (m : Mm) (i : Nat), es.map (fun e => (e.key, e.val)) = m.map (fun x => (kx x.1, Value.bool x.2)) → (Instr.findAsking 32 (kx k) es i).run Try.prog w = .ok (findI k m i) w
  | [], [], i, _ => rfl
  | [], x :: m, _, h => by cases h
  | e :: es, [], _, h => by cases h
  | e :: es, (a, t) :: m, i, h => by
    simp only [List.map_cons, List.cons.injEq, Prod.mk.injEq] at h
    obtain ⟨⟨h1, h2⟩, h3⟩ := h
    unfold Instr.findAsking findI
    simp only [h1, h2, Sem.run_bind, run_same, Result.andThen]
    by_cases e1 : k = a
    · rw [if_pos e1]
      simp [e1]
    · rw [if_neg e1]
      simp [e1, run_ask k w es m (i + 1) h3]
theorem run_findK (k : Int × Int) {es : List MapEntry} {m : Mm} (h : es.map (fun e => (e.key, e.val)) = m.map (fun x => (kx x.1, Value.bool x.2))) (w : World) : (Instr.findKey 32 (kx k) es).run Try.prog w = .ok (findI k m 0) w := by
  rw [run_findKey_eq w (by kernel_rfl)]
  exact run_ask k w es m 0 h
theorem run_look {b : Nat} {m : Mm} {w : World} (h : GmAt b m w) (k : Int × Int) : (Instr.lookup 53 (.map (some b)) (kx k) false).run Try.prog w = .ok (Value.bool ((getM k m).getD false)) w := by
  obtain ⟨es, cl, h1, h2⟩ := h
  cases hg : getM k m with
  | none =>
    simp [Instr.lookup, run_underlying Try.underlying53, MapKept.run_getObj_map h1, run_check, run_findK k h2, find_none (i := 0) hg, Result.andThen]
  | some t =>
    obtain ⟨j, g1, _⟩ := find_some (i := 0) hg
    simp [Instr.lookup, run_underlying Try.underlying53, MapKept.run_getObj_map h1, run_check, run_findK k h2, g1, Result.andThen]
theorem set_kb {w : World} {b : Nat} {o o' : Obj} (h : w.heap[b]? = some o) : Kept (fun i => i = b) w { w with heap := w.heap.setIfInBounds b o' } := ⟨rfl, rfl, rfl, by simp, fun k _ hk => (MapKept.heap_set h).2 k hk⟩
theorem sameBits_kx (n : Nat) (k : Int × Int) : Instr.sameBits (n + 1) (kx k) (kx k) = true := by
  simp [kx, Instr.sameBits]
theorem run_upd {b : Nat} {m : Mm} {w : World} (h : GmAt b m w) (k : Int × Int) (v : Bool) : ∃ w', (Instr.mapUpdate 53 (.map (some b)) (kx k) (Value.bool v)).run Try.prog w = .ok () w' ∧ GmAt b (setM k v m) w' ∧ Kept (fun i => i = b) w w' := by
  obtain ⟨es, cl, h1, h2⟩ := h
  cases hg : getM k m with
  | none =>
    refine ⟨_, ?_, ⟨es.push ⟨kx k, Value.bool v, cl⟩, cl + 1, (MapKept.heap_set h1).1, ?_⟩, set_kb h1⟩
    · simp [Instr.mapUpdate, run_underlying Try.underlying53, MapKept.run_getObj_map h1, run_check, run_findK k h2, find_none (i := 0) hg, MapKept.run_setObj_map _ h1, Result.andThen]
    · have : setM k v m = m ++ [(k, v)] := by
        clear h2
        induction m with
        | nil => rfl
        | cons x m ih =>
          obtain ⟨a, t⟩ := x
          unfold getM at hg
          split at hg
          · cases hg
          · rename_i e
            unfold setM
            rw [if_neg e, ih hg]
            rfl
      rw [this, Array.toList_push, List.map_append, List.map_append, h2]
      rfl
  | some t =>
    obtain ⟨j, g1, g2, g3, _⟩ := find_some (i := 0) hg
    have hl : es.toList.length = m.length := by have := congrArg List.length h2; simpa using this
    have hj : j < m.length := (List.getElem?_eq_some_iff.1 g2).1
    have hje : es.toList[j]? = some (es.toList[j]'(by omega)) := List.getElem?_eq_getElem (by omega)
    generalize es.toList[j]'(by omega) = e0 at hje
    have hk0 : e0.key = kx k := by
      have a1 : (es.toList.map (fun e => (e.key, e.val)))[j]? = some (e0.key, e0.val) := by rw [List.getElem?_map, hje]; rfl
      rw [h2, List.getElem?_map, g2] at a1
      simp only [Option.map_some, Option.some.injEq, Prod.mk.injEq] at a1
      exact a1.1.symm
    have hja : es[j]? = some e0 := by simpa using hje
    refine ⟨_, ?_, ⟨es.modify j (fun e' => { e' with key := kx k, val := Value.bool v }), cl, (MapKept.heap_set h1).1, ?_⟩, set_kb h1⟩
    · simp [Instr.mapUpdate, run_underlying Try.underlying53, MapKept.run_getObj_map h1, run_check, run_findK k h2, g1, hja, hk0, Instr.keyThatStays, sameBits_kx 9999 k, MapKept.run_setObj_map _ h1, Result.andThen]
    · rw [g3 v, Array.toList_modify, ChangeMaps.modify_eq_set _ _ _ _ hje, List.map_set, List.map_set, h2]
end Go.Proofs.Ytkadaoebehgkbaa
