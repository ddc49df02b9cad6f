/-
  Tables of intents, plain, on: right keys, sizes, the first one that stands.
-/
import Derived.Test.YtknfkpnicjellaaLp
namespace Go.Proofs.Ytknfkpnicjellaa

structure TOk (T : Tb) : Prop where
  srt : Srt T
  keys : ∀ x ∈ T, kOk x.1 = true
theorem TOk.nil : TOk [] := ⟨List.Pairwise.nil, fun _ h => by cases h⟩
theorem right_parts {l : List Wr} (h : rightW l = true) : (∀ w ∈ l, wOk w = true) ∧ (l.map (·.key)).Nodup ∧ 1 ≤ l.length ∧ l.length ≤ 16 := by
  simp only [rightW, Bool.and_eq_true, decide_eq_true_eq, List.all_eq_true] at h
  exact ⟨h.1.1.1, h.1.1.2, h.1.2, h.2⟩
theorem wOk_key {w : Wr} (h : wOk w = true) : kOk w.key = true := by
  simp only [wOk, Bool.and_eq_true] at h
  exact h.1.1
theorem laid_keys {f : Wr → Ii} : ∀ {l : List Wr} {T : Tb}, (∀ w ∈ l, kOk w.key = true) → (∀ x ∈ T, kOk x.1 = true) → ∀ x ∈ laidF f l T, kOk x.1 = true
  | [], _, _, h2 => h2
  | w :: l, T, h1, h2 => by
    unfold laidF
    refine laid_keys (fun x hx => h1 x (List.mem_cons_of_mem _ hx)) (fun x hx => ?_)
    rcases setF_keys hx with rfl | hx
    · exact h1 w (List.mem_cons_self ..)
    · exact h2 x hx
theorem TOk.lay {T : Tb} (h : TOk T) (r : Bool) (c n sp sl mp ml : Int) (prim : List UInt8) (l : List Wr) : TOk (layF r c n sp sl mp ml prim l T).1 := by
  rcases lay_cases r c n sp sl mp ml prim l T with ⟨e, h1, _⟩ | ⟨h1, hr, _⟩
  · rw [h1]; exact h
  · rw [h1]
    exact ⟨laid_srt h.srt, laid_keys (fun w hw => wOk_key ((right_parts hr).1 w hw)) h.keys⟩
theorem TOk.rest {T : Tb} (h : TOk T) (c n : Int) : TOk (restF c n T) := ⟨filter_srt h.srt _, fun x hx => h.keys x (List.mem_filter.1 hx).1⟩
theorem TOk.raise {T : Tb} (h : TOk T) (c n mp ml : Int) : TOk (raiseF c n mp ml T) := ⟨raise_srt h.srt, fun x hx => by
  obtain ⟨y, hy, rfl⟩ := List.mem_map.1 hx
  exact h.keys y hy⟩
theorem len_lay {T : Tb} (h : TOk T) (r : Bool) (c n sp sl mp ml : Int) (prim : List UInt8) (l : List Wr) : (layF r c n sp sl mp ml prim l T).1.length ≤ T.length + 16 := by
  rcases lay_cases r c n sp sl mp ml prim l T with ⟨e, h1, _⟩ | ⟨h1, hr, _, _, hk, hn⟩
  · rw [h1]; simp
  · rw [h1]
    have := laid_len (f := mkI c n sp sl mp ml prim) h.srt hn hk
    have := (right_parts hr).2.2.2
    simp only
    omega
theorem len_rest (c n : Int) (T : Tb) : (restF c n T).length ≤ T.length := by have := by_rest c n T; omega
theorem len_raise (c n mp ml : Int) (T : Tb) : (raiseF c n mp ml T).length = T.length := by simp [raiseF]
theorem len_by (c n : Int) (T : Tb) : (byF c n T).length ≤ T.length := by have := by_rest c n T; omega
def di : List UInt8 × Ii := ([], ⟨0, 0, 0, 0, 0, 0, [], [], false⟩)
theorem ttk_snoc {T : Tb} {m : Nat} (h : m < T.length) : T.take (m + 1) = T.take m ++ [T.getD m di] := by
  rw [List.take_succ_eq_append_getElem h]
  simp [List.getD, h]
theorem tdr_step {T : Tb} {m : Nat} (h : m < T.length) : T.drop m = T.getD m di :: T.drop (m + 1) := by
  rw [List.drop_eq_getElem_cons h]
  simp [List.getD, h]
theorem getD_memT {T : Tb} {m : Nat} (h : m < T.length) : T.getD m di ∈ T := by
  rw [List.getD, List.getElem?_eq_getElem h]
  exact List.getElem_mem h
/-- The first of those seen so far. -/
def firstN (p : List UInt8 × Ii → Bool) (T : Tb) (m : Nat) : Option (List UInt8 × Ii) := (T.take m).find? p
theorem firstN_step {p : List UInt8 × Ii → Bool} {T : Tb} {m : Nat} (h : m < T.length) : firstN p T (m + 1) = match firstN p T m with
    | some x => some x
    | none => if p (T.getD m di) then some (T.getD m di) else none := by
  unfold firstN
  rw [ttk_snoc h, List.find?_append]
  cases (T.take m).find? p with
  | some x => rfl
  | none =>
    generalize T.getD m di = x
    cases e : p x <;> simp [e]
theorem firstN_end {p : List UInt8 × Ii → Bool} {T : Tb} {m : Nat} (h : T.length ≤ m) : firstN p T m = T.find? p := by
  unfold firstN
  rw [List.take_of_length_le h]
/-- A walk that stops at the first one. -/
theorem first_at {p : List UInt8 × Ii → Bool} {T : Tb} {m : Nat} (h : m < T.length) (hn : firstN p T m = none) (hp : p (T.getD m di) = true) : T.find? p = some (T.getD m di) := by
  have h1 : T = T.take m ++ T.getD m di :: T.drop (m + 1) := by rw [← tdr_step h, List.take_append_drop]
  rw [h1, List.find?_append]
  unfold firstN at hn
  rw [hn]
  have h2 : (T.take m ++ T.getD m di :: T.drop (m + 1)).getD m di = T.getD m di := by rw [← h1]
  simp only [Option.none_or, List.find?_cons, hp]
  rw [h2]
/-- Keys rise. -/
theorem key_rises {T : Tb} (h : TOk T) {m : Nat} (hm : m + 1 < T.length) : ltK (T.getD m di).1 (T.getD (m + 1) di).1 = true := by
  have := List.pairwise_iff_getElem.1 h.srt m (m + 1) (by omega) hm (by omega)
  simpa [List.getD, show m < T.length by omega, hm] using this
/-- By and restF, one by one. -/
theorem by_snoc {c n : Int} {T : Tb} {m : Nat} (h : m < T.length) : byF c n (T.take (m + 1)) = byF c n (T.take m) ++ (if ofBy c n (T.getD m di).2 then [T.getD m di] else []) := by
  rw [ttk_snoc h]
  unfold byF
  rw [List.filter_append]
  congr 1
  generalize T.getD m di = x
  cases e : ofBy c n x.2 <;> simp [e]
theorem rest_snoc {c n : Int} {T : Tb} {m : Nat} (h : m < T.length) : restF c n (T.take (m + 1)) = restF c n (T.take m) ++ (if ofBy c n (T.getD m di).2 then [] else [T.getD m di]) := by
  rw [ttk_snoc h]
  unfold restF
  rw [List.filter_append]
  congr 1
  generalize T.getD m di = x
  cases e : ofBy c n x.2 <;> simp [e]
/-- Of: the first one of the key. -/
theorem get_step {T : Tb} {m : Nat} {k : List UInt8} (h : m < T.length) : getF k (T.drop m) = if (T.getD m di).1 == k then some (T.getD m di).2 else getF k (T.drop (m + 1)) := by
  rw [tdr_step h]
  generalize T.getD m di = x
  obtain ⟨a, v⟩ := x
  rfl
end Go.Proofs.Ytknfkpnicjellaa
