/-
  A table of intents as a plain list in the order of keys: what is laid, cut, raised, found, and what it keeps to. (Of no seat: to be carried.)
-/
import Derived.Test.YtknfkpnicjellaaPlain
namespace Go.Proofs.Ytknfkpnicjellaa

structure Wr where
  key : List UInt8
  val : List UInt8
  dead : Bool
/-- An intent, its key aside: of whom, since when, the least stamp, the primary, what is written. -/
structure Ii where
  c : Int
  n : Int
  sp : Int
  sl : Int
  mp : Int
  ml : Int
  prim : List UInt8
  val : List UInt8
  dead : Bool
abbrev Tb := Kv Ii
def kOk (k : List UInt8) : Bool := decide (1 ≤ k.length) && decide (k.length ≤ 32)
def wOk (x : Wr) : Bool := kOk x.key && decide (x.val.length ≤ 256) && !(x.dead && !x.val.isEmpty)
def rightW (l : List Wr) : Bool := l.all wOk && decide ((l.map (·.key)).Nodup) && decide (1 ≤ l.length) && decide (l.length ≤ 16)
def ofBy (c n : Int) (x : Ii) : Bool := x.c == c && x.n == n
def byF (c n : Int) (T : Tb) : Tb := T.filter fun x => ofBy c n x.2
def restF (c n : Int) (T : Tb) : Tb := T.filter fun x => !ofBy c n x.2
def mkI (c n sp sl mp ml : Int) (prim : List UInt8) (w : Wr) : Ii := ⟨c, n, sp, sl, mp, ml, prim, w.val, w.dead⟩
def laidF (f : Wr → Ii) : List Wr → Tb → Tb
  | [], T => T
  | w :: l, T => laidF f l (setF w.key (f w) T)
/-- Is (a, b) below (c, d)? -/
def ltT (a b c d : Int) : Bool := decide (a < c) || decide (a = c) && decide (b < d)
def raise1 (c n mp ml : Int) (x : Ii) : Ii := if ofBy c n x && ltT x.mp x.ml mp ml then { x with mp := mp, ml := ml } else x
def raiseF (c n mp ml : Int) (T : Tb) : Tb := T.map fun x => (x.1, raise1 c n mp ml x.2)
def standsB (lo hi : List UInt8) (ap al : Int) (but : List (Int × Int)) (x : List UInt8 × Ii) : Bool := inR lo hi x.1 && !ltT ap al x.2.mp x.2.ml && !but.contains (x.2.c, x.2.n)
def firstF (lo hi : List UInt8) (ap al : Int) (but : List (Int × Int)) (T : Tb) : Option (List UInt8 × Ii) := T.find? (standsB lo hi ap al but)

section
variable {α : Type}
theorem filter_srt {L : Kv α} (h : Srt L) (p : List UInt8 × α → Bool) : Srt (L.filter p) := List.Pairwise.sublist List.filter_sublist h
theorem map_srt {β : Type} {L : Kv α} (h : Srt L) (f : List UInt8 × α → β) : Srt (L.map fun x => (x.1, f x)) := by
  induction L with
  | nil => exact List.Pairwise.nil
  | cons a L ih =>
    obtain ⟨h1, h2⟩ := List.pairwise_cons.1 h
    refine List.pairwise_cons.2 ⟨fun x hx => ?_, ih h2⟩
    obtain ⟨y, hy, rfl⟩ := List.mem_map.1 hx
    exact h1 y hy
theorem get_filter {L : Kv α} (h : Srt L) (p : List UInt8 × α → Bool) (k : List UInt8) (v : α) : getF k (L.filter p) = some v ↔ getF k L = some v ∧ p (k, v) = true := by
  rw [getF_mem (filter_srt h p), getF_mem h, List.mem_filter]
theorem get_map {β : Type} (f : List UInt8 × α → β) (k : List UInt8) : ∀ (L : Kv α), getF k (L.map fun x => (x.1, f x)) = (getF k L).map fun v => f (k, v)
  | [] => rfl
  | (a, v) :: L => by
    simp only [List.map_cons]
    unfold getF
    by_cases e : (a == k) = true
    · rw [if_pos e, if_pos e]
      have : a = k := by simpa using e
      subst this
      rfl
    · rw [if_neg e, if_neg e]
      exact get_map f k L
/-- A new key: one more; and one more of those that are asked for, if it is one. -/
theorem filter_set {k : List UInt8} {v : α} (p : List UInt8 × α → Bool) : ∀ {L : Kv α}, getF k L = none → ((setF k v L).filter p).length = (L.filter p).length + (if p (k, v) then 1 else 0)
  | [], _ => by
    unfold setF
    by_cases e : p (k, v) = true <;> simp [e]
  | (a, u) :: L, h => by
    unfold getF at h
    by_cases e : (a == k) = true
    · rw [if_pos e] at h; cases h
    · rw [if_neg e] at h
      unfold setF
      by_cases h1 : ltK a k = true
      · rw [if_pos h1]
        have ih := filter_set (v := v) p h
        by_cases h2 : p (a, u) = true
        · rw [List.filter_cons_of_pos h2, List.filter_cons_of_pos h2, List.length_cons, List.length_cons, ih]; omega
        · rw [List.filter_cons_of_neg h2, List.filter_cons_of_neg h2, ih]
      · rw [if_neg h1, if_neg e]
        by_cases h2 : p (k, v) = true
        · rw [List.filter_cons_of_pos h2, if_pos h2]; rfl
        · rw [List.filter_cons_of_neg h2, if_neg h2]; rfl
theorem len_new {k : List UInt8} {v : α} {L : Kv α} (hs : Srt L) (h : getF k L = none) : (setF k v L).length = L.length + 1 := by
  rw [len_set hs, h]; rfl
theorem part_len (p : List UInt8 × α → Bool) : ∀ (L : Kv α), (L.filter p).length + (L.filter fun x => !p x).length = L.length
  | [] => rfl
  | a :: L => by
    have ih := part_len p L
    cases h : p a <;> simp [h] <;> omega
end

theorem laid_srt {f : Wr → Ii} : ∀ {l : List Wr} {T : Tb}, Srt T → Srt (laidF f l T)
  | [], _, h => h
  | w :: l, T, h => by
    unfold laidF
    exact laid_srt (setF_srt h)
theorem laid_other {f : Wr → Ii} {k : List UInt8} : ∀ {l : List Wr} {T : Tb}, Srt T → (∀ w ∈ l, w.key ≠ k) → getF k (laidF f l T) = getF k T
  | [], _, _, _ => rfl
  | w :: l, T, h, hk => by
    unfold laidF
    rw [laid_other (setF_srt h) (fun x hx => hk x (List.mem_cons_of_mem _ hx)), get_set h, if_neg]
    simpa using hk w (List.mem_cons_self ..)
theorem laid_get {f : Wr → Ii} : ∀ {l : List Wr} {T : Tb}, Srt T → (l.map (·.key)).Nodup → ∀ w ∈ l, getF w.key (laidF f l T) = some (f w)
  | [], _, _, _, w, hw => by cases hw
  | x :: l, T, h, hn, w, hw => by
    simp only [List.map_cons, List.nodup_cons] at hn
    unfold laidF
    rcases List.mem_cons.1 hw with rfl | hw
    · rw [laid_other (setF_srt h) (fun y hy e => hn.1 (List.mem_map.2 ⟨y, hy, e⟩)), get_set h]
      simp
    · exact laid_get (setF_srt h) hn.2 w hw
/-- The keys are new. -/
def NewK (l : List Wr) (T : Tb) : Prop := ∀ w ∈ l, getF w.key T = none
theorem newK_step {f : Wr → Ii} {x : Wr} {l : List Wr} {T : Tb} (h : Srt T) (hn : ((x :: l).map (·.key)).Nodup) (hk : NewK (x :: l) T) : NewK l (setF x.key (f x) T) := fun w hw => by
  simp only [List.map_cons, List.nodup_cons] at hn
  rw [get_set h, if_neg]
  · exact hk w (List.mem_cons_of_mem _ hw)
  · simp only [beq_iff_eq]
    exact fun e => hn.1 (List.mem_map.2 ⟨w, hw, e.symm⟩)
theorem laid_filter {f : Wr → Ii} (p : List UInt8 × Ii → Bool) : ∀ {l : List Wr} {T : Tb}, Srt T → (l.map (·.key)).Nodup → NewK l T → ((laidF f l T).filter p).length = (T.filter p).length + (l.filter fun w => p (w.key, f w)).length
  | [], _, _, _, _ => rfl
  | x :: l, T, h, hn, hk => by
    unfold laidF
    rw [laid_filter p (setF_srt h) (by simp only [List.map_cons, List.nodup_cons] at hn; exact hn.2) (newK_step h hn hk), filter_set p (hk x (List.mem_cons_self ..))]
    by_cases e : p (x.key, f x) = true
    · rw [if_pos e, List.filter_cons_of_pos (p := fun w => p (w.key, f w)) e, List.length_cons]; omega
    · rw [if_neg e, List.filter_cons_of_neg (p := fun w => p (w.key, f w)) e]; omega
theorem laid_len {f : Wr → Ii} {l : List Wr} {T : Tb} (h : Srt T) (hn : (l.map (·.key)).Nodup) (hk : NewK l T) : (laidF f l T).length = T.length + l.length := by
  have := laid_filter (f := f) (fun _ => true) h hn hk
  rw [List.filter_eq_self.2 (fun _ _ => rfl), List.filter_eq_self.2 (fun _ _ => rfl), List.filter_eq_self.2 (fun _ _ => rfl)] at this
  exact this
theorem by_rest (c n : Int) (T : Tb) : (byF c n T).length + (restF c n T).length = T.length := part_len _ T
theorem by_after (c n : Int) (T : Tb) : byF c n (restF c n T) = [] := by
  unfold byF restF
  rw [List.filter_filter]
  rw [List.filter_eq_nil_iff]
  intro x _
  cases ofBy c n x.2 <;> simp
theorem raise_of {c n mp ml c' n' : Int} {x : Ii} : ofBy c' n' (raise1 c n mp ml x) = ofBy c' n' x := by
  unfold raise1
  split <;> rfl
theorem raise_srt {c n mp ml : Int} {T : Tb} (h : Srt T) : Srt (raiseF c n mp ml T) := map_srt h _
theorem raise_get (c n mp ml : Int) (k : List UInt8) (T : Tb) : getF k (raiseF c n mp ml T) = (getF k T).map (raise1 c n mp ml) := get_map (fun x => raise1 c n mp ml x.2) k T
theorem raise_by {c n mp ml c' n' : Int} (T : Tb) : (byF c' n' (raiseF c n mp ml T)).length = (byF c' n' T).length := by
  unfold byF raiseF
  rw [List.filter_map, List.length_map]
  congr 2
  funext x
  exact raise_of
/-- What Lay answers; r: are the stamps and the primary right? -/
def layF (r : Bool) (c n sp sl mp ml : Int) (prim : List UInt8) (l : List Wr) (T : Tb) : Tb × Int :=
  if rightW l && r then (if (byF c n T).isEmpty && l.all (fun w => (getF w.key T).isNone) then (laidF (mkI c n sp sl mp ml prim) l T, 0) else (T, 40)) else (T, 1)
theorem lay_cases (r : Bool) (c n sp sl mp ml : Int) (prim : List UInt8) (l : List Wr) (T : Tb) :
    (∃ e, layF r c n sp sl mp ml prim l T = (T, e) ∧ (e = 1 ∨ e = 40)) ∨ (layF r c n sp sl mp ml prim l T = (laidF (mkI c n sp sl mp ml prim) l T, 0) ∧ rightW l = true ∧ r = true ∧ byF c n T = [] ∧ NewK l T ∧ (l.map (·.key)).Nodup) := by
  unfold layF
  by_cases h1 : (rightW l && r) = true
  · rw [if_pos h1]
    by_cases h2 : ((byF c n T).isEmpty && l.all (fun w => (getF w.key T).isNone)) = true
    · rw [if_pos h2]
      simp only [Bool.and_eq_true, List.all_eq_true, Option.isNone_iff_eq_none, List.isEmpty_iff] at h1 h2
      refine .inr ⟨rfl, h1.1, h1.2, h2.1, h2.2, ?_⟩
      have := h1.1
      simp only [rightW, Bool.and_eq_true, decide_eq_true_eq] at this
      exact this.1.1.2
    · rw [if_neg h2]
      exact .inl ⟨40, rfl, .inr rfl⟩
  · rw [if_neg h1]
    exact .inl ⟨1, rfl, .inl rfl⟩
theorem lay_srt {r : Bool} {c n sp sl mp ml : Int} {prim : List UInt8} {l : List Wr} {T : Tb} (h : Srt T) : Srt (layF r c n sp sl mp ml prim l T).1 := by
  rcases lay_cases r c n sp sl mp ml prim l T with ⟨e, h1, _⟩ | ⟨h1, _⟩
  · rw [h1]; exact h
  · rw [h1]; exact laid_srt h
theorem ofBy_mk {c n c' n' sp sl mp ml : Int} {prim : List UInt8} {w : Wr} : ofBy c' n' (mkI c n sp sl mp ml prim w) = (c == c' && n == n') := rfl
/-- What is laid: more of all, more of his own, of nobody else's. -/
theorem lay_counts {r : Bool} {c n sp sl mp ml : Int} {prim : List UInt8} {l : List Wr} {T : Tb} (h : Srt T) :
    (layF r c n sp sl mp ml prim l T).1.length = T.length + (if (layF r c n sp sl mp ml prim l T).2 = 0 then l.length else 0) ∧ (byF c n (layF r c n sp sl mp ml prim l T).1).length = (byF c n T).length + (if (layF r c n sp sl mp ml prim l T).2 = 0 then l.length else 0) := by
  rcases lay_cases r c n sp sl mp ml prim l T with ⟨e, h1, he⟩ | ⟨h1, _, _, _, hk, hn⟩
  · rw [h1]
    have : ¬ e = 0 := by rcases he with rfl | rfl <;> omega
    simp [this]
  · rw [h1]
    refine ⟨by simp [laid_len h hn hk], ?_⟩
    unfold byF
    have hl : (l.filter fun w => ofBy c n (mkI c n sp sl mp ml prim w)) = l := List.filter_eq_self.2 (by simp [ofBy_mk])
    rw [laid_filter _ h hn hk]
    dsimp only
    rw [hl, if_pos rfl]

/-- One's own: all that was laid is there, by one least stamp. -/
structure Mine (c n sp sl : Int) (prim : List UInt8) (W : List Wr) (mp ml : Int) (T : Tb) : Prop where
  srt : Srt T
  has : ∀ w ∈ W, getF w.key T = some (mkI c n sp sl mp ml prim w)
  cnt : (byF c n T).length = W.length
theorem mine_start {r : Bool} {c n sp sl mp ml : Int} {prim : List UInt8} {W : List Wr} {T : Tb} (h : Srt T) (ho : (layF r c n sp sl mp ml prim W T).2 = 0) : Mine c n sp sl prim W mp ml (layF r c n sp sl mp ml prim W T).1 := by
  have hc := (lay_counts (r := r) (c := c) (n := n) (sp := sp) (sl := sl) (mp := mp) (ml := ml) (prim := prim) (l := W) h).2
  rw [ho, if_pos rfl] at hc
  rcases lay_cases r c n sp sl mp ml prim W T with ⟨e, h1, he⟩ | ⟨h1, _, _, hb, hk, hn⟩
  · rw [h1] at ho
    have : e = 0 := ho
    rcases he with rfl | rfl <;> omega
  · refine ⟨lay_srt h, ?_, ?_⟩
    · rw [h1]
      exact laid_get h hn
    · rw [hc, hb]; simp
theorem mine_lay {r : Bool} {c n sp sl : Int} {prim : List UInt8} {W : List Wr} {mp ml : Int} {T : Tb} (h : Mine c n sp sl prim W mp ml T) {c' n' sp' sl' mp' ml' : Int} {prim' : List UInt8} {l : List Wr} (hne : ¬ (c' = c ∧ n' = n)) : Mine c n sp sl prim W mp ml (layF r c' n' sp' sl' mp' ml' prim' l T).1 := by
  rcases lay_cases r c' n' sp' sl' mp' ml' prim' l T with ⟨e, h1, _⟩ | ⟨h1, _, _, hb, hk, hn⟩
  · rw [h1]; exact h
  · rw [h1]
    refine ⟨laid_srt h.srt, fun w hw => ?_, ?_⟩
    · rw [laid_other h.srt, h.has w hw]
      intro x hx e
      have h2 := hk x hx
      rw [e, h.has w hw] at h2
      cases h2
    · unfold byF
      have hl : (l.filter fun w => ofBy c n (mkI c' n' sp' sl' mp' ml' prim' w)) = [] := List.filter_eq_nil_iff.2 (fun x _ => by simp only [ofBy_mk, Bool.and_eq_true, beq_iff_eq]; exact hne)
      rw [laid_filter _ h.srt hn hk]
      dsimp only
      rw [hl, List.length_nil, Nat.add_zero]
      exact h.cnt
theorem mine_cut {c n sp sl : Int} {prim : List UInt8} {W : List Wr} {mp ml : Int} {T : Tb} (h : Mine c n sp sl prim W mp ml T) {c' n' : Int} (hne : ¬ (c' = c ∧ n' = n)) : Mine c n sp sl prim W mp ml (restF c' n' T) := by
  refine ⟨filter_srt h.srt _, fun w hw => ?_, ?_⟩
  · refine (get_filter h.srt _ _ _).2 ⟨h.has w hw, ?_⟩
    rw [Bool.not_eq_true', ofBy_mk]
    simp only [Bool.and_eq_false_iff, beq_eq_false_iff_ne]
    by_cases e : c = c'
    · exact .inr (fun e2 => hne ⟨e.symm, e2.symm⟩)
    · exact .inl e
  · have : byF c n (restF c' n' T) = byF c n T := by
      unfold byF restF
      rw [List.filter_filter]
      apply List.filter_congr
      intro x _
      cases hx : ofBy c n x.2
      · rfl
      · simp only [ofBy, Bool.and_eq_true, beq_iff_eq] at hx
        simp only [Bool.true_and, Bool.not_eq_true']
        simp only [ofBy, Bool.and_eq_false_iff, beq_eq_false_iff_ne]
        rw [hx.1, hx.2]
        by_cases e : c = c'
        · exact .inr (fun e2 => hne ⟨e.symm, e2.symm⟩)
        · exact .inl e
    rw [this]
    exact h.cnt
theorem ltT_irrefl (a b : Int) : ltT a b a b = false := by simp [ltT]
theorem mine_raise {c n sp sl : Int} {prim : List UInt8} {W : List Wr} {mp ml : Int} {T : Tb} (h : Mine c n sp sl prim W mp ml T) (c' n' mp' ml' : Int) : ∃ m1 m2, Mine c n sp sl prim W m1 m2 (raiseF c' n' mp' ml' T) ∧ ltT m1 m2 mp ml = false := by
  by_cases e : (c' = c ∧ n' = n) ∧ ltT mp ml mp' ml' = true
  · obtain ⟨⟨rfl, rfl⟩, e⟩ := e
    refine ⟨mp', ml', ⟨raise_srt h.srt, fun w hw => ?_, by rw [raise_by]; exact h.cnt⟩, ?_⟩
    · rw [raise_get, h.has w hw]
      simp [raise1, mkI, ofBy, e]
    · simp only [ltT, Bool.or_eq_true, Bool.and_eq_true, decide_eq_true_eq] at e
      simp only [ltT, Bool.or_eq_false_iff, Bool.and_eq_false_iff, decide_eq_false_iff_not]
      omega
  · refine ⟨mp, ml, ⟨raise_srt h.srt, fun w hw => ?_, by rw [raise_by]; exact h.cnt⟩, ltT_irrefl _ _⟩
    rw [raise_get, h.has w hw]
    have hf : (ofBy c' n' (mkI c n sp sl mp ml prim w) && ltT mp ml mp' ml') = false := by
      rw [ofBy_mk]
      by_cases e1 : c' = c ∧ n' = n
      · have : ltT mp ml mp' ml' = false := by
          cases h9 : ltT mp ml mp' ml'
          · rfl
          · exact absurd ⟨e1, h9⟩ e
        rw [this, Bool.and_false]
      · have : (c == c' && n == n') = false := by
          simp only [Bool.and_eq_false_iff, beq_eq_false_iff_ne]
          by_cases e2 : c = c'
          · exact .inr (fun e3 => e1 ⟨e2.symm, e3.symm⟩)
          · exact .inl e2
        rw [this, Bool.false_and]
    simp only [Option.map_some, raise1]
    rw [if_neg]
    show ¬ (ofBy c' n' (mkI c n sp sl mp ml prim w) && ltT mp ml mp' ml') = true
    rw [hf]
    simp
/-- Cut, nothing of one's own is there. -/
theorem mine_end {c n sp sl : Int} {prim : List UInt8} {W : List Wr} {mp ml : Int} {T : Tb} (h : Mine c n sp sl prim W mp ml T) : ∀ w ∈ W, getF w.key (restF c n T) = none := fun w hw => by
  cases e : getF w.key (restF c n T) with
  | none => rfl
  | some v =>
    obtain ⟨h1, h2⟩ := (get_filter h.srt _ _ _).1 e
    rw [h.has w hw] at h1
    injection h1 with h1
    rw [← h1] at h2
    simp [mkI, ofBy] at h2
end Go.Proofs.Ytknfkpnicjellaa
