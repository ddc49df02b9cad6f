/-
  Chains, plain.
-/
import Derived.WalkKit
namespace Go.Proofs.Ytcfhkggijdjagaa

/-- A version: its stamp's parts, its writer's two numbers, its value, whether it is dead. -/
structure Ve where
  p : Int
  l : Int
  c : Int
  n : Int
  val : List UInt8
  dead : Bool

/-- Is the stamp (p, l) below u's? -/
def ltS (p l : Int) (u : Ve) : Bool := decide (p < u.p ∨ p = u.p ∧ l < u.l)
theorem ltS_iff {p l : Int} {u : Ve} : ltS p l u = true ↔ (p < u.p ∨ p = u.p ∧ l < u.l) := by simp [ltS]
theorem ltS_not {p l : Int} {u : Ve} : ltS p l u = false ↔ ¬ (p < u.p ∨ p = u.p ∧ l < u.l) := by unfold ltS; exact decide_eq_false_iff_not
def atB (u v : Ve) : Bool := u.p == v.p && u.l == v.l
theorem atB_iff {u v : Ve} : atB u v = true ↔ u.p = v.p ∧ u.l = v.l := by simp [atB]
def eqV (u v : Ve) : Bool := u.p == v.p && u.l == v.l && u.c == v.c && u.n == v.n && u.val == v.val && u.dead == v.dead
theorem eqV_iff {u v : Ve} : eqV u v = true ↔ u = v := by
  obtain ⟨a, b, c, d, e, f⟩ := u
  obtain ⟨a', b', c', d', e', f'⟩ := v
  simp [eqV, and_assoc]

/-- May it be in a chain? -/
def vOk (v : Ve) : Bool := decide (v.p ≤ 281474976710656 ∧ v.l ≤ 4095) && decide (v.val.length ≤ 256) && (!v.dead || v.val.isEmpty)

/-- Each one's stamp is below that of the one ahead of it. -/
def Desc (c : List Ve) : Prop := c.Pairwise (fun a b => ltS b.p b.l a = true)
structure Ch (c : List Ve) : Prop where
  ok : ∀ v ∈ c, vOk v = true
  desc : Desc c
  len : c.length ≤ 1000

/-- What Right asks, one behind the other: from the stamp of the one ahead on, if there is one. -/
def okFrom : Option Ve → List Ve → Bool
  | _, [] => true
  | none, v :: r => vOk v && okFrom (some v) r
  | some u, v :: r => vOk v && ltS v.p v.l u && okFrom (some v) r
def rightC (c : List Ve) : Bool := okFrom none c && decide (c.length ≤ 1000)

theorem okFrom_some : ∀ (c : List Ve) (u : Ve), okFrom (some u) c = true ↔ (∀ v ∈ c, vOk v = true) ∧ (∀ v ∈ c, ltS v.p v.l u = true) ∧ Desc c
  | [], u => by simp [okFrom, Desc]
  | v :: r, u => by
    unfold okFrom
    rw [Bool.and_eq_true, Bool.and_eq_true, okFrom_some r v]
    constructor
    · rintro ⟨⟨h1, h2⟩, h3, h4, h5⟩
      refine ⟨?_, ?_, List.pairwise_cons.2 ⟨h4, h5⟩⟩
      · intro x hx
        rcases List.mem_cons.1 hx with rfl | hx
        · exact h1
        · exact h3 x hx
      · intro x hx
        rcases List.mem_cons.1 hx with rfl | hx
        · exact h2
        · have a := ltS_iff.1 (h4 x hx)
          have b := ltS_iff.1 h2
          exact ltS_iff.2 (by omega)
    · rintro ⟨h1, h2, h3⟩
      obtain ⟨h4, h5⟩ := List.pairwise_cons.1 h3
      exact ⟨⟨h1 v (by simp), h2 v (by simp)⟩, fun x hx => h1 x (by simp [hx]), h4, h5⟩
theorem okFrom_none (c : List Ve) : okFrom none c = true ↔ (∀ v ∈ c, vOk v = true) ∧ Desc c := by
  cases c with
  | nil => simp [okFrom, Desc]
  | cons v r =>
    unfold okFrom
    rw [Bool.and_eq_true, okFrom_some r v]
    constructor
    · rintro ⟨h1, h3, h4, h5⟩
      refine ⟨?_, List.pairwise_cons.2 ⟨h4, h5⟩⟩
      intro x hx
      rcases List.mem_cons.1 hx with rfl | hx
      · exact h1
      · exact h3 x hx
    · rintro ⟨h1, h3⟩
      obtain ⟨h4, h5⟩ := List.pairwise_cons.1 h3
      exact ⟨h1 v (by simp), fun x hx => h1 x (by simp [hx]), h4, h5⟩
theorem rightC_iff {c : List Ve} : rightC c = true ↔ Ch c := by
  unfold rightC
  rw [Bool.and_eq_true, okFrom_none, decide_eq_true_eq]
  exact ⟨fun ⟨⟨h1, h2⟩, h3⟩ => ⟨h1, h2, h3⟩, fun ⟨h1, h2, h3⟩ => ⟨⟨h1, h2⟩, h3⟩⟩

/-- c with v in its place; nothing, if it has another one at v's stamp. -/
def insF (v : Ve) : List Ve → Option (List Ve)
  | [] => some [v]
  | u :: r => if ltS v.p v.l u then (insF v r).map (u :: ·) else if atB u v then (if eqV u v then some (u :: r) else none) else some (v :: u :: r)
def putF (c : List Ve) (v : Ve) : List Ve × Int :=
  if rightC c && vOk v then
    match insF v c with
    | none => ([], 40)
    | some d => if c.length < d.length ∧ 1000 ≤ c.length then ([], 3) else (d, 0)
  else ([], 1)
/-- What a snapshot sees. -/
def atR (p l : Int) : List Ve → Option Ve
  | [] => none
  | u :: r => if ltS p l u then atR p l r else some u
def atF (c : List Ve) (p l : Int) : Option Ve := if rightC c then atR p l c else none
def pruneR (p l : Int) : List Ve → List Ve
  | [] => []
  | u :: r => if ltS p l u then u :: pruneR p l r else if u.dead then [] else [u]
def pruneF (c : List Ve) (p l : Int) : List Ve := if rightC c then pruneR p l c else []

theorem insF_cases {v : Ve} : ∀ {c d : List Ve}, insF v c = some d → Desc c → (∀ x, x ∈ d ↔ x = v ∨ x ∈ c) ∧ Desc d ∧ (d = c ∧ v ∈ c ∨ d.length = c.length + 1)
  | [], d, h, _ => by
    simp only [insF, Option.some.injEq] at h
    subst h
    exact ⟨by simp, by simp [Desc], .inr rfl⟩
  | u :: r, d, h, hD => by
    obtain ⟨h4, h5⟩ := List.pairwise_cons.1 hD
    unfold insF at h
    by_cases h1 : ltS v.p v.l u = true
    · rw [if_pos h1] at h
      cases hi : insF v r with
      | none => rw [hi] at h; simp at h
      | some d' =>
        rw [hi] at h
        simp only [Option.map_some, Option.some.injEq] at h
        subst h
        obtain ⟨a, b, e⟩ := insF_cases hi h5
        refine ⟨fun x => ?_, List.pairwise_cons.2 ⟨fun x hx => ?_, b⟩, ?_⟩
        · rw [List.mem_cons, a x, List.mem_cons]
          constructor
          · rintro (h | h | h)
            · exact .inr (.inl h)
            · exact .inl h
            · exact .inr (.inr h)
          · rintro (h | h | h)
            · exact .inr (.inl h)
            · exact .inl h
            · exact .inr (.inr h)
        · rcases (a x).1 hx with rfl | hx
          · exact h1
          · exact h4 x hx
        · rcases e with ⟨rfl, e⟩ | e
          · exact .inl ⟨rfl, by simp [e]⟩
          · exact .inr (by simp [e])
    · rw [if_neg h1] at h
      by_cases h2 : atB u v = true
      · rw [if_pos h2] at h
        by_cases h3 : eqV u v = true
        · rw [if_pos h3] at h
          simp only [Option.some.injEq] at h
          have := eqV_iff.1 h3
          subst this
          subst h
          exact ⟨fun x => by simp, hD, .inl ⟨rfl, by simp⟩⟩
        · rw [if_neg h3] at h
          simp at h
      · rw [if_neg h2] at h
        simp only [Option.some.injEq] at h
        subst h
        have hlt : ltS u.p u.l v = true := by
          have a := ltS_not.1 (Bool.eq_false_iff.2 h1)
          have b : ¬ (u.p = v.p ∧ u.l = v.l) := fun hh => h2 (atB_iff.2 hh)
          exact ltS_iff.2 (by omega)
        refine ⟨fun x => by simp, List.pairwise_cons.2 ⟨fun x hx => ?_, hD⟩, .inr (by simp)⟩
        rcases List.mem_cons.1 hx with rfl | hx
        · exact hlt
        · have a := ltS_iff.1 (h4 x hx)
          have b := ltS_iff.1 hlt
          exact ltS_iff.2 (by omega)
theorem insF_sees {v : Ve} (p l : Int) : ∀ {c d : List Ve}, insF v c = some d → atR p l d = atR p l c ∨ atR p l d = some v
  | [], d, h => by
    simp only [insF, Option.some.injEq] at h
    subst h
    unfold atR
    split
    · exact .inl rfl
    · exact .inr rfl
  | u :: r, d, h => by
    unfold insF at h
    by_cases h1 : ltS v.p v.l u = true
    · rw [if_pos h1] at h
      cases hi : insF v r with
      | none => rw [hi] at h; simp at h
      | some d' =>
        rw [hi] at h
        simp only [Option.map_some, Option.some.injEq] at h
        subst h
        have := insF_sees p l hi
        show (if ltS p l u then atR p l d' else some u) = (if ltS p l u then atR p l r else some u) ∨ (if ltS p l u then atR p l d' else some u) = some v
        split
        · exact this
        · exact .inl rfl
    · rw [if_neg h1] at h
      by_cases h2 : atB u v = true
      · rw [if_pos h2] at h
        by_cases h3 : eqV u v = true
        · rw [if_pos h3] at h
          simp only [Option.some.injEq] at h
          subst h
          exact .inl rfl
        · rw [if_neg h3] at h
          simp at h
      · rw [if_neg h2] at h
        simp only [Option.some.injEq] at h
        subst h
        show (if ltS p l v then atR p l (u :: r) else some v) = atR p l (u :: r) ∨ (if ltS p l v then atR p l (u :: r) else some v) = some v
        split
        · exact .inl rfl
        · exact .inr rfl
/-- A version is refused for another's sake alone. -/
theorem insF_none {v : Ve} : ∀ {c : List Ve}, insF v c = none → ∃ u ∈ c, u.p = v.p ∧ u.l = v.l ∧ u ≠ v
  | [], h => by simp [insF] at h
  | u :: r, h => by
    unfold insF at h
    by_cases h1 : ltS v.p v.l u = true
    · rw [if_pos h1] at h
      cases hi : insF v r with
      | none =>
        obtain ⟨x, hx, h2⟩ := insF_none hi
        exact ⟨x, by simp [hx], h2⟩
      | some d' => rw [hi] at h; simp at h
    · rw [if_neg h1] at h
      by_cases h2 : atB u v = true
      · rw [if_pos h2] at h
        by_cases h3 : eqV u v = true
        · rw [if_pos h3] at h; simp at h
        · obtain ⟨a, b⟩ := atB_iff.1 h2
          exact ⟨u, by simp, a, b, fun e => h3 (eqV_iff.2 e)⟩
      · rw [if_neg h2] at h; simp at h

theorem putF_ok {c d : List Ve} {v : Ve} (h : putF c v = (d, 0)) : Ch c ∧ Ch d ∧ vOk v = true ∧ insF v c = some d ∧ ∀ x, x ∈ d ↔ x = v ∨ x ∈ c := by
  unfold putF at h
  by_cases h1 : (rightC c && vOk v) = true
  · rw [if_pos h1] at h
    rw [Bool.and_eq_true, rightC_iff] at h1
    cases hi : insF v c with
    | none => rw [hi] at h; simp at h
    | some d' =>
      rw [hi] at h
      dsimp only at h
      by_cases h2 : c.length < d'.length ∧ 1000 ≤ c.length
      · rw [if_pos h2] at h; simp at h
      · rw [if_neg h2] at h
        simp only [Prod.mk.injEq, and_true] at h
        subst h
        obtain ⟨a, b, e⟩ := insF_cases hi h1.1.desc
        have hl := h1.1.len
        refine ⟨h1.1, ⟨fun x hx => ?_, b, ?_⟩, h1.2, rfl, a⟩
        · rcases (a x).1 hx with rfl | hx
          · exact h1.2
          · exact h1.1.ok x hx
        · rcases e with ⟨rfl, _⟩ | e
          · exact hl
          · omega
  · rw [if_neg h1] at h; simp at h
/-- Behind Put a snapshot sees what it saw, or the new one. -/
theorem put_sees {c d : List Ve} {v : Ve} (h : putF c v = (d, 0)) (p l : Int) : atF d p l = atF c p l ∨ atF d p l = some v := by
  obtain ⟨h1, h2, _, h4, _⟩ := putF_ok h
  unfold atF
  rw [if_pos (rightC_iff.2 h1), if_pos (rightC_iff.2 h2)]
  exact insF_sees p l h4

theorem pruneR_pre (p l : Int) : ∀ c : List Ve, ∃ r, c = pruneR p l c ++ r
  | [] => ⟨[], rfl⟩
  | u :: r => by
    obtain ⟨r', h⟩ := pruneR_pre p l r
    unfold pruneR
    split
    · exact ⟨r', by rw [List.cons_append, ← h]⟩
    · split
      · exact ⟨u :: r, rfl⟩
      · exact ⟨r, rfl⟩
theorem pruneR_take (p l : Int) (c : List Ve) : c.take (pruneR p l c).length = pruneR p l c := by
  obtain ⟨r, h⟩ := pruneR_pre p l c
  exact (congrArg (List.take (pruneR p l c).length) h).trans (by simp)
theorem pruneR_ch {c : List Ve} (h : Ch c) (p l : Int) : Ch (pruneR p l c) ∧ (pruneR p l c).length ≤ c.length := by
  obtain ⟨r, hr⟩ := pruneR_pre p l c
  have hl : c.length = (pruneR p l c).length + r.length := by
    have := congrArg List.length hr
    simpa using this
  have hlen := h.len
  refine ⟨⟨fun v hv => h.ok v (by rw [hr]; simp [hv]), ?_, by omega⟩, by omega⟩
  have hd := h.desc
  unfold Desc at hd ⊢
  rw [hr] at hd
  exact (List.pairwise_append.1 hd).1
/-- What is seen of x: nothing, if it is dead. -/
def live (x : Option Ve) : Option Ve := x.bind fun v => if v.dead then none else some v
theorem prune_sees {p l q m : Int} (h : ¬ (q < p ∨ q = p ∧ m < l)) : ∀ c : List Ve, live (atR q m (pruneR p l c)) = live (atR q m c)
  | [] => rfl
  | u :: r => by
    have ih := prune_sees h r
    by_cases h1 : ltS p l u = true
    · have e : pruneR p l (u :: r) = u :: pruneR p l r := by
        conv => lhs; unfold pruneR
        rw [if_pos h1]
      rw [e]
      show live (if ltS q m u then atR q m (pruneR p l r) else some u) = live (if ltS q m u then atR q m r else some u)
      split
      · exact ih
      · rfl
    · have h2 : ltS q m u = false := by
        have a := ltS_not.1 (Bool.eq_false_iff.2 h1)
        exact ltS_not.2 (by omega)
      have e : pruneR p l (u :: r) = if u.dead then [] else [u] := by
        conv => lhs; unfold pruneR
        rw [if_neg h1]
      have e2 : atR q m (u :: r) = some u := by
        conv => lhs; unfold atR
        rw [h2]; rfl
      rw [e, e2]
      by_cases hd : u.dead = true
      · simp [hd, live, atR]
      · simp [hd, live, atR, h2]
/-- Pruned twice is pruned once, at the greater stamp. -/
theorem prune_twice {p l q m : Int} (h : ¬ (q < p ∨ q = p ∧ m < l)) : ∀ c : List Ve, pruneR q m (pruneR p l c) = pruneR q m c
  | [] => rfl
  | u :: r => by
    have ih := prune_twice h r
    by_cases h1 : ltS p l u = true
    · have e : pruneR p l (u :: r) = u :: pruneR p l r := by
        conv => lhs; unfold pruneR
        rw [if_pos h1]
      rw [e]
      show (if ltS q m u then u :: pruneR q m (pruneR p l r) else if u.dead then [] else [u]) = (if ltS q m u then u :: pruneR q m r else if u.dead then [] else [u])
      rw [ih]
    · have h2 : ltS q m u = false := by
        have a := ltS_not.1 (Bool.eq_false_iff.2 h1)
        exact ltS_not.2 (by omega)
      have e : pruneR p l (u :: r) = if u.dead then [] else [u] := by
        conv => lhs; unfold pruneR
        rw [if_neg h1]
      have e2 : pruneR q m (u :: r) = if u.dead then [] else [u] := by
        conv => lhs; unfold pruneR
        rw [h2]; rfl
      rw [e, e2]
      by_cases hd : u.dead = true
      · simp [hd, pruneR]
      · simp [hd, pruneR, h2]

/-- Two chains of the same versions are the same. -/
theorem desc_ext : ∀ {a b : List Ve}, Desc a → Desc b → (∀ x, x ∈ a ↔ x ∈ b) → a = b
  | [], [], _, _, _ => rfl
  | [], y :: s, _, _, h => absurd ((h y).2 (by simp)) (by simp)
  | x :: r, [], _, _, h => absurd ((h x).1 (by simp)) (by simp)
  | x :: r, y :: s, ha, hb, h => by
    obtain ⟨ha1, ha2⟩ := List.pairwise_cons.1 ha
    obtain ⟨hb1, hb2⟩ := List.pairwise_cons.1 hb
    have hxy : x = y := by
      rcases List.mem_cons.1 ((h x).1 (by simp)) with e | e
      · exact e
      · rcases List.mem_cons.1 ((h y).2 (by simp)) with e' | e'
        · exact e'.symm
        · have a := ltS_iff.1 (hb1 x e)
          have b := ltS_iff.1 (ha1 y e')
          omega
    subst hxy
    have : r = s := desc_ext ha2 hb2 fun z => by
      constructor
      · intro hz
        rcases List.mem_cons.1 ((h z).1 (by simp [hz])) with e | e
        · subst e
          have a := ltS_iff.1 (ha1 z hz)
          omega
        · exact e
      · intro hz
        rcases List.mem_cons.1 ((h z).2 (by simp [hz])) with e | e
        · subst e
          have a := ltS_iff.1 (hb1 z hz)
          omega
        · exact e
    rw [this]

/-- Versions put one behind the other; those that are refused are let go. -/
def bldF (c : List Ve) : List Ve → List Ve
  | [] => c
  | v :: r => bldF (if (putF c v).2 = 0 then (putF c v).1 else c) r
theorem put_step {c : List Ve} (h : Ch c) (v : Ve) : Ch (if (putF c v).2 = 0 then (putF c v).1 else c) ∧ (if (putF c v).2 = 0 then (putF c v).1 else c).length ≤ c.length + 1 := by
  by_cases h0 : (putF c v).2 = 0
  · rw [if_pos h0]
    have hp : putF c v = ((putF c v).1, 0) := by rw [← h0]
    obtain ⟨_, h2, _, h4, _⟩ := putF_ok hp
    obtain ⟨_, _, e⟩ := insF_cases h4 h.desc
    refine ⟨h2, ?_⟩
    rcases e with ⟨e, _⟩ | e
    · rw [e]; omega
    · omega
  · rw [if_neg h0]
    exact ⟨h, by omega⟩
theorem bldF_ch : ∀ {l c : List Ve}, Ch c → Ch (bldF c l) ∧ (bldF c l).length ≤ c.length + l.length
  | [], c, h => ⟨h, by simp [bldF]⟩
  | v :: r, c, h => by
    obtain ⟨h1, h2⟩ := put_step h v
    obtain ⟨h3, h4⟩ := bldF_ch (l := r) h1
    refine ⟨h3, ?_⟩
    show (bldF _ r).length ≤ _
    simp only [List.length_cons]
    omega
/-- Where no two versions of one stamp are unlike, all that may be in a chain are in it. -/
theorem bldF_mem : ∀ {l c : List Ve}, Ch c → c.length + l.length ≤ 1000 → (∀ x y, (x ∈ c ∨ x ∈ l) → (y ∈ c ∨ y ∈ l) → x.p = y.p → x.l = y.l → x = y) → ∀ x, x ∈ bldF c l ↔ x ∈ c ∨ x ∈ l ∧ vOk x = true
  | [], c, _, _, _, x => by simp [bldF]
  | v :: r, c, h, hl, hd, x => by
    simp only [List.length_cons] at hl
    obtain ⟨h1, h2⟩ := put_step h v
    have hmem : ∀ z, z ∈ (if (putF c v).2 = 0 then (putF c v).1 else c) ↔ z ∈ c ∨ z = v ∧ vOk v = true := by
      intro z
      by_cases hv : vOk v = true
      · cases hi : insF v c with
        | none =>
          obtain ⟨u, hu, e1, e2, e3⟩ := insF_none hi
          exact absurd (hd u v (.inl hu) (.inr (by simp)) e1 e2) e3
        | some d =>
          have hp : putF c v = (d, 0) := by
            unfold putF
            rw [if_pos (by rw [Bool.and_eq_true]; exact ⟨rightC_iff.2 h, hv⟩), hi]
            dsimp only
            rw [if_neg (by omega)]
          rw [if_pos (by rw [hp])]
          rw [hp]
          dsimp only
          rw [(putF_ok hp).2.2.2.2 z]
          simp only [hv, and_true]
          exact or_comm
      · have hp : (putF c v).2 = 1 := by
          unfold putF
          rw [if_neg (by rw [Bool.and_eq_true]; exact fun hh => hv hh.2)]
        rw [if_neg (by rw [hp]; decide)]
        simp [hv]
    have ih := bldF_mem (l := r) h1 (by omega) (fun a b ha hb => hd a b
      (by rcases ha with ha | ha
          · rcases (hmem a).1 ha with ha | ⟨rfl, _⟩
            · exact .inl ha
            · exact .inr (by simp)
          · exact .inr (by simp [ha]))
      (by rcases hb with hb | hb
          · rcases (hmem b).1 hb with hb | ⟨rfl, _⟩
            · exact .inl hb
            · exact .inr (by simp)
          · exact .inr (by simp [hb]))) x
    show x ∈ bldF _ r ↔ _
    rw [ih, hmem x, List.mem_cons]
    constructor
    · rintro ((a | ⟨rfl, b⟩) | ⟨a, b⟩)
      · exact .inl a
      · exact .inr ⟨.inl rfl, b⟩
      · exact .inr ⟨.inr a, b⟩
    · rintro (a | ⟨rfl | a, b⟩)
      · exact .inl (.inl a)
      · exact .inl (.inr ⟨rfl, b⟩)
      · exact .inr ⟨a, b⟩
theorem ch_nil : Ch [] := ⟨by simp, by simp [Desc], by simp⟩
/-- The order plays no part. -/
theorem order_none {l k : List Ve} (hl : l.length ≤ 1000) (hk : k.length ≤ 1000) (hm : ∀ x, x ∈ k ↔ x ∈ l) (hd : ∀ x y, x ∈ l → y ∈ l → x.p = y.p → x.l = y.l → x = y) : bldF [] l = bldF [] k := by
  refine desc_ext (bldF_ch ch_nil).1.desc (bldF_ch ch_nil).1.desc fun x => ?_
  rw [bldF_mem ch_nil (by simpa using hl) (fun a b ha hb => hd a b (by simpa using ha) (by simpa using hb)), bldF_mem ch_nil (by simpa using hk) (fun a b ha hb => hd a b (by simpa [hm] using ha) (by simpa [hm] using hb))]
  simp [hm]

/-- A version that none is above, put into a chain: ahead of all, or it was there. -/
theorem ins_top {v : Ve} {c d : List Ve} (ht : ∀ u ∈ c, ltS v.p v.l u = false) (h : insF v c = some d) : d = v :: c ∨ d = c ∧ ∃ r, c = v :: r := by
  cases c with
  | nil =>
    simp only [insF, Option.some.injEq] at h
    exact .inl h.symm
  | cons u r =>
    unfold insF at h
    rw [ht u (by simp)] at h
    simp only [Bool.false_eq_true, if_false] at h
    by_cases h2 : atB u v = true
    · rw [if_pos h2] at h
      by_cases h3 : eqV u v = true
      · rw [if_pos h3] at h
        simp only [Option.some.injEq] at h
        exact .inr ⟨h.symm, r, by rw [eqV_iff.1 h3]⟩
      · rw [if_neg h3] at h; simp at h
    · rw [if_neg h2] at h
      simp only [Option.some.injEq] at h
      exact .inl h.symm
theorem desc_not {v : Ve} {c : List Ve} (h : Desc (v :: c)) : v ∉ c := fun hv => by
  have a := ltS_iff.1 ((List.pairwise_cons.1 h).1 v hv)
  omega
/-- What is put above the safe stamp comes to the same ahead of pruning and behind it. -/
theorem prune_put {v : Ve} {c x y : List Ve} {p l : Int} (ht : ∀ u ∈ c, ltS v.p v.l u = false) (hlt : ltS p l v = true) (hx : putF (pruneR p l c) v = (x, 0)) (hy : putF c v = (y, 0)) : x = pruneR p l y := by
  obtain ⟨hp, hxc, _, hix, _⟩ := putF_ok hx
  obtain ⟨hc, hyc, _, hiy, _⟩ := putF_ok hy
  obtain ⟨r0, hr0⟩ := pruneR_pre p l c
  have hsub : ∀ u ∈ pruneR p l c, u ∈ c := fun u hu => by rw [hr0]; simp [hu]
  have e : ∀ s, pruneR p l (v :: s) = v :: pruneR p l s := fun s => by
    conv => lhs; unfold pruneR
    rw [if_pos hlt]
  rcases ins_top ht hiy with rfl | ⟨rfl, r, hr⟩
  · rcases ins_top (fun u hu => ht u (hsub u hu)) hix with rfl | ⟨rfl, r', hr'⟩
    · rw [e]
    · exact absurd (hsub v (by rw [hr']; simp)) (desc_not hyc.desc)
  · rcases ins_top (fun u hu => ht u (hsub u hu)) hix with rfl | ⟨rfl, _⟩
    · refine absurd ?_ (desc_not hxc.desc)
      rw [hr, e]
      simp
    · rfl
/-- Where such a version is refused, the newest one has its stamp. -/
theorem top_no {v : Ve} {c : List Ve} (hc : Ch c) (hl : c.length < 1000) (hv : vOk v = true) (ht : ∀ u ∈ c, ltS v.p v.l u = false) (h : ¬ (putF c v).2 = 0) : ∃ u r, c = u :: r ∧ u.p = v.p ∧ u.l = v.l := by
  unfold putF at h
  rw [if_pos (by rw [Bool.and_eq_true]; exact ⟨rightC_iff.2 hc, hv⟩)] at h
  cases hi : insF v c with
  | some d =>
    rw [hi] at h
    dsimp only at h
    rw [if_neg (by omega)] at h
    exact absurd rfl h
  | none =>
    obtain ⟨u, hu, e1, e2, _⟩ := insF_none hi
    cases c with
    | nil => simp at hu
    | cons y r =>
      rcases List.mem_cons.1 hu with rfl | hu
      · exact ⟨u, r, rfl, e1, e2⟩
      · have a := ltS_iff.1 ((List.pairwise_cons.1 hc.desc).1 u hu)
        have b := ltS_not.1 (ht y (by simp))
        omega
theorem top_no_pruned {v : Ve} {c : List Ve} (hc : Ch c) (hl : c.length < 1000) (hv : vOk v = true) (ht : ∀ u ∈ c, ltS v.p v.l u = false) (p l : Int) (h : ¬ (putF (pruneR p l c) v).2 = 0) : ∃ u r, c = u :: r ∧ u.p = v.p ∧ u.l = v.l := by
  obtain ⟨r0, hr0⟩ := pruneR_pre p l c
  obtain ⟨h1, h2⟩ := pruneR_ch hc p l
  obtain ⟨u, r, e, e1, e2⟩ := top_no h1 (by omega) hv (fun u hu => ht u (by rw [hr0]; simp [hu])) h
  rw [e] at hr0
  exact ⟨u, r ++ r0, hr0, e1, e2⟩
end Go.Proofs.Ytcfhkggijdjagaa

namespace Go.Proofs.Ytcfhkggijdjagaa

/-- How many of the first versions are above the stamp (p, l). -/
def seenN (p l : Int) : List Ve → Nat
  | [] => 0
  | u :: r => if ltS p l u then seenN p l r + 1 else 0
theorem seenN_le (p l : Int) : ∀ c : List Ve, seenN p l c ≤ c.length
  | [] => Nat.le_refl _
  | u :: r => by
    have := seenN_le p l r
    unfold seenN
    split <;> simp only [List.length_cons] <;> omega
/-- The place is told by what lies ahead of it, and at it. -/
theorem seenN_eq {p l : Int} : ∀ {c : List Ve} {k : Nat}, k ≤ c.length → (∀ (j : Nat) (u : Ve), j < k → c[j]? = some u → ltS p l u = true) → (∀ u, c[k]? = some u → ltS p l u = false) → seenN p l c = k
  | [], k, hk, _, _ => by
    have : k = 0 := by simpa using hk
    subst this; rfl
  | u :: r, 0, _, _, h => by
    have := h u rfl
    unfold seenN
    rw [this]; rfl
  | u :: r, k + 1, hk, h1, h2 => by
    have h0 := h1 0 u (by omega) rfl
    have ih := seenN_eq (p := p) (l := l) (c := r) (k := k) (by simpa using hk) (fun j x hj hx => h1 (j + 1) x (by omega) (by simpa using hx)) (fun x hx => h2 x (by simpa using hx))
    unfold seenN
    rw [h0, if_pos rfl, ih]

theorem atR_seen (p l : Int) : ∀ c : List Ve, atR p l c = c[seenN p l c]?
  | [] => rfl
  | u :: r => by
    have ih := atR_seen p l r
    unfold atR seenN
    by_cases h : ltS p l u = true
    · rw [if_pos h, if_pos h, ih]; simp
    · rw [if_neg h, if_neg h]; simp
theorem pruneR_seen (p l : Int) : ∀ c : List Ve, pruneR p l c = match c[seenN p l c]? with
    | some u => if u.dead then c.take (seenN p l c) else c.take (seenN p l c + 1)
    | none => c
  | [] => rfl
  | u :: r => by
    have ih := pruneR_seen p l r
    unfold pruneR seenN
    by_cases h : ltS p l u = true
    · rw [if_pos h, if_pos h, ih]
      simp only [List.getElem?_cons_succ]
      cases hc : r[seenN p l r]? with
      | none => rfl
      | some x =>
        cases hd : x.dead <;> simp [hd]
    · rw [if_neg h, if_neg h]
      simp only [List.getElem?_cons_zero]
      cases hd : u.dead <;> simp
theorem insF_seen (v : Ve) : ∀ c : List Ve, insF v c = match c[seenN v.p v.l c]? with
    | some u => if atB u v then (if eqV u v then some c else none) else some (c.take (seenN v.p v.l c) ++ v :: c.drop (seenN v.p v.l c))
    | none => some (c ++ [v])
  | [] => rfl
  | u :: r => by
    have ih := insF_seen v r
    unfold insF seenN
    by_cases h : ltS v.p v.l u = true
    · rw [if_pos h, if_pos h, ih]
      simp only [List.getElem?_cons_succ]
      cases hc : r[seenN v.p v.l r]? with
      | none => rfl
      | some x =>
        cases h1 : atB x v <;> cases h2 : eqV x v <;> simp [h1, h2]
    · rw [if_neg h, if_neg h]
      simp only [List.getElem?_cons_zero]
      rfl

end Go.Proofs.Ytcfhkggijdjagaa
