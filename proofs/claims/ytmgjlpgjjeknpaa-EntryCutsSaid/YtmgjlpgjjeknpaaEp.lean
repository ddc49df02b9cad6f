/-
  Entries as plain records: which are right, their bytes, what is read of bytes; there and back, one way alone.
-/
import Derived.Test.YtmgjlpgjjeknpaaBack
namespace Go.Proofs.Ytmgjlpgjjeknpaa

/-- A write: its key, its value, whether it is dead. -/
structure Wr where
  key : List UInt8
  val : List UInt8
  dead : Bool
/-- An entry: its kind, of whom, its stamps, the primary, the parts, whether all know, its writes. -/
structure En where
  k : Int
  c : Nat
  n : Nat
  sp : Nat
  sl : Nat
  ap : Nat
  al : Nat
  mp : Nat
  ml : Nat
  prim : List UInt8
  pt : Nat
  dn : Bool
  ws : List Wr
def hasBy (k : Int) : Bool := !(k == 1) && !(k == 6)
def hasSt (k : Int) : Bool := k == 2 || k == 3 || k == 5 || k == 9
def hasAt (k : Int) : Bool := k == 1 || k == 3 || k == 4 || k == 6 || k == 8 || k == 9
def hasPt (k : Int) : Bool := k == 3 || k == 9
def hasWs (k : Int) : Bool := k == 2 || k == 8
def rightS (p l : Nat) : Bool := decide (p ≤ 281474976710656) && decide (l ≤ 4095)
def kOk (k : List UInt8) : Bool := decide (1 ≤ k.length) && decide (k.length ≤ 32)
def wOk (x : Wr) : Bool := kOk x.key && decide (x.val.length ≤ 256) && !(x.dead && !x.val.isEmpty)
def rightW (l : List Wr) : Bool := l.all wOk && decide ((l.map (·.key)).Nodup) && decide (1 ≤ l.length) && decide (l.length ≤ 16)
/-- With just the fields of its kind. -/
def bareE (e : En) : En :=
  { k := e.k, c := if hasBy e.k then e.c else 0, n := if hasBy e.k then e.n else 0, sp := if hasSt e.k then e.sp else 0, sl := if hasSt e.k then e.sl else 0
    ap := if hasAt e.k then e.ap else 0, al := if hasAt e.k then e.al else 0, mp := if e.k = 2 then e.mp else 0, ml := if e.k = 2 then e.ml else 0
    prim := if e.k = 2 then e.prim else [], pt := if hasPt e.k then e.pt else 0, dn := if e.k = 9 then e.dn else false, ws := if hasWs e.k then e.ws else [] }
def eqW (a b : Wr) : Bool := a.key == b.key && a.val == b.val && a.dead == b.dead
def eqWs : List Wr → List Wr → Bool
  | [], [] => true
  | a :: r, b :: q => eqW a b && eqWs r q
  | _, _ => false
def sameE (a b : En) : Bool := eqWs a.ws b.ws && a.k == b.k && (a.c == b.c && a.n == b.n) && (a.sp == b.sp && a.sl == b.sl) && (a.ap == b.ap && a.al == b.al) && (a.mp == b.mp && a.ml == b.ml) && a.prim == b.prim && a.pt == b.pt && a.dn == b.dn
def noneAt (e : En) : Bool := e.ap == 0 && e.al == 0
def kindOk (e : En) : Bool :=
  if e.k = 2 then kOk e.prim && rightW e.ws else if e.k = 3 ∨ e.k = 4 then !noneAt e else if e.k = 8 then e.ws.length == 1 && rightW e.ws else if e.k = 9 then !noneAt e || (e.pt == 0 && !e.dn) else true
def rightE (e : En) : Bool := decide (1 ≤ e.k) && decide (e.k ≤ 9) && sameE e (bareE e) && (rightS e.sp e.sl && rightS e.ap e.al && rightS e.mp e.ml) && kindOk e
theorem eqW_iff {a b : Wr} : eqW a b = true ↔ a = b := by
  obtain ⟨k, v, d⟩ := a
  obtain ⟨k', v', d'⟩ := b
  simp [eqW, and_assoc]
theorem eqWs_iff : ∀ {a b : List Wr}, eqWs a b = true ↔ a = b
  | [], [] => by simp [eqWs]
  | [], b :: q => by simp [eqWs]
  | a :: r, [] => by simp [eqWs]
  | a :: r, b :: q => by simp [eqWs, eqW_iff, eqWs_iff (a := r) (b := q)]
theorem sameE_iff {a b : En} : sameE a b = true ↔ a = b := by
  obtain ⟨k, c, n, sp, sl, ap, al, mp, ml, prim, pt, dn, ws⟩ := a
  obtain ⟨k', c', n', sp', sl', ap', al', mp', ml', prim', pt', dn', ws'⟩ := b
  simp only [sameE, Bool.and_eq_true, eqWs_iff, beq_iff_eq, En.mk.injEq]
  constructor
  · rintro ⟨⟨⟨⟨⟨⟨⟨⟨h1, h2⟩, h3, h4⟩, h5, h6⟩, h7, h8⟩, h9, h10⟩, h11⟩, h12⟩, h13⟩
    exact ⟨h2, h3, h4, h5, h6, h7, h8, h9, h10, h11, h12, h13, h1⟩
  · rintro ⟨h2, h3, h4, h5, h6, h7, h8, h9, h10, h11, h12, h13, h1⟩
    exact ⟨⟨⟨⟨⟨⟨⟨⟨h1, h2⟩, h3, h4⟩, h5, h6⟩, h7, h8⟩, h9, h10⟩, h11⟩, h12⟩, h13⟩

/-- A write's bytes. -/
def wrForm (w : Wr) : List UInt8 := textForm w.key ++ (flagForm w.dead ++ textForm w.val)
def byForm (e : En) : List UInt8 := if hasBy e.k then numForm e.c ++ numForm e.n else []
def stForm (e : En) : List UInt8 := if hasSt e.k then stampForm e.sp e.sl else []
def midForm (e : En) : List UInt8 := if e.k = 2 then stampForm e.mp e.ml ++ (textForm e.prim ++ numForm e.ws.length) else if hasAt e.k then stampForm e.ap e.al else []
def wsForm (ws : List Wr) : List UInt8 := ws.flatMap wrForm
def ptForm (e : En) : List UInt8 := if hasPt e.k then numForm e.pt else []
def dnForm (e : En) : List UInt8 := if e.k = 9 then flagForm e.dn else []
def formE (e : En) : List UInt8 := numForm e.k.toNat ++ (byForm e ++ (stForm e ++ (midForm e ++ (wsForm e.ws ++ (ptForm e ++ dnForm e)))))
/-- What is written. -/
def writeE (e : En) : List UInt8 × Int := if rightE e then (formE e, 0) else ([], 1)

def rBy (k : Int) (st : St) : (Nat × Nat) × St := if hasBy k then (((rdNum 4294967295 st).1, (rdNum 4294967295 (rdNum 4294967295 st).2).1), (rdNum 4294967295 (rdNum 4294967295 st).2).2) else ((0, 0), st)
def rSt (k : Int) (st : St) : (Nat × Nat) × St := if hasSt k then rdStamp st else ((0, 0), st)
def rMin (k : Int) (st : St) : (Nat × Nat) × St := if k = 2 then rdStamp st else ((0, 0), st)
def rPrim (k : Int) (st : St) : List UInt8 × St := if k = 2 then rdText 1 32 st else ([], st)
def rCnt (k : Int) (st : St) : Nat × St := if k = 2 then rdNum 16 st else (if k = 8 then 1 else 0, st)
def rAt (k : Int) (st : St) : (Nat × Nat) × St := if hasAt k then rdStamp st else ((0, 0), st)
def rWr (st : St) : Wr × St := (⟨(rdText 1 32 st).1, (rdText 0 256 (rdFlag (rdText 1 32 st).2).2).1, (rdFlag (rdText 1 32 st).2).1⟩, (rdText 0 256 (rdFlag (rdText 1 32 st).2).2).2)
def rWs : Nat → St → List Wr × St
  | 0, st => ([], st)
  | n + 1, st => ((rWs n st).1 ++ [(rWr (rWs n st).2).1], (rWr (rWs n st).2).2)
def rPt (k : Int) (st : St) : Nat × St := if hasPt k then rdNum 255 st else (0, st)
def rDn (k : Int) (st : St) : Bool × St := if k = 9 then rdFlag st else (false, st)
/-- What bytes tell, whether or not it is an entry; what is left. -/
def rawE (s : List UInt8) : En × St :=
  let a0 := rdNum 9 ⟨s, 0⟩
  let k : Int := (a0.1 : Int)
  let a1 := rBy k a0.2
  let a2 := rSt k a1.2
  let a3 := rMin k a2.2
  let a4 := rPrim k a3.2
  let a5 := rCnt k a4.2
  let a6 := rAt k a5.2
  let a7 := rWs a5.1 a6.2
  let a8 := rPt k a7.2
  let a9 := rDn k a8.2
  (⟨k, a1.1.1, a1.1.2, a2.1.1, a2.1.2, a6.1.1, a6.1.2, a3.1.1, a3.1.2, a4.1, a8.1, a9.1, a7.1⟩, a9.2)
def zeroE : En := ⟨0, 0, 0, 0, 0, 0, 0, 0, 0, [], 0, false, []⟩
/-- The entry of bytes. -/
def readE (s : List UInt8) : Option En := if rdEnd (rawE s).2 = 0 ∧ rightE (rawE s).1 = true then some (rawE s).1 else none

/-- Numbers as their types bound them. -/
structure RgE (e : En) : Prop where
  c : e.c < 4294967296
  n : e.n < 4294967296
  pt : e.pt < 256

theorem rightE_iff {e : En} (h : rightE e = true) : (1 ≤ e.k ∧ e.k ≤ 9) ∧ e = bareE e ∧ (rightS e.sp e.sl = true ∧ rightS e.ap e.al = true ∧ rightS e.mp e.ml = true) ∧ kindOk e = true := by
  unfold rightE at h
  simp only [Bool.and_eq_true, decide_eq_true_eq, sameE_iff] at h
  obtain ⟨⟨⟨⟨h1, h2⟩, h3⟩, ⟨h4, h5⟩, h6⟩, h7⟩ := h
  exact ⟨⟨h1, h2⟩, h3, ⟨h4, h5, h6⟩, h7⟩
theorem rightS_iff {p l : Nat} : rightS p l = true ↔ p ≤ 281474976710656 ∧ l ≤ 4095 := by simp [rightS]
theorem kOk_iff {s : List UInt8} : kOk s = true ↔ 1 ≤ s.length ∧ s.length ≤ 32 := by simp [kOk]
theorem wOk_iff {w : Wr} (h : wOk w = true) : (1 ≤ w.key.length ∧ w.key.length ≤ 32) ∧ w.val.length ≤ 256 := by
  simp only [wOk, Bool.and_eq_true, kOk_iff, decide_eq_true_eq] at h
  exact ⟨h.1.1, h.1.2⟩
/-- The writes of a right entry: each right, at most sixteen; none but of kinds that have them; one of Have. -/
theorem right_ws {e : En} (h : rightE e = true) : (∀ w ∈ e.ws, wOk w = true) ∧ e.ws.length ≤ 16 ∧ (e.k ≠ 2 → e.ws.length = if e.k = 8 then 1 else 0) := by
  obtain ⟨_, hb, _, hk⟩ := rightE_iff h
  have hw : e.ws = if hasWs e.k then e.ws else [] := congrArg En.ws hb
  by_cases h2 : e.k = 2
  · unfold kindOk at hk
    rw [if_pos h2] at hk
    simp only [rightW, Bool.and_eq_true, decide_eq_true_eq, List.all_eq_true] at hk
    exact ⟨hk.2.1.1.1, hk.2.2, fun h => absurd h2 h⟩
  · by_cases h8 : e.k = 8
    · unfold kindOk at hk
      rw [if_neg h2, if_neg (by omega), if_pos h8] at hk
      simp only [rightW, Bool.and_eq_true, decide_eq_true_eq, List.all_eq_true, beq_iff_eq] at hk
      exact ⟨hk.2.1.1.1, hk.2.2, fun _ => by rw [if_pos h8]; exact hk.1⟩
    · have : hasWs e.k = false := by simp [hasWs, h2, h8]
      rw [this] at hw
      simp only [Bool.false_eq_true, if_false] at hw
      rw [hw]
      exact ⟨by simp, by simp, fun _ => by rw [if_neg h8]; rfl⟩

theorem by_form {k : Int} {c n : Nat} (R : List UInt8) (hc : c < 4294967296) (hn : n < 4294967296) (h0 : hasBy k = false → c = 0 ∧ n = 0) : rBy k ⟨(if hasBy k then numForm c ++ numForm n else []) ++ R, 0⟩ = ((c, n), ⟨R, 0⟩) := by
  unfold rBy
  cases hb : hasBy k with
  | true =>
    simp only [if_true, List.append_assoc]
    rw [num_form c 4294967295 _ (by omega) (by omega)]
    simp only
    rw [num_form n 4294967295 _ (by omega) (by omega)]
  | false =>
    obtain ⟨rfl, rfl⟩ := h0 hb
    simp
theorem st_form {b : Bool} {p l : Nat} (R : List UInt8) (hs : rightS p l = true) (h0 : b = false → p = 0 ∧ l = 0) : (if b then rdStamp ⟨(if b then stampForm p l else []) ++ R, 0⟩ else ((0, 0), ⟨(if b then stampForm p l else []) ++ R, 0⟩)) = ((p, l), ⟨R, 0⟩) := by
  obtain ⟨h1, h2⟩ := rightS_iff.1 hs
  cases b with
  | true =>
    simp only [if_true]
    exact stamp_form p l R h1 h2
  | false =>
    obtain ⟨rfl, rfl⟩ := h0 rfl
    simp
theorem wr_form {w : Wr} (R : List UInt8) (h : wOk w = true) : rWr ⟨wrForm w ++ R, 0⟩ = (w, ⟨R, 0⟩) := by
  obtain ⟨⟨h1, h2⟩, h3⟩ := wOk_iff h
  unfold rWr wrForm
  rw [List.append_assoc, List.append_assoc, text_form w.key _ 1 32 (by omega) (by omega) (by omega)]
  simp only
  rw [flag_form]
  simp only
  rw [text_form w.val _ 0 256 (by omega) (by omega) (by omega)]
theorem ws_snoc (ws : List Wr) (w : Wr) : wsForm (ws ++ [w]) = wsForm ws ++ wrForm w := by simp [wsForm]
theorem ws_form : ∀ {ws : List Wr} (R : List UInt8), (∀ w ∈ ws, wOk w = true) → rWs ws.length ⟨wsForm ws ++ R, 0⟩ = (ws, ⟨R, 0⟩) := by
  intro ws
  induction hn : ws.length generalizing ws with
  | zero =>
    intro R _
    have : ws = [] := List.eq_nil_of_length_eq_zero hn
    subst this
    rfl
  | succ n ih =>
    intro R hw
    have hne : ws ≠ [] := by intro h; subst h; simp at hn
    obtain ⟨r, w, rfl⟩ : ∃ r w, ws = r ++ [w] := ⟨ws.dropLast, ws.getLast hne, (List.dropLast_concat_getLast hne).symm⟩
    have hl : r.length = n := by simpa using hn
    unfold rWs
    rw [ws_snoc, List.append_assoc, ih hl _ (fun x hx => hw x (List.mem_append_left _ hx))]
    simp only
    rw [wr_form _ (hw w (by simp))]
theorem en_eta (e : En) : e = ⟨e.k, e.c, e.n, e.sp, e.sl, e.ap, e.al, e.mp, e.ml, e.prim, e.pt, e.dn, e.ws⟩ := rfl
/-- What was written is read as it was. -/
theorem raw_form {e : En} (R : List UInt8) (h : rightE e = true) (hr : RgE e) : rawE (formE e ++ R) = (e, ⟨R, 0⟩) := by
  obtain ⟨⟨hk1, hk9⟩, hb, ⟨hs1, hs2, hs3⟩, hk⟩ := rightE_iff h
  obtain ⟨hw1, hw2, hw3⟩ := right_ws h
  obtain ⟨kn, hkn⟩ : ∃ kn : Nat, e.k = kn := ⟨e.k.toNat, by omega⟩
  have fc : hasBy e.k = false → e.c = 0 ∧ e.n = 0 := fun hf => ⟨by have := congrArg En.c hb; rw [bareE] at this; simpa [hf] using this, by have := congrArg En.n hb; rw [bareE] at this; simpa [hf] using this⟩
  have fs : hasSt e.k = false → e.sp = 0 ∧ e.sl = 0 := fun hf => ⟨by have := congrArg En.sp hb; rw [bareE] at this; simpa [hf] using this, by have := congrArg En.sl hb; rw [bareE] at this; simpa [hf] using this⟩
  have fa : hasAt e.k = false → e.ap = 0 ∧ e.al = 0 := fun hf => ⟨by have := congrArg En.ap hb; rw [bareE] at this; simpa [hf] using this, by have := congrArg En.al hb; rw [bareE] at this; simpa [hf] using this⟩
  have fm : e.k ≠ 2 → e.mp = 0 ∧ e.ml = 0 ∧ e.prim = [] := fun hf => ⟨by have := congrArg En.mp hb; rw [bareE] at this; simpa [hf] using this, by have := congrArg En.ml hb; rw [bareE] at this; simpa [hf] using this, by have := congrArg En.prim hb; rw [bareE] at this; simpa [hf] using this⟩
  have fp : hasPt e.k = false → e.pt = 0 := fun hf => by have := congrArg En.pt hb; rw [bareE] at this; simpa [hf] using this
  have fd : e.k ≠ 9 → e.dn = false := fun hf => by have := congrArg En.dn hb; rw [bareE] at this; simpa [hf] using this
  have hc := hr.c
  have hn := hr.n
  have hp := hr.pt
  unfold rawE formE byForm stForm midForm ptForm dnForm
  simp only [List.append_assoc]
  rw [num_form e.k.toNat 9 _ (by omega) (by omega)]
  simp only
  rw [show ((e.k.toNat : Nat) : Int) = e.k from by omega]
  rw [by_form _ hc hn fc]
  simp only
  have s1 := fun R => st_form (b := hasSt e.k) R hs1 fs
  unfold rSt
  rw [s1]
  simp only
  by_cases h2 : e.k = 2
  · have hA : hasAt e.k = false := by rw [h2]; rfl
    have hP : hasPt e.k = false := by rw [h2]; rfl
    obtain ⟨a1, a2⟩ := fa hA
    have hprim : 1 ≤ e.prim.length ∧ e.prim.length ≤ 32 := by
      unfold kindOk at hk
      rw [if_pos h2] at hk
      simp only [Bool.and_eq_true, kOk_iff] at hk
      exact hk.1
    obtain ⟨m1, m2⟩ := rightS_iff.1 hs3
    unfold rMin rPrim rCnt rAt rPt rDn
    simp only [h2, if_true, List.append_assoc]
    rw [stamp_form _ _ _ m1 m2]
    simp only
    rw [text_form e.prim _ 1 32 (by omega) (by omega) (by omega)]
    simp only
    rw [num_form e.ws.length 16 _ (by omega) hw2]
    rw [h2] at hA hP
    simp only [hA, hP, Bool.false_eq_true, if_false, List.nil_append, show ((2 : Int) = 9) = False from by simp]
    rw [ws_form _ hw1]
    have hd := fd (by omega)
    have hpt := fp (by rw [h2]; exact hP)
    refine Prod.ext ?_ rfl
    conv => rhs; rw [en_eta e]
    rw [h2, a1, a2, hd, hpt]
  · obtain ⟨m1, m2, m3⟩ := fm h2
    have hcnt := hw3 h2
    unfold rMin rPrim rCnt rAt
    simp only [h2, if_false]
    have s2 := fun R => st_form (b := hasAt e.k) R hs2 fa
    rw [s2]
    simp only
    rw [← hcnt, ws_form _ hw1]
    simp only
    unfold rPt rDn
    have p1 : ∀ R, (if hasPt e.k = true then rdNum 255 ⟨(if hasPt e.k = true then numForm e.pt else []) ++ R, 0⟩ else (0, ⟨(if hasPt e.k = true then numForm e.pt else []) ++ R, 0⟩)) = (e.pt, ⟨R, 0⟩) := fun R => by
      cases hq : hasPt e.k with
      | true =>
        simp only [if_true]
        rw [num_form e.pt 255 _ (by omega) (by omega)]
      | false =>
        rw [fp hq]
        simp
    rw [p1]
    simp only
    by_cases h9 : e.k = 9
    · simp only [h9, if_true]
      rw [flag_form]
      refine Prod.ext ?_ rfl
      conv => rhs; rw [en_eta e]
      rw [h9, m1, m2, m3]
    · simp only [h9, if_false, List.nil_append]
      refine Prod.ext ?_ rfl
      conv => rhs; rw [en_eta e]
      rw [fd h9, m1, m2, m3]
end Go.Proofs.Ytmgjlpgjjeknpaa
