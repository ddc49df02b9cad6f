/-
  Letters as plain records: which are right, their bytes, what is read of bytes; there and back, one way alone.
-/
import Derived.Test.YtmldgfepnmencaaBack
namespace Go.Proofs.Ytmldgfepnmencaa

/-- A write: its key, its value, whether it is dead. -/
structure Wr where
  key : List UInt8
  val : List UInt8
  dead : Bool
/-- A transaction's name. -/
structure Tn where
  c : Nat
  n : Nat
/-- A pair. -/
structure Pr where
  key : List UInt8
  val : List UInt8
/-- A request. -/
structure Rq where
  k : Int
  c : Nat
  n : Nat
  sp : Nat
  sl : Nat
  ap : Nat
  al : Nat
  key : List UInt8
  to : List UInt8
  lim : Int
  pt : Nat
  ws : List Wr
  sk : List Tn
/-- A reply. -/
structure Rp where
  k : Int
  er : Int
  fd : Bool
  val : List UInt8
  ps : List Pr
  c : Nat
  n : Nat
  sp : Nat
  sl : Nat
  ap : Nat
  al : Nat
  prim : List UInt8
  np : Nat
  nl : Nat
/-- A letter. -/
structure Le where
  cl : Nat
  sh : Nat
  sq : Nat
  an : Bool
  q : Rq
  r : Rp
def zQ : Rq := ⟨0, 0, 0, 0, 0, 0, 0, [], [], 0, 0, [], []⟩
def zR : Rp := ⟨0, 0, false, [], [], 0, 0, 0, 0, 0, 0, [], 0, 0⟩
def zL : Le := ⟨0, 0, 0, false, zQ, zR⟩

def rightS (p l : Nat) : Bool := decide (p ≤ 281474976710656) && decide (l ≤ 4095)
theorem rightS_iff {p l : Nat} : rightS p l = true ↔ p ≤ 281474976710656 ∧ l ≤ 4095 := by simp [rightS]
/-- A key and a value that aren't too long. -/
def fitB (k v : List UInt8) : Bool := decide (k.length ≤ 32) && decide (v.length ≤ 256)
theorem fitB_iff {k v : List UInt8} : fitB k v = true ↔ k.length ≤ 32 ∧ v.length ≤ 256 := by simp [fitB]

def eqW (a b : Wr) : Bool := a.key == b.key && a.val == b.val && a.dead == b.dead
def eqT (a b : Tn) : Bool := a.c == b.c && a.n == b.n
def eqP (a b : Pr) : Bool := a.key == b.key && a.val == b.val
theorem eqW_iff {a b : Wr} : eqW a b = true ↔ a = b := by
  obtain ⟨k, v, d⟩ := a
  obtain ⟨k', v', d'⟩ := b
  simp [eqW, and_assoc]
theorem eqT_iff {a b : Tn} : eqT a b = true ↔ a = b := by
  obtain ⟨k, v⟩ := a
  obtain ⟨k', v'⟩ := b
  simp [eqT]
theorem eqP_iff {a b : Pr} : eqP a b = true ↔ a = b := by
  obtain ⟨k, v⟩ := a
  obtain ⟨k', v'⟩ := b
  simp [eqP]
/-- Two lists, one by one. -/
def eqL {α : Type} (f : α → α → Bool) : List α → List α → Bool
  | [], [] => true
  | a :: r, b :: q => f a b && eqL f r q
  | _, _ => false
theorem eqL_iff {α : Type} {f : α → α → Bool} (hf : ∀ {a b}, f a b = true ↔ a = b) : ∀ {a b : List α}, eqL f a b = true ↔ a = b
  | [], [] => by simp [eqL]
  | [], b :: q => by simp [eqL]
  | a :: r, [] => by simp [eqL]
  | a :: r, b :: q => by simp [eqL, hf, eqL_iff hf (a := r) (b := q)]
/-- The same request. -/
def sameQ (a b : Rq) : Bool := eqL eqW a.ws b.ws && eqL eqT a.sk b.sk && a.k == b.k && (a.c == b.c && a.n == b.n) && (a.sp == b.sp && a.sl == b.sl) && (a.ap == b.ap && a.al == b.al) && a.key == b.key && a.to == b.to && a.lim == b.lim && a.pt == b.pt
theorem sameQ_iff {a b : Rq} : sameQ a b = true ↔ a = b := by
  obtain ⟨k, c, n, sp, sl, ap, al, key, to, lim, pt, ws, sk⟩ := a
  obtain ⟨k', c', n', sp', sl', ap', al', key', to', lim', pt', ws', sk'⟩ := b
  simp only [sameQ, Bool.and_eq_true, eqL_iff eqW_iff, eqL_iff eqT_iff, beq_iff_eq, Rq.mk.injEq]
  constructor
  · rintro ⟨⟨⟨⟨⟨⟨⟨⟨⟨h1, h2⟩, h3⟩, h4, h5⟩, h6, h7⟩, h8, h9⟩, h10⟩, h11⟩, h12⟩, h13⟩
    exact ⟨h3, h4, h5, h6, h7, h8, h9, h10, h11, h12, h13, h1, h2⟩
  · rintro ⟨h3, h4, h5, h6, h7, h8, h9, h10, h11, h12, h13, h1, h2⟩
    exact ⟨⟨⟨⟨⟨⟨⟨⟨⟨h1, h2⟩, h3⟩, h4, h5⟩, h6, h7⟩, h8, h9⟩, h10⟩, h11⟩, h12⟩, h13⟩
/-- The same reply. -/
def sameR (a b : Rp) : Bool := a.k == b.k && a.er == b.er && a.fd == b.fd && a.val == b.val && eqL eqP a.ps b.ps && (a.c == b.c && a.n == b.n) && (a.sp == b.sp && a.sl == b.sl) && (a.ap == b.ap && a.al == b.al) && a.prim == b.prim && (a.np == b.np && a.nl == b.nl)
theorem sameR_iff {a b : Rp} : sameR a b = true ↔ a = b := by
  obtain ⟨k, er, fd, val, ps, c, n, sp, sl, ap, al, prim, np, nl⟩ := a
  obtain ⟨k', er', fd', val', ps', c', n', sp', sl', ap', al', prim', np', nl'⟩ := b
  simp only [sameR, Bool.and_eq_true, eqL_iff eqP_iff, beq_iff_eq, Rp.mk.injEq]
  constructor
  · rintro ⟨⟨⟨⟨⟨⟨⟨⟨⟨h1, h2⟩, h3⟩, h4⟩, h5⟩, h6, h7⟩, h8, h9⟩, h10, h11⟩, h12⟩, h13, h14⟩
    exact ⟨h1, h2, h3, h4, h5, h6, h7, h8, h9, h10, h11, h12, h13, h14⟩
  · rintro ⟨h1, h2, h3, h4, h5, h6, h7, h8, h9, h10, h11, h12, h13, h14⟩
    exact ⟨⟨⟨⟨⟨⟨⟨⟨⟨h1, h2⟩, h3⟩, h4⟩, h5⟩, h6, h7⟩, h8, h9⟩, h10, h11⟩, h12⟩, h13, h14⟩
/-- The same letter. -/
def sameL (a b : Le) : Bool := a.cl == b.cl && a.sh == b.sh && a.sq == b.sq && a.an == b.an && sameQ a.q b.q && sameR a.r b.r
theorem sameL_iff {a b : Le} : sameL a b = true ↔ a = b := by
  obtain ⟨cl, sh, sq, an, q, r⟩ := a
  obtain ⟨cl', sh', sq', an', q', r'⟩ := b
  simp only [sameL, Bool.and_eq_true, sameQ_iff, sameR_iff, beq_iff_eq, Le.mk.injEq]
  constructor
  · rintro ⟨⟨⟨⟨⟨h1, h2⟩, h3⟩, h4⟩, h5⟩, h6⟩
    exact ⟨h1, h2, h3, h4, h5, h6⟩
  · rintro ⟨h1, h2, h3, h4, h5, h6⟩
    exact ⟨⟨⟨⟨⟨h1, h2⟩, h3⟩, h4⟩, h5⟩, h6⟩

/-- A request within its bounds. -/
def okQ (q : Rq) : Bool := (q.ws.all fun x => fitB x.key x.val) && decide (1 ≤ q.k) && decide (q.k ≤ 9) && rightS q.sp q.sl && rightS q.ap q.al && decide (q.key.length ≤ 32) && decide (q.to.length ≤ 32) && decide (0 ≤ q.lim) && decide (q.lim ≤ 32) && decide (q.ws.length ≤ 16) && decide (q.sk.length ≤ 16)
/-- A reply within its bounds. -/
def okR (r : Rp) : Bool := (r.ps.all fun x => fitB x.key x.val) && decide (0 ≤ r.k) && decide (r.k ≤ 10) && decide (0 ≤ r.er) && decide (r.er ≤ 255) && rightS r.sp r.sl && rightS r.ap r.al && rightS r.np r.nl && decide (r.val.length ≤ 256) && decide (r.prim.length ≤ 32) && decide (r.ps.length ≤ 32)
/-- Is a letter right? -/
def rightL (l : Le) : Bool := decide (l.cl < 4) && decide (l.sh < 8) && (if l.an then sameQ l.q zQ && okR l.r else sameR l.r zR && okQ l.q)

structure OkQ (q : Rq) : Prop where
  ws : ∀ x ∈ q.ws, x.key.length ≤ 32 ∧ x.val.length ≤ 256
  k : 1 ≤ q.k ∧ q.k ≤ 9
  st : q.sp ≤ 281474976710656 ∧ q.sl ≤ 4095
  at_ : q.ap ≤ 281474976710656 ∧ q.al ≤ 4095
  key : q.key.length ≤ 32
  to : q.to.length ≤ 32
  lim : 0 ≤ q.lim ∧ q.lim ≤ 32
  wl : q.ws.length ≤ 16
  sk : q.sk.length ≤ 16
theorem okQ_iff {q : Rq} : okQ q = true ↔ OkQ q := by
  simp only [okQ, Bool.and_eq_true, decide_eq_true_eq, List.all_eq_true, fitB_iff, rightS_iff]
  constructor
  · rintro ⟨⟨⟨⟨⟨⟨⟨⟨⟨⟨h1, h2⟩, h3⟩, h4⟩, h5⟩, h6⟩, h7⟩, h8⟩, h9⟩, h10⟩, h11⟩
    exact ⟨h1, ⟨h2, h3⟩, h4, h5, h6, h7, ⟨h8, h9⟩, h10, h11⟩
  · rintro ⟨h1, ⟨h2, h3⟩, h4, h5, h6, h7, ⟨h8, h9⟩, h10, h11⟩
    exact ⟨⟨⟨⟨⟨⟨⟨⟨⟨⟨h1, h2⟩, h3⟩, h4⟩, h5⟩, h6⟩, h7⟩, h8⟩, h9⟩, h10⟩, h11⟩
structure OkR (r : Rp) : Prop where
  ps : ∀ x ∈ r.ps, x.key.length ≤ 32 ∧ x.val.length ≤ 256
  k : 0 ≤ r.k ∧ r.k ≤ 10
  er : 0 ≤ r.er ∧ r.er ≤ 255
  st : r.sp ≤ 281474976710656 ∧ r.sl ≤ 4095
  at_ : r.ap ≤ 281474976710656 ∧ r.al ≤ 4095
  nw : r.np ≤ 281474976710656 ∧ r.nl ≤ 4095
  val : r.val.length ≤ 256
  prim : r.prim.length ≤ 32
  pl : r.ps.length ≤ 32
theorem okR_iff {r : Rp} : okR r = true ↔ OkR r := by
  simp only [okR, Bool.and_eq_true, decide_eq_true_eq, List.all_eq_true, fitB_iff, rightS_iff]
  constructor
  · rintro ⟨⟨⟨⟨⟨⟨⟨⟨⟨⟨h1, h2⟩, h3⟩, h4⟩, h5⟩, h6⟩, h7⟩, h8⟩, h9⟩, h10⟩, h11⟩
    exact ⟨h1, ⟨h2, h3⟩, ⟨h4, h5⟩, h6, h7, h8, h9, h10, h11⟩
  · rintro ⟨h1, ⟨h2, h3⟩, ⟨h4, h5⟩, h6, h7, h8, h9, h10, h11⟩
    exact ⟨⟨⟨⟨⟨⟨⟨⟨⟨⟨h1, h2⟩, h3⟩, h4⟩, h5⟩, h6⟩, h7⟩, h8⟩, h9⟩, h10⟩, h11⟩
theorem rightL_iff {l : Le} : rightL l = true ↔ l.cl < 4 ∧ l.sh < 8 ∧ (l.an = true ∧ l.q = zQ ∧ OkR l.r ∨ l.an = false ∧ l.r = zR ∧ OkQ l.q) := by
  simp only [rightL, Bool.and_eq_true, decide_eq_true_eq]
  cases l.an with
  | true => simp [sameQ_iff, okR_iff, and_assoc]
  | false => simp [sameR_iff, okQ_iff, and_assoc]

/-- Numbers and texts as their types bound them. -/
structure RgQ (q : Rq) : Prop where
  k : -9223372036854775808 ≤ q.k ∧ q.k ≤ 9223372036854775807
  c : q.c < 4294967296 ∧ q.n < 4294967296
  st : q.sp < 18446744073709551616 ∧ q.sl < 4294967296
  at_ : q.ap < 18446744073709551616 ∧ q.al < 4294967296
  key : q.key.length ≤ 140737488351232
  to : q.to.length ≤ 140737488351232
  lim : -9223372036854775808 ≤ q.lim ∧ q.lim ≤ 9223372036854775807
  pt : q.pt < 256
  wl : q.ws.length ≤ 140737488351232
  ws : ∀ x ∈ q.ws, x.key.length ≤ 140737488351232 ∧ x.val.length ≤ 140737488351232
  sl_ : q.sk.length ≤ 140737488351232
  sk : ∀ x ∈ q.sk, x.c < 4294967296 ∧ x.n < 4294967296
structure RgR (r : Rp) : Prop where
  k : -9223372036854775808 ≤ r.k ∧ r.k ≤ 9223372036854775807
  er : -9223372036854775808 ≤ r.er ∧ r.er ≤ 9223372036854775807
  val : r.val.length ≤ 140737488351232
  pl : r.ps.length ≤ 140737488351232
  ps : ∀ x ∈ r.ps, x.key.length ≤ 140737488351232 ∧ x.val.length ≤ 140737488351232
  c : r.c < 4294967296 ∧ r.n < 4294967296
  st : r.sp < 18446744073709551616 ∧ r.sl < 4294967296
  at_ : r.ap < 18446744073709551616 ∧ r.al < 4294967296
  prim : r.prim.length ≤ 140737488351232
  nw : r.np < 18446744073709551616 ∧ r.nl < 4294967296
structure RgL (l : Le) : Prop where
  cl : l.cl < 4294967296
  sh : l.sh < 4294967296
  sq : l.sq < 4294967296
  q : RgQ l.q
  r : RgR l.r
theorem rgQ_zero : RgQ zQ := ⟨by decide, by decide, by decide, by decide, by decide, by decide, by decide, by decide, by decide, by intro x hx; simp [zQ] at hx, by decide, by intro x hx; simp [zQ] at hx⟩
theorem rgR_zero : RgR zR := ⟨by decide, by decide, by decide, by decide, by intro x hx; simp [zR] at hx, by decide, by decide, by decide, by decide, by decide⟩

def wrForm (w : Wr) : List UInt8 := textForm w.key ++ (flagForm w.dead ++ textForm w.val)
def prForm (p : Pr) : List UInt8 := textForm p.key ++ textForm p.val
def tnForm (t : Tn) : List UInt8 := numForm t.c ++ numForm t.n
/-- A list: how many, and each. -/
def liForm {α : Type} (f : α → List UInt8) (l : List α) : List UInt8 := numForm l.length ++ l.flatMap f
def formQ (q : Rq) : List UInt8 :=
  numForm q.k.toNat ++ (tnForm ⟨q.c, q.n⟩ ++ (stampForm q.sp q.sl ++ (stampForm q.ap q.al ++ (textForm q.key ++ (textForm q.to ++ (numForm q.lim.toNat ++ (numForm q.pt ++ (liForm wrForm q.ws ++ liForm tnForm q.sk))))))))
def formR (r : Rp) : List UInt8 :=
  numForm r.k.toNat ++ (numForm r.er.toNat ++ (flagForm r.fd ++ (textForm r.val ++ (liForm prForm r.ps ++ (tnForm ⟨r.c, r.n⟩ ++ (stampForm r.sp r.sl ++ (stampForm r.ap r.al ++ (textForm r.prim ++ stampForm r.np r.nl))))))))
def formL (l : Le) : List UInt8 := numForm l.cl ++ (numForm l.sh ++ (numForm l.sq ++ (flagForm l.an ++ (if l.an then formR l.r else formQ l.q))))
def writeL (l : Le) : List UInt8 × Int := if rightL l then (formL l, 0) else ([], 1)

def rTn (st : St) : Tn × St := (⟨(rdNum 4294967295 st).1, (rdNum 4294967295 (rdNum 4294967295 st).2).1⟩, (rdNum 4294967295 (rdNum 4294967295 st).2).2)
def rWr (st : St) : Wr × St := (⟨(rdText 0 32 st).1, (rdText 0 256 (rdFlag (rdText 0 32 st).2).2).1, (rdFlag (rdText 0 32 st).2).1⟩, (rdText 0 256 (rdFlag (rdText 0 32 st).2).2).2)
def rPr (st : St) : Pr × St := (⟨(rdText 0 32 st).1, (rdText 0 256 (rdText 0 32 st).2).1⟩, (rdText 0 256 (rdText 0 32 st).2).2)
/-- So many, one behind the other. -/
def rMany {α : Type} (f : St → α × St) : Nat → St → List α × St
  | 0, st => ([], st)
  | n + 1, st => ((rMany f n st).1 ++ [(f (rMany f n st).2).1], (f (rMany f n st).2).2)
def rList {α : Type} (f : St → α × St) (most : Nat) (st : St) : List α × St := rMany f (rdNum most st).1 (rdNum most st).2
def rawQ (st : St) : Rq × St :=
  let a0 := rdNum 9 st
  let a1 := rTn a0.2
  let a2 := rdStamp a1.2
  let a3 := rdStamp a2.2
  let a4 := rdText 0 32 a3.2
  let a5 := rdText 0 32 a4.2
  let a6 := rdNum 32 a5.2
  let a7 := rdNum 255 a6.2
  let a8 := rList rWr 16 a7.2
  let a9 := rList rTn 16 a8.2
  (⟨(a0.1 : Int), a1.1.c, a1.1.n, a2.1.1, a2.1.2, a3.1.1, a3.1.2, a4.1, a5.1, (a6.1 : Int), a7.1, a8.1, a9.1⟩, a9.2)
def rawR (st : St) : Rp × St :=
  let a0 := rdNum 10 st
  let a1 := rdNum 255 a0.2
  let a2 := rdFlag a1.2
  let a3 := rdText 0 256 a2.2
  let a4 := rList rPr 32 a3.2
  let a5 := rTn a4.2
  let a6 := rdStamp a5.2
  let a7 := rdStamp a6.2
  let a8 := rdText 0 32 a7.2
  let a9 := rdStamp a8.2
  (⟨(a0.1 : Int), (a1.1 : Int), a2.1, a3.1, a4.1, a5.1.c, a5.1.n, a6.1.1, a6.1.2, a7.1.1, a7.1.2, a8.1, a9.1.1, a9.1.2⟩, a9.2)
/-- What bytes tell, whether or not it is a letter; what is left. -/
def rawL (s : List UInt8) : Le × St :=
  let a0 := rdNum 3 ⟨s, 0⟩
  let a1 := rdNum 7 a0.2
  let a2 := rdNum 4294967295 a1.2
  let a3 := rdFlag a2.2
  (⟨a0.1, a1.1, a2.1, a3.1, if a3.1 then zQ else (rawQ a3.2).1, if a3.1 then (rawR a3.2).1 else zR⟩, if a3.1 then (rawR a3.2).2 else (rawQ a3.2).2)
def readL (s : List UInt8) : Option Le := if rdEnd (rawL s).2 = 0 ∧ rightL (rawL s).1 = true then some (rawL s).1 else none

theorem tn_form {t : Tn} (R : List UInt8) (h : t.c < 4294967296 ∧ t.n < 4294967296) : rTn ⟨tnForm t ++ R, 0⟩ = (t, ⟨R, 0⟩) := by
  unfold rTn tnForm
  rw [List.append_assoc, num_form t.c 4294967295 _ (by omega) (by omega)]
  simp only
  rw [num_form t.n 4294967295 _ (by omega) (by omega)]
theorem wr_form {w : Wr} (R : List UInt8) (h : w.key.length ≤ 32 ∧ w.val.length ≤ 256) : rWr ⟨wrForm w ++ R, 0⟩ = (w, ⟨R, 0⟩) := by
  unfold rWr wrForm
  rw [List.append_assoc, List.append_assoc, text_form w.key _ 0 32 (by omega) (by omega) (by omega)]
  simp only
  rw [flag_form]
  simp only
  rw [text_form w.val _ 0 256 (by omega) (by omega) (by omega)]
theorem pr_form {w : Pr} (R : List UInt8) (h : w.key.length ≤ 32 ∧ w.val.length ≤ 256) : rPr ⟨prForm w ++ R, 0⟩ = (w, ⟨R, 0⟩) := by
  unfold rPr prForm
  rw [List.append_assoc, text_form w.key _ 0 32 (by omega) (by omega) (by omega)]
  simp only
  rw [text_form w.val _ 0 256 (by omega) (by omega) (by omega)]
theorem many_form {α : Type} {f : St → α × St} {g : α → List UInt8} {P : α → Prop} (hf : ∀ x R, P x → f ⟨g x ++ R, 0⟩ = (x, ⟨R, 0⟩)) : ∀ {l : List α} (R : List UInt8), (∀ x ∈ l, P x) → rMany f l.length ⟨l.flatMap g ++ R, 0⟩ = (l, ⟨R, 0⟩) := by
  intro l
  induction hn : l.length generalizing l with
  | zero =>
    intro R _
    have : l = [] := List.eq_nil_of_length_eq_zero hn
    subst this
    rfl
  | succ n ih =>
    intro R hw
    have hne : l ≠ [] := by intro h; subst h; simp at hn
    obtain ⟨r, w, rfl⟩ : ∃ r w, l = r ++ [w] := ⟨l.dropLast, l.getLast hne, (List.dropLast_concat_getLast hne).symm⟩
    have hl : r.length = n := by simpa using hn
    unfold rMany
    rw [show (r ++ [w]).flatMap g = r.flatMap g ++ g w from by simp, List.append_assoc, ih hl _ (fun x hx => hw x (List.mem_append_left _ hx))]
    simp only
    rw [hf _ _ (hw w (by simp))]
theorem list_form {α : Type} {f : St → α × St} {g : α → List UInt8} {P : α → Prop} (hf : ∀ x R, P x → f ⟨g x ++ R, 0⟩ = (x, ⟨R, 0⟩)) {l : List α} {most : Nat} (R : List UInt8) (hm : l.length ≤ most) (h64 : most < 18446744073709551616) (hl : ∀ x ∈ l, P x) : rList f most ⟨liForm g l ++ R, 0⟩ = (l, ⟨R, 0⟩) := by
  unfold rList liForm
  rw [List.append_assoc, num_form l.length most _ (by omega) hm]
  exact many_form hf R hl
theorem rawQ_form {q : Rq} (R : List UInt8) (h : OkQ q) (hr : RgQ q) : rawQ ⟨formQ q ++ R, 0⟩ = (q, ⟨R, 0⟩) := by
  have hk := h.k
  have hl := h.lim
  have hpt := hr.pt
  have hky := h.key
  have hto := h.to
  unfold rawQ formQ
  simp only [List.append_assoc]
  rw [num_form q.k.toNat 9 _ (by omega) (by omega)]
  simp only
  rw [tn_form (t := ⟨q.c, q.n⟩) _ hr.c]
  simp only
  rw [stamp_form _ _ _ h.st.1 h.st.2]
  simp only
  rw [stamp_form _ _ _ h.at_.1 h.at_.2]
  simp only
  rw [text_form q.key _ 0 32 (by omega) (by omega) (by omega)]
  simp only
  rw [text_form q.to _ 0 32 (by omega) (by omega) (by omega)]
  simp only
  rw [num_form q.lim.toNat 32 _ (by omega) (by omega)]
  simp only
  rw [num_form q.pt 255 _ (by omega) (by omega)]
  simp only
  rw [list_form (P := fun x : Wr => x.key.length ≤ 32 ∧ x.val.length ≤ 256) (fun x R h => wr_form R h) _ h.wl (by decide) h.ws]
  simp only
  rw [list_form (P := fun x : Tn => x.c < 4294967296 ∧ x.n < 4294967296) (fun x R h => tn_form R h) _ h.sk (by decide) hr.sk]
  simp only
  rw [show ((q.k.toNat : Nat) : Int) = q.k from by omega, show ((q.lim.toNat : Nat) : Int) = q.lim from by omega]
theorem rawR_form {r : Rp} (R : List UInt8) (h : OkR r) (hr : RgR r) : rawR ⟨formR r ++ R, 0⟩ = (r, ⟨R, 0⟩) := by
  have hk := h.k
  have hl := h.er
  have hky := h.val
  have hto := h.prim
  unfold rawR formR
  simp only [List.append_assoc]
  rw [num_form r.k.toNat 10 _ (by omega) (by omega)]
  simp only
  rw [num_form r.er.toNat 255 _ (by omega) (by omega)]
  simp only
  rw [flag_form]
  simp only
  rw [text_form r.val _ 0 256 (by omega) (by omega) (by omega)]
  simp only
  rw [list_form (P := fun x : Pr => x.key.length ≤ 32 ∧ x.val.length ≤ 256) (fun x R h => pr_form R h) _ h.pl (by decide) h.ps]
  simp only
  rw [tn_form (t := ⟨r.c, r.n⟩) _ hr.c]
  simp only
  rw [stamp_form _ _ _ h.st.1 h.st.2]
  simp only
  rw [stamp_form _ _ _ h.at_.1 h.at_.2]
  simp only
  rw [text_form r.prim _ 0 32 (by omega) (by omega) (by omega)]
  simp only
  rw [stamp_form _ _ _ h.nw.1 h.nw.2]
  simp only
  rw [show ((r.k.toNat : Nat) : Int) = r.k from by omega, show ((r.er.toNat : Nat) : Int) = r.er from by omega]
theorem raw_form {l : Le} (R : List UInt8) (h : rightL l = true) (hr : RgL l) : rawL (formL l ++ R) = (l, ⟨R, 0⟩) := by
  obtain ⟨h1, h2, h3⟩ := rightL_iff.1 h
  have hs := hr.sq
  obtain ⟨cl, sh, sq, an, q, r⟩ := l
  simp only at h1 h2 h3 hs
  unfold rawL formL
  simp only [List.append_assoc]
  rw [num_form cl 3 _ (by omega) (by omega)]
  simp only
  rw [num_form sh 7 _ (by omega) (by omega)]
  simp only
  rw [num_form sq 4294967295 _ (by omega) (by omega)]
  simp only
  rw [flag_form]
  simp only
  rcases h3 with ⟨rfl, rfl, h4⟩ | ⟨rfl, rfl, h4⟩
  · simp only [if_true]
    rw [rawR_form R h4 hr.r]
  · simp only [Bool.false_eq_true, if_false]
    rw [rawQ_form R h4 hr.q]

theorem tn_ok {st : St} (h : (rTn st).2.e = 0) : st.e = 0 ∧ st.l = tnForm (rTn st).1 ++ (rTn st).2.l := by
  unfold rTn at h ⊢
  simp only at h ⊢
  obtain ⟨h1, h2⟩ := num_ok h
  obtain ⟨h3, h4⟩ := num_ok h1
  refine ⟨h3, ?_⟩
  unfold tnForm
  simp only
  rw [List.append_assoc, ← h2]
  exact h4
theorem wr_ok {st : St} (h : (rWr st).2.e = 0) : st.e = 0 ∧ st.l = wrForm (rWr st).1 ++ (rWr st).2.l := by
  unfold rWr at h ⊢
  simp only at h ⊢
  obtain ⟨h1, h2⟩ := text_ok h
  obtain ⟨h3, h4⟩ := flag_ok h1
  obtain ⟨h5, h6⟩ := text_ok h3
  refine ⟨h5, ?_⟩
  unfold wrForm
  simp only
  rw [List.append_assoc, List.append_assoc, ← h2, ← h4]
  exact h6
theorem pr_ok {st : St} (h : (rPr st).2.e = 0) : st.e = 0 ∧ st.l = prForm (rPr st).1 ++ (rPr st).2.l := by
  unfold rPr at h ⊢
  simp only at h ⊢
  obtain ⟨h1, h2⟩ := text_ok h
  obtain ⟨h5, h6⟩ := text_ok h1
  refine ⟨h5, ?_⟩
  unfold prForm
  simp only
  rw [List.append_assoc, ← h2]
  exact h6
theorem many_len {α : Type} (f : St → α × St) : ∀ (n : Nat) (st : St), (rMany f n st).1.length = n
  | 0, _ => rfl
  | n + 1, st => by
    unfold rMany
    simp [many_len f n st]
theorem many_ok {α : Type} {f : St → α × St} {g : α → List UInt8} (hf : ∀ {st}, (f st).2.e = 0 → st.e = 0 ∧ st.l = g (f st).1 ++ (f st).2.l) : ∀ {n : Nat} {st : St}, (rMany f n st).2.e = 0 → st.e = 0 ∧ st.l = (rMany f n st).1.flatMap g ++ (rMany f n st).2.l
  | 0, st, h => ⟨h, rfl⟩
  | n + 1, st, h => by
    unfold rMany at h ⊢
    simp only at h ⊢
    obtain ⟨h1, h2⟩ := hf h
    obtain ⟨h3, h4⟩ := many_ok hf h1
    refine ⟨h3, ?_⟩
    rw [List.flatMap_append, List.append_assoc]
    rw [h4, h2]
    simp
theorem list_ok {α : Type} {f : St → α × St} {g : α → List UInt8} (hf : ∀ {st}, (f st).2.e = 0 → st.e = 0 ∧ st.l = g (f st).1 ++ (f st).2.l) {most : Nat} {st : St} (h : (rList f most st).2.e = 0) : st.e = 0 ∧ st.l = liForm g (rList f most st).1 ++ (rList f most st).2.l := by
  unfold rList at h ⊢
  obtain ⟨h1, h2⟩ := many_ok hf h
  obtain ⟨h3, h4⟩ := num_ok h1
  refine ⟨h3, ?_⟩
  unfold liForm
  rw [many_len, List.append_assoc, ← h2]
  exact h4
theorem rawQ_ok {st : St} (h : (rawQ st).2.e = 0) : st.e = 0 ∧ st.l = formQ (rawQ st).1 ++ (rawQ st).2.l := by
  unfold rawQ at h ⊢
  simp only at h ⊢
  have k0 := @num_ok 9 st
  generalize rdNum 9 st = a0 at *
  have k1 := @tn_ok a0.2
  generalize rTn a0.2 = a1 at *
  have k2 := @stamp_ok a1.2
  generalize rdStamp a1.2 = a2 at *
  have k3 := @stamp_ok a2.2
  generalize rdStamp a2.2 = a3 at *
  have k4 := @text_ok 0 32 a3.2
  generalize rdText 0 32 a3.2 = a4 at *
  have k5 := @text_ok 0 32 a4.2
  generalize rdText 0 32 a4.2 = a5 at *
  have k6 := @num_ok 32 a5.2
  generalize rdNum 32 a5.2 = a6 at *
  have k7 := @num_ok 255 a6.2
  generalize rdNum 255 a6.2 = a7 at *
  have k8 := @list_ok Wr rWr wrForm (@wr_ok) 16 a7.2
  generalize rList rWr 16 a7.2 = a8 at *
  have k9 := @list_ok Tn rTn tnForm (@tn_ok) 16 a8.2
  generalize rList rTn 16 a8.2 = a9 at *
  obtain ⟨g9, h9⟩ := k9 h
  obtain ⟨g8, h8⟩ := k8 g9
  obtain ⟨g7, h7⟩ := k7 g8
  obtain ⟨g6, h6⟩ := k6 g7
  obtain ⟨g5, h5⟩ := k5 g6
  obtain ⟨g4, h4⟩ := k4 g5
  obtain ⟨g3, h3⟩ := k3 g4
  obtain ⟨g2, h2⟩ := k2 g3
  obtain ⟨g1, h1⟩ := k1 g2
  obtain ⟨g0, h0⟩ := k0 g1
  refine ⟨g0, ?_⟩
  unfold formQ
  simp only [Int.toNat_natCast, List.append_assoc]
  rw [← h9, ← h8, ← h7, ← h6, ← h5, ← h4, ← h3, ← h2]
  rw [← h1]
  exact h0
theorem rawR_ok {st : St} (h : (rawR st).2.e = 0) : st.e = 0 ∧ st.l = formR (rawR st).1 ++ (rawR st).2.l := by
  unfold rawR at h ⊢
  simp only at h ⊢
  have k0 := @num_ok 10 st
  generalize rdNum 10 st = a0 at *
  have k1 := @num_ok 255 a0.2
  generalize rdNum 255 a0.2 = a1 at *
  have k2 := @flag_ok a1.2
  generalize rdFlag a1.2 = a2 at *
  have k3 := @text_ok 0 256 a2.2
  generalize rdText 0 256 a2.2 = a3 at *
  have k4 := @list_ok Pr rPr prForm (@pr_ok) 32 a3.2
  generalize rList rPr 32 a3.2 = a4 at *
  have k5 := @tn_ok a4.2
  generalize rTn a4.2 = a5 at *
  have k6 := @stamp_ok a5.2
  generalize rdStamp a5.2 = a6 at *
  have k7 := @stamp_ok a6.2
  generalize rdStamp a6.2 = a7 at *
  have k8 := @text_ok 0 32 a7.2
  generalize rdText 0 32 a7.2 = a8 at *
  have k9 := @stamp_ok a8.2
  generalize rdStamp a8.2 = a9 at *
  obtain ⟨g9, h9⟩ := k9 h
  obtain ⟨g8, h8⟩ := k8 g9
  obtain ⟨g7, h7⟩ := k7 g8
  obtain ⟨g6, h6⟩ := k6 g7
  obtain ⟨g5, h5⟩ := k5 g6
  obtain ⟨g4, h4⟩ := k4 g5
  obtain ⟨g3, h3⟩ := k3 g4
  obtain ⟨g2, h2⟩ := k2 g3
  obtain ⟨g1, h1⟩ := k1 g2
  obtain ⟨g0, h0⟩ := k0 g1
  refine ⟨g0, ?_⟩
  unfold formR
  simp only [Int.toNat_natCast, List.append_assoc]
  rw [← h9, ← h8, ← h7, ← h6, ← h5, ← h4, ← h3, ← h2]
  rw [← h1]
  exact h0
theorem raw_ok {s : List UInt8} (h : (rawL s).2.e = 0) : s = formL (rawL s).1 ++ (rawL s).2.l := by
  unfold rawL at h ⊢
  simp only at h ⊢
  unfold formL
  simp only [List.append_assoc]
  cases hb : (rdFlag (rdNum 4294967295 (rdNum 7 (rdNum 3 ⟨s, 0⟩).2).2).2).1 with
  | true =>
    simp only [hb, if_true] at h ⊢
    obtain ⟨g4, h4⟩ := rawR_ok h
    obtain ⟨g3, h3⟩ := flag_ok g4
    obtain ⟨g2, h2⟩ := num_ok g3
    obtain ⟨g1, h1⟩ := num_ok g2
    obtain ⟨g0, h0⟩ := num_ok g1
    rw [hb] at h3
    rw [← h4, ← h3, ← h2, ← h1]
    exact h0
  | false =>
    simp only [hb, Bool.false_eq_true, if_false] at h ⊢
    obtain ⟨g4, h4⟩ := rawQ_ok h
    obtain ⟨g3, h3⟩ := flag_ok g4
    obtain ⟨g2, h2⟩ := num_ok g3
    obtain ⟨g1, h1⟩ := num_ok g2
    obtain ⟨g0, h0⟩ := num_ok g1
    rw [hb] at h3
    rw [← h4, ← h3, ← h2, ← h1]
    exact h0

theorem rdStamp_bd (st : St) : (rdStamp st).1.1 ≤ 281474976710656 ∧ (rdStamp st).1.2 ≤ 4095 := by
  have h1 := rdNum_le 281474976710656 st
  have h2 := rdNum_le 4095 (rdNum 281474976710656 st).2
  unfold rdStamp
  split
  · exact ⟨Nat.zero_le _, Nat.zero_le _⟩
  · exact ⟨h1.1, h2.1⟩
theorem rdText_bd (a : Int) (b : Nat) (st : St) : (rdText a b st).1.length ≤ b := by
  unfold rdText
  split
  · exact Nat.zero_le _
  · split
    · exact Nat.zero_le _
    · rename_i h
      split
      · exact Nat.zero_le _
      · simp only [List.length_take]
        omega
theorem rTn_bd (st : St) : (rTn st).1.c < 4294967296 ∧ (rTn st).1.n < 4294967296 := by
  have h1 := (rdNum_le 4294967295 st).1
  have h2 := (rdNum_le 4294967295 (rdNum 4294967295 st).2).1
  unfold rTn
  exact ⟨by dsimp only; omega, by dsimp only; omega⟩
theorem rWr_bd (st : St) : (rWr st).1.key.length ≤ 32 ∧ (rWr st).1.val.length ≤ 256 := ⟨rdText_bd 0 32 _, rdText_bd 0 256 _⟩
theorem rPr_bd (st : St) : (rPr st).1.key.length ≤ 32 ∧ (rPr st).1.val.length ≤ 256 := ⟨rdText_bd 0 32 _, rdText_bd 0 256 _⟩
theorem many_bd {α : Type} {f : St → α × St} {P : α → Prop} (hf : ∀ st, P (f st).1) : ∀ (n : Nat) (st : St), ∀ x ∈ (rMany f n st).1, P x
  | 0, st => by intro x hx; simp [rMany] at hx
  | n + 1, st => by
    intro x hx
    unfold rMany at hx
    simp only [List.mem_append, List.mem_singleton] at hx
    rcases hx with h | rfl
    · exact many_bd hf n st x h
    · exact hf _
theorem list_bd {α : Type} {f : St → α × St} {P : α → Prop} (hf : ∀ st, P (f st).1) (most : Nat) (st : St) : (rList f most st).1.length ≤ most ∧ ∀ x ∈ (rList f most st).1, P x := by
  unfold rList
  rw [many_len]
  exact ⟨(rdNum_le most st).1, many_bd hf _ _⟩
theorem num_i64 (m : Nat) (st : St) (hm : m ≤ 9223372036854775807) : -9223372036854775808 ≤ ((rdNum m st).1 : Int) ∧ ((rdNum m st).1 : Int) ≤ 9223372036854775807 := by
  have := (rdNum_le m st).1
  omega
theorem b64 {a c : Nat} (h : a ≤ 281474976710656 ∧ c ≤ 4095) : a < 18446744073709551616 ∧ c < 4294967296 := ⟨by omega, by omega⟩
theorem num_lt (m n : Nat) (st : St) (hm : m < n) : (rdNum m st).1 < n := by
  have := (rdNum_le m st).1
  omega
theorem fit47 {k v : List UInt8} (h : k.length ≤ 32 ∧ v.length ≤ 256) : k.length ≤ 140737488351232 ∧ v.length ≤ 140737488351232 := ⟨by omega, by omega⟩
theorem rawQ_rg (st : St) : RgQ (rawQ st).1 ∧ (rawQ st).1.ws.length ≤ 16 ∧ (rawQ st).1.sk.length ≤ 16 := by
  unfold rawQ
  simp only
  have b0 := num_i64 9 st (by decide)
  generalize rdNum 9 st = a0 at *
  have b1 := rTn_bd (a0.2)
  generalize rTn a0.2 = a1 at *
  have b2 := b64 (rdStamp_bd (a1.2))
  generalize rdStamp a1.2 = a2 at *
  have b3 := b64 (rdStamp_bd (a2.2))
  generalize rdStamp a2.2 = a3 at *
  have b4 := rdText_bd 0 32 (a3.2)
  generalize rdText 0 32 a3.2 = a4 at *
  have b5 := rdText_bd 0 32 (a4.2)
  generalize rdText 0 32 a4.2 = a5 at *
  have b6 := num_i64 32 (a5.2) (by decide)
  generalize rdNum 32 a5.2 = a6 at *
  have b7 := num_lt 255 256 (a6.2) (by decide)
  generalize rdNum 255 a6.2 = a7 at *
  have b8 := list_bd (f := rWr) (P := fun x => x.key.length ≤ 32 ∧ x.val.length ≤ 256) rWr_bd 16 (a7.2)
  generalize rList rWr 16 a7.2 = a8 at *
  have b9 := list_bd (f := rTn) (P := fun x => x.c < 4294967296 ∧ x.n < 4294967296) rTn_bd 16 (a8.2)
  generalize rList rTn 16 a8.2 = a9 at *
  exact ⟨⟨b0, b1, b2, b3, Nat.le_trans b4 (by decide), Nat.le_trans b5 (by decide), b6, b7, Nat.le_trans b8.1 (by decide), fun x hx => fit47 (b8.2 x hx), Nat.le_trans b9.1 (by decide), b9.2⟩, b8.1, b9.1⟩
theorem rawR_rg (st : St) : RgR (rawR st).1 ∧ (rawR st).1.ps.length ≤ 32 := by
  unfold rawR
  simp only
  have b0 := num_i64 10 st (by decide)
  generalize rdNum 10 st = a0 at *
  have b1 := num_i64 255 (a0.2) (by decide)
  generalize rdNum 255 a0.2 = a1 at *
  generalize rdFlag a1.2 = a2 at *
  have b3 := rdText_bd 0 256 (a2.2)
  generalize rdText 0 256 a2.2 = a3 at *
  have b4 := list_bd (f := rPr) (P := fun x => x.key.length ≤ 32 ∧ x.val.length ≤ 256) rPr_bd 32 (a3.2)
  generalize rList rPr 32 a3.2 = a4 at *
  have b5 := rTn_bd (a4.2)
  generalize rTn a4.2 = a5 at *
  have b6 := b64 (rdStamp_bd (a5.2))
  generalize rdStamp a5.2 = a6 at *
  have b7 := b64 (rdStamp_bd (a6.2))
  generalize rdStamp a6.2 = a7 at *
  have b8 := rdText_bd 0 32 (a7.2)
  generalize rdText 0 32 a7.2 = a8 at *
  have b9 := b64 (rdStamp_bd (a8.2))
  generalize rdStamp a8.2 = a9 at *
  exact ⟨⟨b0, b1, Nat.le_trans b3 (by decide), Nat.le_trans b4.1 (by decide), fun x hx => fit47 (b4.2 x hx), b5, b6, b7, Nat.le_trans b8 (by decide), b9⟩, b4.1⟩
theorem raw_rg (s : List UInt8) : RgL (rawL s).1 ∧ (rawL s).1.q.ws.length ≤ 16 ∧ (rawL s).1.q.sk.length ≤ 16 ∧ (rawL s).1.r.ps.length ≤ 32 := by
  unfold rawL
  simp only
  refine ⟨⟨num_lt 3 _ _ (by decide), num_lt 7 _ _ (by decide), num_lt 4294967295 _ _ (by decide), ?_, ?_⟩, ?_, ?_, ?_⟩
  · simp only
    split
    · exact rgQ_zero
    · exact (rawQ_rg _).1
  · simp only
    split
    · exact (rawR_rg _).1
    · exact rgR_zero
  · split
    · exact Nat.zero_le _
    · exact (rawQ_rg _).2.1
  · split
    · exact Nat.zero_le _
    · exact (rawQ_rg _).2.2
  · split
    · exact (rawR_rg _).2
    · exact Nat.zero_le _

theorem end_ok {st : St} : rdEnd st = 0 ↔ st.e = 0 ∧ st.l = [] := by
  unfold rdEnd
  by_cases h : st.e = 0
  · simp only [h, ne_eq, not_true_eq_false, if_false, true_and]
    by_cases h2 : st.l = []
    · simp [h2]
    · simp [h2]
  · simp [h]
theorem read_form {l : Le} (h : rightL l = true) (hr : RgL l) : readL (formL l) = some l := by
  have := raw_form [] h hr
  rw [List.append_nil] at this
  unfold readL
  rw [this, if_pos ⟨rfl, h⟩]
theorem read_some {s : List UInt8} {l : Le} (h : readL s = some l) : rightL l = true ∧ formL l = s ∧ RgL l := by
  unfold readL at h
  split at h
  · rename_i h1
    injection h with h
    subst h
    obtain ⟨h2, h3⟩ := end_ok.1 h1.1
    have := raw_ok h2
    rw [h3, List.append_nil] at this
    exact ⟨h1.2, this.symm, (raw_rg s).1⟩
  · cases h
theorem form_inj {a b : Le} (ha : rightL a = true) (hb : rightL b = true) (ra : RgL a) (rb : RgL b) : formL a = formL b ↔ a = b := by
  constructor
  · intro h
    have h1 := read_form ha ra
    rw [h, read_form hb rb] at h1
    injection h1 with h1
    exact h1.symm
  · rintro rfl
    rfl
theorem nf_len {n : Nat} (h : n < 18446744073709551616) : (numForm n).length ≤ 9 := by rw [numForm_length]; exact sz_le h
theorem flat_len {α : Type} {g : α → List UInt8} {c : Nat} {l : List α} (h : ∀ x ∈ l, (g x).length ≤ c) : (l.flatMap g).length ≤ l.length * c := by
  induction l with
  | nil => simp
  | cons w r ih =>
    have h1 := ih (fun x hx => h x (List.mem_cons_of_mem _ hx))
    have h2 := h w (List.mem_cons_self ..)
    rw [List.flatMap_cons, List.length_append, List.length_cons, Nat.add_mul]
    omega
theorem li_len {α : Type} {g : α → List UInt8} {c : Nat} {l : List α} (hl : l.length < 18446744073709551616) (h : ∀ x ∈ l, (g x).length ≤ c) : (liForm g l).length ≤ 9 + l.length * c := by
  unfold liForm
  rw [List.length_append]
  have := nf_len hl
  have := flat_len h
  omega
theorem tn_len {t : Tn} (h : t.c < 4294967296 ∧ t.n < 4294967296) : (tnForm t).length ≤ 18 := by
  have := nf_len (n := t.c) (by omega)
  have := nf_len (n := t.n) (by omega)
  unfold tnForm
  rw [List.length_append]
  omega
theorem st_len {p l : Nat} (h : p < 18446744073709551616 ∧ l < 4294967296) : (stampForm p l).length ≤ 18 := by
  have := nf_len (n := p) (by omega)
  have := nf_len (n := l) (by omega)
  unfold stampForm
  rw [List.length_append]
  omega
theorem tx_len {s : List UInt8} {c : Nat} (h : s.length ≤ c) (hc : c < 18446744073709551616) : (textForm s).length ≤ 9 + c := by
  have := nf_len (n := s.length) (by omega)
  unfold textForm
  rw [List.length_append]
  omega
theorem fl_len (b : Bool) : (flagForm b).length = 1 := rfl
theorem wr_len {w : Wr} (h : w.key.length ≤ 32 ∧ w.val.length ≤ 256) : (wrForm w).length ≤ 307 := by
  have := tx_len h.1 (by decide)
  have := tx_len h.2 (by decide)
  unfold wrForm
  rw [List.length_append, List.length_append, fl_len]
  omega
theorem pr_len {w : Pr} (h : w.key.length ≤ 32 ∧ w.val.length ≤ 256) : (prForm w).length ≤ 306 := by
  have := tx_len h.1 (by decide)
  have := tx_len h.2 (by decide)
  unfold prForm
  rw [List.length_append]
  omega
theorem formQ_len {q : Rq} (h : OkQ q) (hr : RgQ q) : (formQ q).length ≤ 6000 := by
  have hk := h.k
  have hl := h.lim
  have hp := hr.pt
  have h0 := nf_len (n := q.k.toNat) (by omega)
  have h1 := tn_len (t := ⟨q.c, q.n⟩) hr.c
  have h2 := st_len hr.st
  have h3 := st_len hr.at_
  have h4 := tx_len h.key (by decide)
  have h5 := tx_len h.to (by decide)
  have h6 := nf_len (n := q.lim.toNat) (by omega)
  have h7 := nf_len (n := q.pt) (by omega)
  have hw := h.wl
  have hs := h.sk
  have h8 := li_len (g := wrForm) (c := 307) (l := q.ws) (by omega) (fun x hx => wr_len (h.ws x hx))
  have h9 := li_len (g := tnForm) (c := 18) (l := q.sk) (by omega) (fun x hx => tn_len (hr.sk x hx))
  unfold formQ
  simp only [List.length_append]
  omega
theorem formR_len {r : Rp} (h : OkR r) (hr : RgR r) : (formR r).length ≤ 11000 := by
  have hk := h.k
  have hl := h.er
  have h0 := nf_len (n := r.k.toNat) (by omega)
  have h1 := nf_len (n := r.er.toNat) (by omega)
  have h2 := tx_len h.val (by decide)
  have h3 := tn_len (t := ⟨r.c, r.n⟩) hr.c
  have h4 := st_len hr.st
  have h5 := st_len hr.at_
  have h6 := tx_len h.prim (by decide)
  have h7 := st_len hr.nw
  have hw := h.pl
  have h8 := li_len (g := prForm) (c := 306) (l := r.ps) (by omega) (fun x hx => pr_len (h.ps x hx))
  unfold formR
  simp only [List.length_append, fl_len]
  omega
theorem form_len {l : Le} (h : rightL l = true) (hr : RgL l) : (formL l).length ≤ 12000 := by
  obtain ⟨h1, h2, h3⟩ := rightL_iff.1 h
  have a1 := nf_len (n := l.cl) (by omega)
  have a2 := nf_len (n := l.sh) (by omega)
  have a3 := nf_len (n := l.sq) (by have := hr.sq; omega)
  have a4 : (if l.an then formR l.r else formQ l.q).length ≤ 11000 := by
    rcases h3 with ⟨h3, _, h4⟩ | ⟨h3, _, h4⟩
    · rw [h3]
      exact formR_len h4 hr.r
    · rw [h3]
      have := formQ_len h4 hr.q
      simp only [Bool.false_eq_true, if_false]
      omega
  unfold formL
  simp only [List.length_append, fl_len]
  omega
end Go.Proofs.Ytmldgfepnmencaa
