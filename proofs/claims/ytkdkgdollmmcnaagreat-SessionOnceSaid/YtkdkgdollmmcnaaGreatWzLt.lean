import Derived.WalkKit
set_option maxHeartbeats 4000000
set_option maxRecDepth 100000
set_option linter.unusedVariables false
set_option linter.unusedSimpArgs false
namespace Go.Proofs.YtkdkgdollmmcnaaGreat
structure Wr where
 key : List UInt8
 val : List UInt8
 dead : Bool
structure Tn where
 c : Nat
 n : Nat
structure Pr where
 key : List UInt8
 val : List UInt8
structure Rq where
 k : Int
 c : Nat
 n : Nat
 sp : Nat
 sl : Nat
 ap : Nat
 al : Nat
 key : List UInt8
 to : List UInt8
 lim : Int
 pt : Nat
 ws : List Wr
 sk : List Tn
structure Rp where
 k : Int
 er : Int
 fd : Bool
 val : List UInt8
 ps : List Pr
 c : Nat
 n : Nat
 sp : Nat
 sl : Nat
 ap : Nat
 al : Nat
 prim : List UInt8
 np : Nat
 nl : Nat
structure Le where
 cl : Nat
 sh : Nat
 sq : Nat
 an : Bool
 q : Rq
 r : Rp
def zQ : Rq := ⟨0, 0, 0, 0, 0, 0, 0, [], [], 0, 0, [], []⟩
def zR : Rp := ⟨0, 0, false, [], [], 0, 0, 0, 0, 0, 0, [], 0, 0⟩
def zL : Le := ⟨0, 0, 0, false, zQ, zR⟩
def rightS (p l : Nat) : Bool := decide (p ≤ 281474976710656) && decide (l ≤ 4095)
theorem rightS_iff {p l : Nat} : rightS p l = true ↔ p ≤ 281474976710656 ∧ l ≤ 4095 := by simp [rightS]
def fitB (k v : List UInt8) : Bool := decide (k.length ≤ 32) && decide (v.length ≤ 256)
theorem fitB_iff {k v : List UInt8} : fitB k v = true ↔ k.length ≤ 32 ∧ v.length ≤ 256 := by simp [fitB]
def eqW (a b : Wr) : Bool := a.key == b.key && a.val == b.val && a.dead == b.dead
def eqT (a b : Tn) : Bool := a.c == b.c && a.n == b.n
def eqP (a b : Pr) : Bool := a.key == b.key && a.val == b.val
theorem eqW_iff {a b : Wr} : eqW a b = true ↔ a = b := by
 obtain ⟨k, v, d⟩ := a
 obtain ⟨k', v', d'⟩ := b
 simp [eqW, and_assoc]
theorem eqT_iff {a b : Tn} : eqT a b = true ↔ a = b := by
 obtain ⟨k, v⟩ := a
 obtain ⟨k', v'⟩ := b
 simp [eqT]
theorem eqP_iff {a b : Pr} : eqP a b = true ↔ a = b := by
 obtain ⟨k, v⟩ := a
 obtain ⟨k', v'⟩ := b
 simp [eqP]
def eqL {α : Type} (f : α → α → Bool) : List α → List α → Bool
 | [], [] => true
 | a :: r, b :: q => f a b && eqL f r q
 | _, _ => false
theorem eqL_iff {α : Type} {f : α → α → Bool} (hf : ∀ {a b}, f a b = true ↔ a = b) : ∀ {a b : List α}, eqL f a b = true ↔ a = b
 | [], [] => by simp [eqL]
 | [], b :: q => by simp [eqL]
 | a :: r, [] => by simp [eqL]
 | a :: r, b :: q => by simp [eqL, hf, eqL_iff hf (a := r) (b := q)]
def sameQ (a b : Rq) : Bool := eqL eqW a.ws b.ws && eqL eqT a.sk b.sk && a.k == b.k && (a.c == b.c && a.n == b.n) && (a.sp == b.sp && a.sl == b.sl) && (a.ap == b.ap && a.al == b.al) && a.key == b.key && a.to == b.to && a.lim == b.lim && a.pt == b.pt
theorem sameQ_iff {a b : Rq} : sameQ a b = true ↔ a = b := by
 obtain ⟨k, c, n, sp, sl, ap, al, key, to, lim, pt, ws, sk⟩ := a
 obtain ⟨k', c', n', sp', sl', ap', al', key', to', lim', pt', ws', sk'⟩ := b
 simp only [sameQ, Bool.and_eq_true, eqL_iff eqW_iff, eqL_iff eqT_iff, beq_iff_eq, Rq.mk.injEq]
 constructor
 ·rintro ⟨⟨⟨⟨⟨⟨⟨⟨⟨h1, h2⟩, h3⟩, h4, h5⟩, h6, h7⟩, h8, h9⟩, h10⟩, h11⟩, h12⟩, h13⟩
  exact ⟨h3, h4, h5, h6, h7, h8, h9, h10, h11, h12, h13, h1, h2⟩
 ·rintro ⟨h3, h4, h5, h6, h7, h8, h9, h10, h11, h12, h13, h1, h2⟩
  exact ⟨⟨⟨⟨⟨⟨⟨⟨⟨h1, h2⟩, h3⟩, h4, h5⟩, h6, h7⟩, h8, h9⟩, h10⟩, h11⟩, h12⟩, h13⟩
def sameR (a b : Rp) : Bool := a.k == b.k && a.er == b.er && a.fd == b.fd && a.val == b.val && eqL eqP a.ps b.ps && (a.c == b.c && a.n == b.n) && (a.sp == b.sp && a.sl == b.sl) && (a.ap == b.ap && a.al == b.al) && a.prim == b.prim && (a.np == b.np && a.nl == b.nl)
theorem sameR_iff {a b : Rp} : sameR a b = true ↔ a = b := by
 obtain ⟨k, er, fd, val, ps, c, n, sp, sl, ap, al, prim, np, nl⟩ := a
 obtain ⟨k', er', fd', val', ps', c', n', sp', sl', ap', al', prim', np', nl'⟩ := b
 simp only [sameR, Bool.and_eq_true, eqL_iff eqP_iff, beq_iff_eq, Rp.mk.injEq]
 constructor
 ·rintro ⟨⟨⟨⟨⟨⟨⟨⟨⟨h1, h2⟩, h3⟩, h4⟩, h5⟩, h6, h7⟩, h8, h9⟩, h10, h11⟩, h12⟩, h13, h14⟩
  exact ⟨h1, h2, h3, h4, h5, h6, h7, h8, h9, h10, h11, h12, h13, h14⟩
 ·rintro ⟨h1, h2, h3, h4, h5, h6, h7, h8, h9, h10, h11, h12, h13, h14⟩
  exact ⟨⟨⟨⟨⟨⟨⟨⟨⟨h1, h2⟩, h3⟩, h4⟩, h5⟩, h6, h7⟩, h8, h9⟩, h10, h11⟩, h12⟩, h13, h14⟩
def sameL (a b : Le) : Bool := a.cl == b.cl && a.sh == b.sh && a.sq == b.sq && a.an == b.an && sameQ a.q b.q && sameR a.r b.r
theorem sameL_iff {a b : Le} : sameL a b = true ↔ a = b := by
 obtain ⟨cl, sh, sq, an, q, r⟩ := a
 obtain ⟨cl', sh', sq', an', q', r'⟩ := b
 simp only [sameL, Bool.and_eq_true, sameQ_iff, sameR_iff, beq_iff_eq, Le.mk.injEq]
 constructor
 ·rintro ⟨⟨⟨⟨⟨h1, h2⟩, h3⟩, h4⟩, h5⟩, h6⟩
  exact ⟨h1, h2, h3, h4, h5, h6⟩
 ·rintro ⟨h1, h2, h3, h4, h5, h6⟩
  exact ⟨⟨⟨⟨⟨h1, h2⟩, h3⟩, h4⟩, h5⟩, h6⟩
def okQ (q : Rq) : Bool := (q.ws.all fun x => fitB x.key x.val) && decide (1 ≤ q.k) && decide (q.k ≤ 9) && rightS q.sp q.sl && rightS q.ap q.al && decide (q.key.length ≤ 32) && decide (q.to.length ≤ 32) && decide (0 ≤ q.lim) && decide (q.lim ≤ 32) && decide (q.ws.length ≤ 16) && decide (q.sk.length ≤ 16)
def okR (r : Rp) : Bool := (r.ps.all fun x => fitB x.key x.val) && decide (0 ≤ r.k) && decide (r.k ≤ 10) && decide (0 ≤ r.er) && decide (r.er ≤ 255) && rightS r.sp r.sl && rightS r.ap r.al && rightS r.np r.nl && decide (r.val.length ≤ 256) && decide (r.prim.length ≤ 32) && decide (r.ps.length ≤ 32)
def rightL (l : Le) : Bool := decide (l.cl < 4) && decide (l.sh < 8) && (if l.an then sameQ l.q zQ && okR l.r else sameR l.r zR && okQ l.q)
structure OkQ (q : Rq) : Prop where
 ws : ∀ x ∈ q.ws, x.key.length ≤ 32 ∧ x.val.length ≤ 256
 k : 1 ≤ q.k ∧ q.k ≤ 9
 st : q.sp ≤ 281474976710656 ∧ q.sl ≤ 4095
 at_ : q.ap ≤ 281474976710656 ∧ q.al ≤ 4095
 key : q.key.length ≤ 32
 to : q.to.length ≤ 32
 lim : 0 ≤ q.lim ∧ q.lim ≤ 32
 wl : q.ws.length ≤ 16
 sk : q.sk.length ≤ 16
theorem okQ_iff {q : Rq} : okQ q = true ↔ OkQ q := by
 simp only [okQ, Bool.and_eq_true, decide_eq_true_eq, List.all_eq_true, fitB_iff, rightS_iff]
 constructor
 ·rintro ⟨⟨⟨⟨⟨⟨⟨⟨⟨⟨h1, h2⟩, h3⟩, h4⟩, h5⟩, h6⟩, h7⟩, h8⟩, h9⟩, h10⟩, h11⟩
  exact ⟨h1, ⟨h2, h3⟩, h4, h5, h6, h7, ⟨h8, h9⟩, h10, h11⟩
 ·rintro ⟨h1, ⟨h2, h3⟩, h4, h5, h6, h7, ⟨h8, h9⟩, h10, h11⟩
  exact ⟨⟨⟨⟨⟨⟨⟨⟨⟨⟨h1, h2⟩, h3⟩, h4⟩, h5⟩, h6⟩, h7⟩, h8⟩, h9⟩, h10⟩, h11⟩
structure OkR (r : Rp) : Prop where
 ps : ∀ x ∈ r.ps, x.key.length ≤ 32 ∧ x.val.length ≤ 256
 k : 0 ≤ r.k ∧ r.k ≤ 10
 er : 0 ≤ r.er ∧ r.er ≤ 255
 st : r.sp ≤ 281474976710656 ∧ r.sl ≤ 4095
 at_ : r.ap ≤ 281474976710656 ∧ r.al ≤ 4095
 nw : r.np ≤ 281474976710656 ∧ r.nl ≤ 4095
 val : r.val.length ≤ 256
 prim : r.prim.length ≤ 32
 pl : r.ps.length ≤ 32
theorem okR_iff {r : Rp} : okR r = true ↔ OkR r := by
 simp only [okR, Bool.and_eq_true, decide_eq_true_eq, List.all_eq_true, fitB_iff, rightS_iff]
 constructor
 ·rintro ⟨⟨⟨⟨⟨⟨⟨⟨⟨⟨h1, h2⟩, h3⟩, h4⟩, h5⟩, h6⟩, h7⟩, h8⟩, h9⟩, h10⟩, h11⟩
  exact ⟨h1, ⟨h2, h3⟩, ⟨h4, h5⟩, h6, h7, h8, h9, h10, h11⟩
 ·rintro ⟨h1, ⟨h2, h3⟩, ⟨h4, h5⟩, h6, h7, h8, h9, h10, h11⟩
  exact ⟨⟨⟨⟨⟨⟨⟨⟨⟨⟨h1, h2⟩, h3⟩, h4⟩, h5⟩, h6⟩, h7⟩, h8⟩, h9⟩, h10⟩, h11⟩
theorem rightL_iff {l : Le} : rightL l = true ↔ l.cl < 4 ∧ l.sh < 8 ∧ (l.an = true ∧ l.q = zQ ∧ OkR l.r ∨ l.an = false ∧ l.r = zR ∧ OkQ l.q) := by
 simp only [rightL, Bool.and_eq_true, decide_eq_true_eq]
 cases l.an with
 | true => simp [sameQ_iff, okR_iff, and_assoc]
 | false => simp [sameR_iff, okQ_iff, and_assoc]
end Go.Proofs.YtkdkgdollmmcnaaGreat
