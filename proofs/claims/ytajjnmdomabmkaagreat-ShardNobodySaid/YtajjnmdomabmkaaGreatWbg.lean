import Derived.Test.YtajjnmdomabmkaaGreatWag
import Derived.Test.YtajjnmdomabmkaaGreatWam
import Derived.Test.YtajjnmdomabmkaaGreatWat
import Derived.Test.YtajjnmdomabmkaaGreatWaw
import Derived.Test.YtajjnmdomabmkaaGreatWas
import Derived.Test.YtajjnmdomabmkaaGreatWab
set_option maxHeartbeats 4000000
set_option maxRecDepth 100000
set_option linter.unusedVariables false
namespace Go.Proofs.YtajjnmdomabmkaaGreat
structure Sd where
 S : Sto.Sk
 T : Lat.Tb
 K : Ver.Bk
 sp : Int
 sl : Int
 np : Int
 nl : Int
 bp : Int
 bl : Int
def Sd.new : Sd := ⟨[], [], [], 0, 0, 0, 0, 0, 0⟩
def Sd.wt (X : Sd) : Nat := Sto.totS X.S + X.T.length + X.K.length
def veI (c n ap al : Int) (x : List UInt8 × Lat.Ii) : Sto.Ve := ⟨ap, al, c, n, x.2.val, x.2.dead⟩
def putsF (c n ap al : Int) : Lat.Tb → Sto.Sk → Sto.Sk
 | [], S => S
 | x :: r, S => putsF c n ap al r (Sto.putS x.1 (veI c n ap al x) S).1
def fixF (c n ap al : Int) (X : Sd) : Sd := { X with S := putsF c n ap al (Lat.byF c n X.T) X.S, T := Lat.restF c n X.T }
def holdF (T : Lat.Tb) : List (Int × Int) := T.map fun x => (x.2.c, x.2.n)
def followF (e : Ent.En) (X : Sd) : Sd :=
 if e.k = 1 then { X with bp := e.ap, bl := e.al }
 else if e.k = 2 then { X with T := (Lat.layF (Lat.rightB e.sp e.sl && Lat.rightB e.mp e.ml && kOk e.prim) e.c e.n e.sp e.sl e.mp e.ml e.prim e.ws X.T).1 }
 else if e.k = 3 then { fixF e.c e.n e.ap e.al X with K := (Ver.setB ⟨e.c, e.n, e.sp, e.sl, e.ap, e.al, e.pt, false⟩ X.K).1 }
 else if e.k = 4 then fixF e.c e.n e.ap e.al X
 else if e.k = 5 then { X with T := Lat.restF e.c e.n X.T, K := (Ver.setB ⟨e.c, e.n, e.sp, e.sl, 0, 0, 0, false⟩ X.K).1 }
 else if e.k = 6 then { X with sp := e.ap, sl := e.al, S := Sto.pruneS e.ap e.al X.S, K := Ver.retB e.ap e.al (holdF X.T) X.K }
 else if e.k = 7 then { X with K := (Ver.doneB e.c e.n X.K).1 }
 else if e.k = 8 then { X with S := (Sto.putS (e.ws.headD ⟨[], [], false⟩).key ⟨e.ap, e.al, e.c, e.n, (e.ws.headD ⟨[], [], false⟩).val, (e.ws.headD ⟨[], [], false⟩).dead⟩ X.S).1 }
 else { X with K := (Ver.setB ⟨e.c, e.n, e.sp, e.sl, e.ap, e.al, e.pt, e.dn⟩ X.K).1 }
def noteF (e : Ent.En) (X : Sd) (a : Int) (D : Drm.Dr) : Int × Sd × Drm.Dr :=
 if (Ent.writeE e).2 ≠ 0 then ((Ent.writeE e).2, X, D)
 else if (Lgs.appendF D a (Ent.writeE e).1).1 ≠ 0 then ((Lgs.appendF D a (Ent.writeE e).1).1, X, (Lgs.appendF D a (Ent.writeE e).1).2)
 else (0, followF e X, (Lgs.appendF D a (Ent.writeE e).1).2)
def eBound (p l : Int) : Ent.En := ⟨1, 0, 0, 0, 0, p.toNat, l.toNat, 0, 0, [], 0, false, []⟩
def eLay (c n sp sl mp ml : Int) (prim : List UInt8) (ws : List Wr) : Ent.En := ⟨2, c.toNat, n.toNat, sp.toNat, sl.toNat, 0, 0, mp.toNat, ml.toNat, prim, 0, false, ws⟩
def eCommit (c n sp sl ap al pt : Int) : Ent.En := ⟨3, c.toNat, n.toNat, sp.toNat, sl.toNat, ap.toNat, al.toNat, 0, 0, [], pt.toNat, false, []⟩
def advF (p l : Int) (X : Sd) (a : Int) (D : Drm.Dr) : Int × Sd × Drm.Dr :=
 if Clk.lessB X.bp X.bl p l then
  (if (noteF (eBound (Clk.boundF p l).1 (Clk.boundF p l).2) X a D).1 ≠ 0 then noteF (eBound (Clk.boundF p l).1 (Clk.boundF p l).2) X a D
  else (0, { (noteF (eBound (Clk.boundF p l).1 (Clk.boundF p l).2) X a D).2.1 with np := p, nl := l }, (noteF (eBound (Clk.boundF p l).1 (Clk.boundF p l).2) X a D).2.2))
 else (0, { X with np := p, nl := l }, D)
def hearF (f p l : Int) (X : Sd) (a : Int) (D : Drm.Dr) : Int × Sd × Drm.Dr :=
 if (Clk.mergeF X.np X.nl f p l).2.2 ≠ 0 then ((Clk.mergeF X.np X.nl f p l).2.2, X, D)
 else advF (Clk.mergeF X.np X.nl f p l).1 (Clk.mergeF X.np X.nl f p l).2.1 X a D
structure Rq where
 k : Int
 c : Int
 n : Int
 sp : Int
 sl : Int
 ap : Int
 al : Int
 key : List UInt8
 hi : List UInt8
 lim : Int
 pt : Int
 ws : List Wr
 sk : List (Int × Int)
structure Rp where
 k : Int
 err : Int
 found : Bool
 val : List UInt8
 prs : List (List UInt8 × List UInt8)
 c : Int
 n : Int
 sp : Int
 sl : Int
 ap : Int
 al : Int
 prim : List UInt8
 np : Int
 nl : Int
def Rp.zero : Rp := ⟨0, 0, false, [], [], 0, 0, 0, 0, 0, 0, [], 0, 0⟩
def refR (e : Int) : Rp := { Rp.zero with err := e }
def kinR (k : Int) : Rp := { Rp.zero with k := k }
def saidR (k p l : Int) : Rp := { Rp.zero with k := k, ap := p, al := l }
def lockR (x : Lat.Ii) : Rp := { Rp.zero with k := 3, c := x.c, n := x.n, sp := x.sp, sl := x.sl, prim := x.prim }
def rightQ (q : Rq) : Bool :=
 decide (1 ≤ q.k) && decide (q.k ≤ 9) && Clk.rightB q.sp q.sl && Clk.rightB q.ap q.al && decide (q.sk.length ≤ 16) &&
 (if q.k = 1 then kOk q.key else if q.k = 3 then kOk q.key && rightW q.ws else if q.k = 4 ∨ q.k = 5 then !(q.ap == 0 && q.al == 0) else true)
def verF (c n : Int) (S : Sto.Sk) : Option Sto.Ve := (S.flatMap (·.2)).find? fun v => v.c == c && v.n == n
def knownF (c n : Int) (X : Sd) : Option Rp :=
 match Ver.getB c n X.K with
 | some v => some (if Ver.cmB v then saidR 5 v.ap v.al else kinR 6)
 | none => (verF c n X.S).map fun v => saidR 5 v.p v.l
def ownF (c n : Int) (X : Sd) : Option (List UInt8 × Lat.Ii) := (Lat.byF c n X.T).head?
def primF (x : Lat.Ii) (X : Sd) : Bool := match getF x.prim X.T with
 | some y => y.c == x.c && y.n == x.n
 | none => false
def hindF (f : Int) (q : Rq) (lo hi : List UInt8) (X : Sd) (a : Int) (D : Drm.Dr) : Option Rp × Sd × Drm.Dr :=
 if Clk.lessB q.sp q.sl X.sp X.sl then (some (refR 30), X, D)
 else if (hearF f q.sp q.sl X a D).1 ≠ 0 then (some (refR (hearF f q.sp q.sl X a D).1), (hearF f q.sp q.sl X a D).2)
 else ((Lat.firstF lo hi q.sp q.sl ((q.c, q.n) :: q.sk) (hearF f q.sp q.sl X a D).2.1.T).map (fun x => lockR x.2), (hearF f q.sp q.sl X a D).2)
def getFn (f : Int) (q : Rq) (X : Sd) (a : Int) (D : Drm.Dr) : Rp × Sd × Drm.Dr :=
 match (hindF f q q.key (q.key ++ [0]) X a D).1 with
 | some r => (r, (hindF f q q.key (q.key ++ [0]) X a D).2)
 | none => ({ Rp.zero with k := 1, found := (Sto.getV (Sto.seeF (Sto.chainF q.key (hindF f q q.key (q.key ++ [0]) X a D).2.1.S) q.sp q.sl)).2, val := (Sto.getV (Sto.seeF (Sto.chainF q.key (hindF f q q.key (q.key ++ [0]) X a D).2.1.S) q.sp q.sl)).1 }, (hindF f q q.key (q.key ++ [0]) X a D).2)
def contF (k : List UInt8) (sp sl : Int) (X : Sd) : Option Rp :=
 match getF k X.T with
 | some x => some (lockR x)
 | none => if Clk.lessB sp sl (Sto.newF (Sto.chainF k X.S)).1 (Sto.newF (Sto.chainF k X.S)).2 then some (kinR 10) else if 1000 ≤ (Sto.chainF k X.S).length then some (refR 3) else none
def layFn (f : Int) (q : Rq) (X : Sd) (a : Int) (D : Drm.Dr) : Rp × Sd × Drm.Dr :=
 if Clk.lessB q.sp q.sl X.sp X.sl then (refR 30, X, D)
 else match knownF q.c q.n X with
 | some r => (r, X, D)
 | none => match ownF q.c q.n X with
  | some x => (saidR 4 x.2.mp x.2.ml, X, D)
  | none => match q.ws.findSome? (fun w => contF w.key q.sp q.sl X) with
   | some r => (r, X, D)
   | none =>
    let h := hearF f q.sp q.sl X a D
    if h.1 ≠ 0 then (refR h.1, h.2) else
    let t := Clk.tickF h.2.1.np h.2.1.nl f
    if t.2.2 ≠ 0 then (refR t.2.2, h.2) else
    let v := advF t.1 t.2.1 h.2.1 a h.2.2
    if v.1 ≠ 0 then (refR v.1, v.2) else
    let o := noteF (eLay q.c q.n q.sp q.sl t.1 t.2.1 q.key q.ws) v.2.1 a v.2.2
    if o.1 ≠ 0 then (refR o.1, o.2) else (saidR 4 t.1 t.2.1, o.2)
def decFn (f : Int) (q : Rq) (X : Sd) (a : Int) (D : Drm.Dr) : Rp × Sd × Drm.Dr :=
 match knownF q.c q.n X with
 | some r => (r, X, D)
 | none => match ownF q.c q.n X with
  | none => (kinR 6, X, D)
  | some x =>
   if primF x.2 X = false then (refR 1, X, D)
   else if Clk.lessB q.ap q.al x.2.mp x.2.ml then (saidR 7 x.2.mp x.2.ml, X, D) else
   let h := hearF f q.ap q.al X a D
   if h.1 ≠ 0 then (refR h.1, h.2) else
   let o := noteF (eCommit q.c q.n x.2.sp x.2.sl q.ap q.al q.pt) h.2.1 a h.2.2
   if o.1 ≠ 0 then (refR o.1, o.2) else (saidR 5 q.ap q.al, o.2)
def ansF (f : Int) (q : Rq) (X : Sd) (a : Int) (D : Drm.Dr) : Rp × Sd × Drm.Dr :=
 if rightQ q = false then (refR 1, X, D) else if D.down then (refR 11, X, D)
 else if q.k = 1 then getFn f q X a D else if q.k = 3 then layFn f q X a D else decFn f q X a D
def handF (f : Int) (q : Rq) (X : Sd) (a : Int) (D : Drm.Dr) : Rp × Sd × Drm.Dr := ({ (ansF f q X a D).1 with np := (ansF f q X a D).2.1.np, nl := (ansF f q X a D).2.1.nl }, (ansF f q X a D).2)
end Go.Proofs.YtajjnmdomabmkaaGreat
namespace Go.Proofs.YtajjnmdomabmkaaGreat
open Go.RowKit
def ByR (w : World) (k : Nat) : Prop := ∃ cs fz, w.heap[k]? = some (.cells cs 5 fz)
structure Env (SA : Nat → Nat → (Nat → Prop) → Sto.Sk → World → Prop) (TA : Nat → Nat → (Nat → Prop) → Lat.Tb → World → Prop) (BA : Nat → Nat → (Nat → Prop) → Ver.Bk → World → Prop) : Prop where
 I : Sto.Ifs SA
 J : Lat.Ifl TA
 V : Ver.Ifv BA
 E : Ent.Ife
 tS : ∀ {B p : Nat} {M : Nat → Prop} {S : Sto.Sk} {w : World}, SA B p M S w → ∀ k, M k → ¬ ByR w k
 tT : ∀ {B p : Nat} {M : Nat → Prop} {T : Lat.Tb} {w : World}, TA B p M T w → ∀ k, M k → ¬ ByR w k ∧ Sto.NoVe w k
 tV : ∀ {B p : Nat} {M : Nat → Prop} {K : Ver.Bk} {w : World}, BA B p M K w → ∀ k, M k → ¬ ByR w k ∧ Sto.NoVe w k
structure Fp where
 B : Nat
 sb : Nat
 pb : Nat
 lb : Nat
 st : Nat
 la : Nat
 ve : Nat
 B1 : Nat
 B2 : Nat
 B3 : Nat
def shc (f : Fp) (X : Sd) : Array Value := #[.pointer (some ⟨f.pb, 0, none⟩), .pointer (some ⟨f.lb, 0, none⟩), .pointer (some ⟨f.st, 0, none⟩), .pointer (some ⟨f.la, 0, none⟩), .pointer (some ⟨f.ve, 0, none⟩), .int .u64 X.sp, .int .u32 X.sl, .int .u64 X.np, .int .u32 X.nl, .int .u64 X.bp, .int .u32 X.bl]
def Fp.In (f : Fp) (M1 M2 M3 : Nat → Prop) (w : World) (k : Nat) : Prop := k = f.sb ∨ k = f.lb ∨ k = f.pb ∨ M1 k ∨ M2 k ∨ M3 k ∨ (f.pb ≤ k ∧ ByR w k)
section
variable (SA : Nat → Nat → (Nat → Prop) → Sto.Sk → World → Prop) (TA : Nat → Nat → (Nat → Prop) → Lat.Tb → World → Prop) (BA : Nat → Nat → (Nat → Prop) → Ver.Bk → World → Prop)
structure ShC (f : Fp) (M1 M2 M3 : Nat → Prop) (X : Sd) (a : Int) (g : Nat) (D : Drm.Dr) (w : World) : Prop where
 blk : w.heap[f.sb]? = some (.cells (shc f X) 122 (0, 0))
 lg : Lgs.LgAt f.lb f.pb a g D w
 ok : D.Ok
 s : SA f.B1 f.st M1 X.S w
 t : TA f.B2 f.la M2 X.T w
 v : BA f.B3 f.ve M3 X.K w
 d12 : ∀ k, M1 k → ¬ M2 k
 d13 : ∀ k, M1 k → ¬ M3 k
 d23 : ∀ k, M2 k → ¬ M3 k
 o : ∀ k, M1 k ∨ M2 k ∨ M3 k → k ≠ f.sb ∧ k ≠ f.lb ∧ k ≠ f.pb
 ne : f.sb ≠ f.lb ∧ f.sb ≠ f.pb
 lo : f.B ≤ f.sb ∧ f.B ≤ f.pb ∧ f.B ≤ f.B1 ∧ f.B ≤ f.B2 ∧ f.B ≤ f.B3
def ShAt (f : Fp) (M : Nat → Prop) (X : Sd) (a : Int) (g : Nat) (D : Drm.Dr) (w : World) : Prop := ∃ M1 M2 M3, ShC SA TA BA f M1 M2 M3 X a g D w ∧ M = f.In M1 M2 M3 w
def ShTo (f : Fp) (M : Nat → Prop) (w : World) (X : Sd) (a : Int) (g : Nat) (D : Drm.Dr) (w' : World) : Prop := ∃ M', ShAt SA TA BA f M' X a g D w' ∧ Kept M w w' ∧ ∀ i, M' i → M i ∨ w.heap.size ≤ i
end
variable {SA : Nat → Nat → (Nat → Prop) → Sto.Sk → World → Prop} {TA : Nat → Nat → (Nat → Prop) → Lat.Tb → World → Prop} {BA : Nat → Nat → (Nat → Prop) → Ver.Bk → World → Prop}
variable {f : Fp} {M M1 M2 M3 G : Nat → Prop} {X : Sd} {a : Int} {g : Nat} {D : Drm.Dr} {w w' : World}
theorem byr_kept {k : Nat} (hk : Kept G w w') (h : ByR w' k) (hl : k < w.heap.size) (hn : ¬ G k) : ByR w k := by
 obtain ⟨cs, fz, h⟩ := h
 exact ⟨cs, fz, by rw [← hk.block k hl hn]; exact h⟩
theorem drum_kept {pb : Nat} (h : Drm.DrumAt pb D w) (hk : Kept G w w') (hp : ¬ G pb) (hG : ∀ k, pb ≤ k → ByR w k → ¬ G k) : Drm.DrumAt pb D w' := by
 obtain ⟨vs, h⟩ := h
 refine ⟨vs, ⟨?_, fun i hi => own_kept (h.own i hi) hk fun k hv => ?_, h.apart⟩⟩
 ·rw [hk.block pb (lt_of_block h.blk) hp]
  exact h.blk
 ·have ho := h.own i hi
  rcases ho.2 with ⟨e, _⟩ | ⟨g, cap, cur, e, hb, hg, _⟩
  ·rw [e] at hv
   simp [Value.ownBlock] at hv
  ·rw [e] at hv
   simp only [Value.ownBlock, Option.some.injEq] at hv
   subst hv
   exact hG _ (by omega) ⟨cur, _, hg⟩
theorem lg_kept {lb pb : Nat} (h : Lgs.LgAt lb pb a g D w) (hk : Kept G w w') (hl : ¬ G lb) (hp : ¬ G pb) (hG : ∀ k, pb ≤ k → ByR w k → ¬ G k) : Lgs.LgAt lb pb a g D w' := by
 refine ⟨?_, drum_kept h.drum hk hp hG, h.ne⟩
 unfold Lgs.LbAt
 rw [hk.block lb (Lgs.LbAt.lt h.blk) hl]
 exact h.blk
theorem drm_kept {pb : Nat} (h : Drm.Kept pb w w') : Kept (fun k => k = pb ∨ (pb ≤ k ∧ ByR w k)) w w' := by
 refine ⟨h.below.os, h.below.tape, h.below.output, h.below.size, fun k hk hn => ?_⟩
 by_cases hp : k < pb
 ·exact h.below.block k hp
 ·obtain ⟨o, ho⟩ : ∃ o, w.heap[k]? = some o := ⟨_, Array.getElem?_eq_getElem hk⟩
  rw [ho]
  exact h.other k o ho (fun e => hn (.inl e)) (fun cs fz e => hn (.inr ⟨by omega, cs, fz, by rw [ho, e]⟩))
theorem ShC.kept (E : Env SA TA BA) (h : ShC SA TA BA f M1 M2 M3 X a g D w) (hk : Kept G w w') (hG : ∀ k, f.In M1 M2 M3 w k → ¬ G k) (hv : ∀ k, G k → Sto.NoVe w k) : ShC SA TA BA f M1 M2 M3 X a g D w' :=
 {h with
  blk := by rw [hk.block f.sb (lt_of_block h.blk) (hG _ (.inl rfl))]; exact h.blk
  lg := lg_kept h.lg hk (hG _ (.inr (.inl rfl))) (hG _ (.inr (.inr (.inl rfl)))) (fun k h1 h2 => hG k (.inr (.inr (.inr (.inr (.inr (.inr ⟨h1, h2⟩)))))))
  s := E.I.keep h.s hk (fun k hm => hG k (.inr (.inr (.inr (.inl hm))))) hv
  t := E.J.keep h.t hk (fun k hm => hG k (.inr (.inr (.inr (.inr (.inl hm))))))
  v := E.V.keep h.v hk (fun k hm => hG k (.inr (.inr (.inr (.inr (.inr (.inl hm))))))) }
theorem In_kept (hk : Kept G w w') {k : Nat} (h : f.In M1 M2 M3 w' k) : f.In M1 M2 M3 w k ∨ w.heap.size ≤ k ∨ G k := by
 rcases h with h | h | h | h | h | h | ⟨h1, h2⟩
 ·exact .inl (.inl h)
 ·exact .inl (.inr (.inl h))
 ·exact .inl (.inr (.inr (.inl h)))
 ·exact .inl (.inr (.inr (.inr (.inl h))))
 ·exact .inl (.inr (.inr (.inr (.inr (.inl h)))))
 ·exact .inl (.inr (.inr (.inr (.inr (.inr (.inl h))))))
 ·by_cases hs : w.heap.size ≤ k
  ·exact .inr (.inl hs)
  ·by_cases hg : G k
   ·exact .inr (.inr hg)
   ·exact .inl (.inr (.inr (.inr (.inr (.inr (.inr ⟨h1, byr_kept hk h2 (by omega) hg⟩))))))
theorem ShC.on (E : Env SA TA BA) (h : ShC SA TA BA f M1 M2 M3 X a g D w) (hb : Below w.heap.size w w') : ShC SA TA BA f M1 M2 M3 X a g D w' := h.kept E (Kept.of_below (F := fun _ => False) hb) (fun _ _ h => h) (fun _ h => h.elim)
theorem ShAt.on (E : Env SA TA BA) (h : ShAt SA TA BA f M X a g D w) (hb : Below w.heap.size w w') : ∃ M', ShAt SA TA BA f M' X a g D w' ∧ ∀ i, M' i → M i ∨ w.heap.size ≤ i := by
 obtain ⟨M1, M2, M3, h, rfl⟩ := h
 refine ⟨_, ⟨M1, M2, M3, h.on E hb, rfl⟩, fun i hi => ?_⟩
 rcases In_kept (G := fun _ => False) (Kept.of_below hb) hi with h1 | h1 | h1
 ·exact .inl h1
 ·exact .inr h1
 ·exact h1.elim
theorem ShAt.lo (E : Env SA TA BA) (h : ShAt SA TA BA f M X a g D w) {k : Nat} (hk : M k) : f.B ≤ k := by
 obtain ⟨M1, M2, M3, h, rfl⟩ := h
 have hl := h.lo
 have hn := h.lg.ne
 rcases hk with rfl | rfl | rfl | h1 | h1 | h1 | ⟨h1, _⟩
 ·exact hl.1
 ·omega
 ·exact hl.2.1
 ·exact Nat.le_trans hl.2.2.1 (E.I.lt h.s k h1).1
 ·exact Nat.le_trans hl.2.2.2.1 (E.J.lt h.t k h1).1
 ·exact Nat.le_trans hl.2.2.2.2 (E.V.lt h.v k h1).1
 ·omega
theorem ShAt.lt (E : Env SA TA BA) (h : ShAt SA TA BA f M X a g D w) {k : Nat} (hk : M k) : k < w.heap.size := by
 obtain ⟨M1, M2, M3, h, rfl⟩ := h
 rcases hk with rfl | rfl | rfl | h1 | h1 | h1 | ⟨_, cs, fz, h1⟩
 ·exact lt_of_block h.blk
 ·exact Lgs.LbAt.lt h.lg.blk
 ·exact h.lg.drum.lt
 ·exact (E.I.lt h.s k h1).2
 ·exact (E.J.lt h.t k h1).2
 ·exact (E.V.lt h.v k h1).2
 ·exact lt_of_block h1
theorem ShAt.cells (h : ShAt SA TA BA f M X a g D w) : w.cell? ⟨f.sb, 0, none⟩ = some (.pointer (some ⟨f.pb, 0, none⟩)) ∧ w.cell? ⟨f.sb, 1, none⟩ = some (.pointer (some ⟨f.lb, 0, none⟩)) ∧ w.cell? ⟨f.sb, 2, none⟩ = some (.pointer (some ⟨f.st, 0, none⟩)) ∧ w.cell? ⟨f.sb, 3, none⟩ = some (.pointer (some ⟨f.la, 0, none⟩)) ∧ w.cell? ⟨f.sb, 4, none⟩ = some (.pointer (some ⟨f.ve, 0, none⟩)) := by
 obtain ⟨M1, M2, M3, h, rfl⟩ := h
 have := h.blk
 exact ⟨Drm.blk_cell this rfl, Drm.blk_cell this rfl, Drm.blk_cell this rfl, Drm.blk_cell this rfl, Drm.blk_cell this rfl⟩
theorem ShAt.nums (h : ShAt SA TA BA f M X a g D w) : w.cell? ⟨f.sb, 5, none⟩ = some (.int .u64 X.sp) ∧ w.cell? ⟨f.sb, 6, none⟩ = some (.int .u32 X.sl) ∧ w.cell? ⟨f.sb, 7, none⟩ = some (.int .u64 X.np) ∧ w.cell? ⟨f.sb, 8, none⟩ = some (.int .u32 X.nl) ∧ w.cell? ⟨f.sb, 9, none⟩ = some (.int .u64 X.bp) ∧ w.cell? ⟨f.sb, 10, none⟩ = some (.int .u32 X.bl) := by
 obtain ⟨M1, M2, M3, h, rfl⟩ := h
 have := h.blk
 exact ⟨Drm.blk_cell this rfl, Drm.blk_cell this rfl, Drm.blk_cell this rfl, Drm.blk_cell this rfl, Drm.blk_cell this rfl, Drm.blk_cell this rfl⟩
theorem ShAt.free (h : ShAt SA TA BA f M X a g D w) (k : Nat) : w.frozen? ⟨f.sb, k, none⟩ = false := by
 obtain ⟨M1, M2, M3, h, rfl⟩ := h
 exact Drm.blk_free h.blk
end Go.Proofs.YtajjnmdomabmkaaGreat
namespace Go.Proofs.YtajjnmdomabmkaaGreat
open Go.RowKit
variable {SA : Nat → Nat → (Nat → Prop) → Sto.Sk → World → Prop} {TA : Nat → Nat → (Nat → Prop) → Lat.Tb → World → Prop} {BA : Nat → Nat → (Nat → Prop) → Ver.Bk → World → Prop}
variable {f : Fp} {M : Nat → Prop} {X : Sd} {a : Int} {g : Nat} {D : Drm.Dr} {w w' : World}
theorem ShC.setS {M1 M2 M3 N1 : Nat → Prop} {S' : Sto.Sk} (E : Env SA TA BA) (h : ShC SA TA BA f M1 M2 M3 X a g D w) (hs : SA f.B1 f.st N1 S' w') (hk : Kept M1 w w') (hn : ∀ i, N1 i → M1 i ∨ w.heap.size ≤ i) : ShC SA TA BA f N1 M2 M3 { X with S := S' } a g D w' :=
 {blk := by rw [hk.block f.sb (lt_of_block h.blk) (fun e => (h.o _ (.inl e)).1 rfl)]; exact h.blk
  lg := lg_kept h.lg hk (fun e => (h.o _ (.inl e)).2.1 rfl) (fun e => (h.o _ (.inl e)).2.2 rfl) (fun k _ h2 h3 => E.tS h.s k h3 h2)
  ok := h.ok
  s := hs
  t := E.J.keep h.t hk (fun k h2 h1 => h.d12 k h1 h2)
  v := E.V.keep h.v hk (fun k h2 h1 => h.d13 k h1 h2)
  d12 := fun k h1 h2 => by
   rcases hn k h1 with e | e
   ·exact h.d12 k e h2
   ·have := (E.J.lt h.t k h2).2
    omega
  d13 := fun k h1 h2 => by
   rcases hn k h1 with e | e
   ·exact h.d13 k e h2
   ·have := (E.V.lt h.v k h2).2
    omega
  d23 := h.d23
  o := fun k h1 => by
   rcases h1 with h1 | h1
   ·rcases hn k h1 with e | e
    ·exact h.o k (.inl e)
    ·have h2 := lt_of_block h.blk
     have h3 := Lgs.LbAt.lt h.lg.blk
     have h4 := h.lg.drum.lt
     exact ⟨by omega, by omega, by omega⟩
   ·exact h.o k (.inr h1)
  ne := h.ne
  lo := h.lo }
theorem ShC.setT {M1 M2 M3 N2 : Nat → Prop} {T' : Lat.Tb} (E : Env SA TA BA) (h : ShC SA TA BA f M1 M2 M3 X a g D w) (hs : TA f.B2 f.la N2 T' w') (hk : Kept M2 w w') (hn : ∀ i, N2 i → M2 i ∨ w.heap.size ≤ i) : ShC SA TA BA f M1 N2 M3 { X with T := T' } a g D w' :=
 {blk := by rw [hk.block f.sb (lt_of_block h.blk) (fun e => (h.o _ (.inr (.inl e))).1 rfl)]; exact h.blk
  lg := lg_kept h.lg hk (fun e => (h.o _ (.inr (.inl e))).2.1 rfl) (fun e => (h.o _ (.inr (.inl e))).2.2 rfl) (fun k _ h2 h3 => (E.tT h.t k h3).1 h2)
  ok := h.ok
  s := E.I.keep h.s hk (fun k h1 h2 => h.d12 k h1 h2) (fun k h2 => (E.tT h.t k h2).2)
  t := hs
  v := E.V.keep h.v hk (fun k h2 h1 => h.d23 k h1 h2)
  d12 := fun k h1 h2 => by
   rcases hn k h2 with e | e
   ·exact h.d12 k h1 e
   ·have := (E.I.lt h.s k h1).2
    omega
  d13 := h.d13
  d23 := fun k h1 h2 => by
   rcases hn k h1 with e | e
   ·exact h.d23 k e h2
   ·have := (E.V.lt h.v k h2).2
    omega
  o := fun k h1 => by
   rcases h1 with h1 | h1 | h1
   ·exact h.o k (.inl h1)
   ·rcases hn k h1 with e | e
    ·exact h.o k (.inr (.inl e))
    ·have h2 := lt_of_block h.blk
     have h3 := Lgs.LbAt.lt h.lg.blk
     have h4 := h.lg.drum.lt
     exact ⟨by omega, by omega, by omega⟩
   ·exact h.o k (.inr (.inr h1))
  ne := h.ne
  lo := h.lo }
theorem ShC.setV {M1 M2 M3 N3 : Nat → Prop} {K' : Ver.Bk} (E : Env SA TA BA) (h : ShC SA TA BA f M1 M2 M3 X a g D w) (hs : BA f.B3 f.ve N3 K' w') (hk : Kept M3 w w') (hn : ∀ i, N3 i → M3 i ∨ w.heap.size ≤ i) : ShC SA TA BA f M1 M2 N3 { X with K := K' } a g D w' :=
 {blk := by rw [hk.block f.sb (lt_of_block h.blk) (fun e => (h.o _ (.inr (.inr e))).1 rfl)]; exact h.blk
  lg := lg_kept h.lg hk (fun e => (h.o _ (.inr (.inr e))).2.1 rfl) (fun e => (h.o _ (.inr (.inr e))).2.2 rfl) (fun k _ h2 h3 => (E.tV h.v k h3).1 h2)
  ok := h.ok
  s := E.I.keep h.s hk (fun k h1 h2 => h.d13 k h1 h2) (fun k h2 => (E.tV h.v k h2).2)
  t := E.J.keep h.t hk (fun k h1 h2 => h.d23 k h1 h2)
  v := hs
  d12 := h.d12
  d13 := fun k h1 h2 => by
   rcases hn k h2 with e | e
   ·exact h.d13 k h1 e
   ·have := (E.I.lt h.s k h1).2
    omega
  d23 := fun k h1 h2 => by
   rcases hn k h2 with e | e
   ·exact h.d23 k h1 e
   ·have := (E.J.lt h.t k h1).2
    omega
  o := fun k h1 => by
   rcases h1 with h1 | h1 | h1
   ·exact h.o k (.inl h1)
   ·exact h.o k (.inr (.inl h1))
   ·rcases hn k h1 with e | e
    ·exact h.o k (.inr (.inr e))
    ·have h2 := lt_of_block h.blk
     have h3 := Lgs.LbAt.lt h.lg.blk
     have h4 := h.lg.drum.lt
     exact ⟨by omega, by omega, by omega⟩
  ne := h.ne
  lo := h.lo }
theorem ShC.setL {M1 M2 M3 : Nat → Prop} {a' : Int} {g' : Nat} {D' : Drm.Dr} (E : Env SA TA BA) (h : ShC SA TA BA f M1 M2 M3 X a g D w) (hl : Lgs.LgAt f.lb f.pb a' g' D' w') (hD : D'.Ok) (hk : Kept (fun k => k = f.lb ∨ k = f.pb ∨ (f.pb ≤ k ∧ ByR w k)) w w') : ShC SA TA BA f M1 M2 M3 X a' g' D' w' := by
 have hb : ¬ ByR w f.sb := fun ⟨cs, fz, e⟩ => by
  have := h.blk
  rw [e] at this
  injection this with this
  injection this with _ this _
  exact absurd this (by decide)
 have nl : Sto.NoVe w f.lb := Sto.noVe_tag h.lg.blk (by intro cs fz e; injection e with _ e _; exact absurd e (by decide))
 have np : Sto.NoVe w f.pb := by
  obtain ⟨vs, hd⟩ := h.lg.drum
  exact Sto.noVe_tag hd.blk (by intro cs fz e; injection e with _ e _; exact absurd e (by decide))
 have hv : ∀ k, (k = f.lb ∨ k = f.pb ∨ (f.pb ≤ k ∧ ByR w k)) → Sto.NoVe w k := fun k hk => by
  rcases hk with rfl | rfl | ⟨_, cs, fz, e⟩
  ·exact nl
  ·exact np
  ·exact Sto.noVe_tag e (by intro cs fz e; injection e with _ e _; exact absurd e (by decide))
 exact
 {h with
  blk := by
   rw [hk.block f.sb (lt_of_block h.blk) (fun e => ?_)]
   ·exact h.blk
   ·rcases e with e | e | e
    ·exact h.ne.1 e
    ·exact h.ne.2 e
    ·exact hb e.2
  lg := hl
  ok := hD
  s := E.I.keep h.s hk (fun k h1 h2 => by
   rcases h2 with e | e | e
   ·exact (h.o k (.inl h1)).2.1 e
   ·exact (h.o k (.inl h1)).2.2 e
   ·exact E.tS h.s k h1 e.2) hv
  t := E.J.keep h.t hk (fun k h1 h2 => by
   rcases h2 with e | e | e
   ·exact (h.o k (.inr (.inl h1))).2.1 e
   ·exact (h.o k (.inr (.inl h1))).2.2 e
   ·exact (E.tT h.t k h1).1 e.2)
  v := E.V.keep h.v hk (fun k h1 h2 => by
   rcases h2 with e | e | e
   ·exact (h.o k (.inr (.inr h1))).2.1 e
   ·exact (h.o k (.inr (.inr h1))).2.2 e
   ·exact (E.tV h.v k h1).1 e.2) }
theorem ShC.setN {M1 M2 M3 : Nat → Prop} {X' : Sd} (E : Env SA TA BA) (h : ShC SA TA BA f M1 M2 M3 X a g D w) (hb : w'.heap[f.sb]? = some (.cells (shc f X') 122 (0, 0))) (hk : Kept (fun k => k = f.sb) w w') (hS : X'.S = X.S) (hT : X'.T = X.T) (hK : X'.K = X.K) : ShC SA TA BA f M1 M2 M3 X' a g D w' := by
 have nv : ∀ k, k = f.sb → Sto.NoVe w k := fun k e => by
  subst e
  exact Sto.noVe_tag h.blk (by intro cs fz e; injection e with _ e _; exact absurd e (by decide))
 have nb : ¬ ByR w f.sb := fun ⟨cs, fz, e⟩ => by
  have := h.blk
  rw [e] at this
  injection this with this
  injection this with _ this _
  exact absurd this (by decide)
 exact
 {blk := hb
  lg := lg_kept h.lg hk (fun e => h.ne.1 e.symm) (fun e => h.ne.2 e.symm) (fun k _ h2 e => nb (e ▸ h2))
  ok := h.ok
  s := hS ▸ E.I.keep h.s hk (fun k h1 e => (h.o k (.inl h1)).1 e) nv
  t := hT ▸ E.J.keep h.t hk (fun k h1 e => (h.o k (.inr (.inl h1))).1 e)
  v := hK ▸ E.V.keep h.v hk (fun k h1 e => (h.o k (.inr (.inr h1))).1 e)
  d12 := h.d12
  d13 := h.d13
  d23 := h.d23
  o := h.o
  ne := h.ne
  lo := h.lo }
theorem In_sub {M1 M2 M3 N1 N2 N3 G : Nat → Prop} (hk : Kept G w w') (hg : ∀ k, G k → f.In M1 M2 M3 w k) (h1 : ∀ i, N1 i → M1 i ∨ w.heap.size ≤ i) (h2 : ∀ i, N2 i → M2 i ∨ w.heap.size ≤ i) (h3 : ∀ i, N3 i → M3 i ∨ w.heap.size ≤ i) : ∀ i, f.In N1 N2 N3 w' i → f.In M1 M2 M3 w i ∨ w.heap.size ≤ i := fun k h => by
 rcases h with h | h | h | h | h | h | ⟨h4, h5⟩
 ·exact .inl (.inl h)
 ·exact .inl (.inr (.inl h))
 ·exact .inl (.inr (.inr (.inl h)))
 ·exact (h1 k h).imp (fun e => .inr (.inr (.inr (.inl e)))) id
 ·exact (h2 k h).imp (fun e => .inr (.inr (.inr (.inr (.inl e))))) id
 ·exact (h3 k h).imp (fun e => .inr (.inr (.inr (.inr (.inr (.inl e)))))) id
 ·by_cases hs : w.heap.size ≤ k
  ·exact .inr hs
  ·by_cases hgk : G k
   ·exact .inl (hg k hgk)
   ·exact .inl (.inr (.inr (.inr (.inr (.inr (.inr ⟨h4, byr_kept hk h5 (by omega) hgk⟩))))))
theorem to_t {M1 M2 M3 N2 : Nat → Prop} {T' : Lat.Tb} (E : Env SA TA BA) (h : ShC SA TA BA f M1 M2 M3 X a g D w) (hs : TA f.B2 f.la N2 T' w') (hk : Kept M2 w w') (hn : ∀ i, N2 i → M2 i ∨ w.heap.size ≤ i) : ShTo SA TA BA f (f.In M1 M2 M3 w) w { X with T := T' } a g D w' :=
 ⟨_, ⟨M1, N2, M3, h.setT E hs hk hn, rfl⟩, hk.mono (fun i e => .inr (.inr (.inr (.inr (.inl e))))), In_sub hk (fun i e => .inr (.inr (.inr (.inr (.inl e))))) (fun _ => .inl) hn (fun _ => .inl)⟩
theorem to_v {M1 M2 M3 N3 : Nat → Prop} {K' : Ver.Bk} (E : Env SA TA BA) (h : ShC SA TA BA f M1 M2 M3 X a g D w) (hs : BA f.B3 f.ve N3 K' w') (hk : Kept M3 w w') (hn : ∀ i, N3 i → M3 i ∨ w.heap.size ≤ i) : ShTo SA TA BA f (f.In M1 M2 M3 w) w { X with K := K' } a g D w' :=
 ⟨_, ⟨M1, M2, N3, h.setV E hs hk hn, rfl⟩, hk.mono (fun i e => .inr (.inr (.inr (.inr (.inr (.inl e)))))), In_sub hk (fun i e => .inr (.inr (.inr (.inr (.inr (.inl e)))))) (fun _ => .inl) (fun _ => .inl) hn⟩
theorem to_l {M1 M2 M3 : Nat → Prop} {a' : Int} {g' : Nat} {D' : Drm.Dr} (E : Env SA TA BA) (h : ShC SA TA BA f M1 M2 M3 X a g D w) (hl : Lgs.LgAt f.lb f.pb a' g' D' w') (hD : D'.Ok) (hk : Kept (fun k => k = f.lb ∨ k = f.pb ∨ (f.pb ≤ k ∧ ByR w k)) w w') : ShTo SA TA BA f (f.In M1 M2 M3 w) w X a' g' D' w' := by
 have hi : ∀ k, (k = f.lb ∨ k = f.pb ∨ (f.pb ≤ k ∧ ByR w k)) → f.In M1 M2 M3 w k := fun k e => by
  rcases e with e | e | e
  ·exact .inr (.inl e)
  ·exact .inr (.inr (.inl e))
  ·exact .inr (.inr (.inr (.inr (.inr (.inr e)))))
 exact ⟨_, ⟨M1, M2, M3, h.setL E hl hD hk, rfl⟩, hk.mono hi, In_sub hk hi (fun _ => .inl) (fun _ => .inl) (fun _ => .inl)⟩
theorem to_n {M1 M2 M3 : Nat → Prop} {X' : Sd} (E : Env SA TA BA) (h : ShC SA TA BA f M1 M2 M3 X a g D w) (hb : w'.heap[f.sb]? = some (.cells (shc f X') 122 (0, 0))) (hk : Kept (fun k => k = f.sb) w w') (hS : X'.S = X.S) (hT : X'.T = X.T) (hK : X'.K = X.K) : ShTo SA TA BA f (f.In M1 M2 M3 w) w X' a g D w' :=
 ⟨_, ⟨M1, M2, M3, h.setN E hb hk hS hT hK, rfl⟩, hk.mono (fun i e => .inl e), In_sub hk (fun i e => .inl e) (fun _ => .inl) (fun _ => .inl) (fun _ => .inl)⟩
theorem sh_lay (E : Env SA TA BA) (c n sp sl mp ml : Int) (prim : List UInt8) (L : List Wr) (v : Value) (h : ShAt SA TA BA f M X a g D w) (ht : X.T.length < 10000) (hv : Lat.WsAt w.heap.size v L w) (hm : 0 < L.length → ∀ k, v.ownBlock = some k → ¬ M k) (h0 : 0 ≤ mp ∧ 0 ≤ ml) : Calls Tryz.prog 80 #[.pointer (some ⟨f.la, 0, none⟩), .agg #[.int .u32 c, .int .u32 n], .agg #[.int .u64 sp, .int .u32 sl], .agg #[.int .u64 mp, .int .u32 ml], .string (bs prim), v] w fun e w' => e = .returned (.int .i64 (Lat.layF (Lat.rightB sp sl && Lat.rightB mp ml && kOk prim) c n sp sl mp ml prim L X.T).2) ∧ ShTo SA TA BA f M w { X with T := (Lat.layF (Lat.rightB sp sl && Lat.rightB mp ml && kOk prim) c n sp sl mp ml prim L X.T).1 } a g D w' := by
 obtain ⟨M1, M2, M3, h, rfl⟩ := h
 refine (E.J.lay c n sp sl mp ml prim L v h.t ht hv (fun h1 k hk hm2 => hm h1 k hk (.inr (.inr (.inr (.inr (.inl hm2)))))) h0).mono ?_
 rintro e w' ⟨rfl, N2, hs, hk, hn⟩
 exact ⟨rfl, to_t E h hs hk hn⟩
theorem sh_first (E : Env SA TA BA) (lo hi : List UInt8) (ap aq : Int) (but : List (Int × Int)) (v : Value) (h : ShAt SA TA BA f M X a g D w) (ht : X.T.length < 10000) (hv : Lat.TsAt w.heap.size v but w) : Calls Tryz.prog 262 #[.pointer (some ⟨f.la, 0, none⟩), .string (bs lo), .string (bs hi), .agg #[.int .u64 ap, .int .u32 aq], v] w fun e w' => e = .returned (Lat.fsV (Lat.firstF lo hi ap aq but X.T)) ∧ Below w.heap.size w w' := by
 obtain ⟨M1, M2, M3, h, rfl⟩ := h
 exact E.J.first lo hi ap aq but v h.t ht hv
theorem sh_iof (E : Env SA TA BA) (k : List UInt8) (h : ShAt SA TA BA f M X a g D w) (ht : X.T.length < 10000) : Calls Tryz.prog 212 #[.pointer (some ⟨f.la, 0, none⟩), .string (bs k)] w fun e w' => e = .returned (Lat.ofV k (getF k X.T)) ∧ Below w.heap.size w w' := by
 obtain ⟨M1, M2, M3, h, rfl⟩ := h
 exact E.J.of k h.t ht
theorem sh_by (E : Env SA TA BA) (c n : Int) (h : ShAt SA TA BA f M X a g D w) (ht : X.T.length < 10000) : Calls Tryz.prog 101 #[.pointer (some ⟨f.la, 0, none⟩), .agg #[.int .u32 c, .int .u32 n]] w fun e w' => ∃ v', e = .returned v' ∧ Lat.IsAt w'.heap.size v' (Lat.byF c n X.T) w' ∧ (∀ k, v'.ownBlock = some k → w.heap.size ≤ k) ∧ Below w.heap.size w w' := by
 obtain ⟨M1, M2, M3, h, rfl⟩ := h
 exact E.J.by_ c n h.t ht
theorem sh_iall (E : Env SA TA BA) (h : ShAt SA TA BA f M X a g D w) (ht : X.T.length < 10000) : Calls Tryz.prog 56 #[.pointer (some ⟨f.la, 0, none⟩)] w fun e w' => ∃ v', e = .returned v' ∧ Lat.IsAt w'.heap.size v' X.T w' ∧ (∀ k, v'.ownBlock = some k → w.heap.size ≤ k) ∧ Below w.heap.size w w' := by
 obtain ⟨M1, M2, M3, h, rfl⟩ := h
 exact E.J.all h.t ht
theorem sh_get (E : Env SA TA BA) (k : List UInt8) (p l : Int) (h : ShAt SA TA BA f M X a g D w) (ht : Sto.totS X.S < 10000) : Calls Tryz.prog 189 #[.pointer (some ⟨f.st, 0, none⟩), .string (bs k), .agg #[.int .u64 p, .int .u32 l]] w fun e w' => e = .returned (.tuple #[.string (bs (Sto.getV (Sto.seeF (Sto.chainF k X.S) p l)).1), .bool (Sto.getV (Sto.seeF (Sto.chainF k X.S) p l)).2]) ∧ Below w.heap.size w w' := by
 obtain ⟨M1, M2, M3, h, rfl⟩ := h
 exact E.I.get k p l h.s ht
theorem sh_newest (E : Env SA TA BA) (k : List UInt8) (h : ShAt SA TA BA f M X a g D w) (ht : Sto.totS X.S < 10000) : Calls Tryz.prog 266 #[.pointer (some ⟨f.st, 0, none⟩), .string (bs k)] w fun e w' => e = .returned (.agg #[.int .u64 (Sto.newF (Sto.chainF k X.S)).1, .int .u32 (Sto.newF (Sto.chainF k X.S)).2]) ∧ Below w.heap.size w w' := by
 obtain ⟨M1, M2, M3, h, rfl⟩ := h
 exact E.I.newest k h.s ht
theorem sh_count (E : Env SA TA BA) (k : List UInt8) (h : ShAt SA TA BA f M X a g D w) (ht : Sto.totS X.S < 10000) : Calls Tryz.prog 267 #[.pointer (some ⟨f.st, 0, none⟩), .string (bs k)] w fun e w' => e = .returned (.int .i64 (Sto.chainF k X.S).length) ∧ Below w.heap.size w w' := by
 obtain ⟨M1, M2, M3, h, rfl⟩ := h
 exact E.I.count k h.s ht
theorem sh_items (E : Env SA TA BA) (h : ShAt SA TA BA f M X a g D w) (ht : Sto.totS X.S < 10000) : Calls Tryz.prog 52 #[.pointer (some ⟨f.st, 0, none⟩)] w fun e w' => ∃ v' L, e = .returned v' ∧ Sto.ItAt v' L X.S w' ∧ Below w.heap.size w w' := by
 obtain ⟨M1, M2, M3, h, rfl⟩ := h
 exact E.I.items h.s ht
theorem sh_set (E : Env SA TA BA) (v : Ver.Vd) (h : ShAt SA TA BA f M X a g D w) (ht : X.K.length < 10000) (hv : Ver.RgV v) : Calls Tryz.prog 82 #[.pointer (some ⟨f.ve, 0, none⟩), .agg #[.int .u32 v.c, .int .u32 v.n, .int .u64 v.sp, .int .u32 v.sl, .int .u64 v.ap, .int .u32 v.al, .int .u8 v.pt, .bool v.dn]] w fun e w' => e = .returned (.int .i64 (Ver.setB v X.K).2) ∧ ShTo SA TA BA f M w { X with K := (Ver.setB v X.K).1 } a g D w' := by
 obtain ⟨M1, M2, M3, h, rfl⟩ := h
 refine (E.V.set v h.v ht hv).mono ?_
 rintro e w' ⟨rfl, N2, hs, hk, hn⟩
 exact ⟨rfl, to_v E h hs hk hn⟩
theorem sh_vof (E : Env SA TA BA) (c n : Int) (h : ShAt SA TA BA f M X a g D w) (ht : X.K.length < 10000) (hv : Ver.R32 c ∧ Ver.R32 n) : Calls Tryz.prog 175 #[.pointer (some ⟨f.ve, 0, none⟩), .agg #[.int .u32 c, .int .u32 n]] w fun e w' => e = .returned (Ver.ofV (Ver.getB c n X.K)) ∧ Below w.heap.size w w' := by
 obtain ⟨M1, M2, M3, h, rfl⟩ := h
 exact E.V.of c n h.v ht hv
theorem sh_append (E : Env SA TA BA) (r : List UInt8) (h : ShAt SA TA BA f M X a g D w) : Calls Tryz.prog 270 #[.pointer (some ⟨f.lb, 0, none⟩), .string (bs r)] w fun e w' => e = .returned (.int .i64 (Lgs.appendF D a r).1) ∧ ShTo SA TA BA f M w X a g (Lgs.appendF D a r).2 w' := by
 obtain ⟨M1, M2, M3, h, rfl⟩ := h
 refine (Lgs.append18 f.lb f.pb g a D r w h.lg h.ok).mono ?_
 rintro e w' ⟨rfl, hl, hk⟩
 exact ⟨rfl, to_l E h hl (Lgs.appendF_ok h.ok a r) ((drm_kept hk).mono fun k e => .inr e)⟩
theorem sh_down (h : ShAt SA TA BA f M X a g D w) : Calls Tryz.prog 36 #[.pointer (some ⟨f.pb, 0, none⟩)] w fun e w' => e = .returned (.bool D.down) ∧ w = w' := by
 obtain ⟨M1, M2, M3, h, rfl⟩ := h
 obtain ⟨vs, hd⟩ := h.lg.drum
 exact Drm.down13 f.pb D.down w (Drm.blk_cell hd.blk rfl)
end Go.Proofs.YtajjnmdomabmkaaGreat
