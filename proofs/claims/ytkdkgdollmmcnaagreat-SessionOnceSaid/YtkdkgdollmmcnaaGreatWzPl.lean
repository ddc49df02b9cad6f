import Derived.Test.YtkdkgdollmmcnaaGreatWzLt
set_option maxHeartbeats 4000000
set_option maxRecDepth 100000
set_option linter.unusedVariables false
set_option linter.unusedSimpArgs false
namespace Go.Proofs.YtkdkgdollmmcnaaGreat
abbrev Rq.wt (q : Rq) (t : List UInt8) : Rq := { q with to := t }
structure Op where
 k : Int
 key : List UInt8
 to : List UInt8
 val : List UInt8
 lim : Int
def zO : Op := ⟨0, [], [], [], 0⟩
structure Rs where
 k : Int
 er : Int
 c : Nat
 n : Nat
 sp : Nat
 sl : Nat
 ap : Nat
 al : Nat
 fd : Bool
 val : List UInt8
 ps : List Pr
def zS : Rs := ⟨0, 0, 0, 0, 0, 0, 0, 0, false, [], []⟩
structure Ak where
 sq : Nat
 sh : Nat
 q : Rq
 st : Nat
 lk : Rp
 was : Rq
 hm : Nat
 ch : Bool
 oc : Nat
 on : Nat
 fi : Nat
 rs : Bool
def akF (sh : Nat) (q : Rq) : Ak := ⟨0, sh, q, 0, zR, zQ, 0, false, 0, 0, 0, false⟩
structure Ss where
 cl : Nat
 nsh : Nat
 np : Nat
 nl : Nat
 n : Nat
 sq : Nat
 act : Bool
 sp : Nat
 sl : Nat
 ws : List Wr
 op : Op
 stg : Nat
 cp : Nat
 cll : Nat
 left : Int
 ps : List Pr
 why : Int
 asks : List Ak
 out : List Le
def Ss.new (cl nsh : Nat) : Ss := ⟨cl, nsh, 0, 0, 0, 0, false, 0, 0, [], zO, 0, 0, 0, 0, [], 0, [], []⟩
structure Bt where
 home : List UInt8 → Nat → Option Nat
 parts : List Wr → Nat → List (List Wr)
 bits : List (List Wr) → Nat
 tick : Nat → Nat → Nat → Nat × Nat × Int
 right : Wr → Bool
 key : List UInt8 → Bool
def maxT (a b : Nat × Nat) : Nat × Nat := if a.1 < b.1 ∨ a.1 = b.1 ∧ a.2 < b.2 then b else a
def resF (s : Ss) (k : Int) : Rs := if s.act then { zS with k := k, c := s.cl, n := s.n, sp := s.sp, sl := s.sl } else { zS with k := k }
def badF (s : Ss) (e : Int) : Rs := { resF s 6 with er := e }
def letF (s : Ss) (a : Ak) : Le := ⟨s.cl, a.sh, a.sq, false, a.q, zR⟩
def askF (s : Ss) (a : Ak) : Ss := { s with sq := s.sq + 1, asks := s.asks ++ [{ a with sq := s.sq + 1 }], out := s.out ++ [letF s { a with sq := s.sq + 1 }] }
def homeF (B : Bt) (s : Ss) (k : List UInt8) : Nat := (B.home k s.nsh).getD 0
def priF (s : Ss) : List UInt8 := (s.ws.head?.map Wr.key).getD []
def lookF (k : List UInt8) (l : List Wr) : Option Wr := l.find? fun w => w.key == k
def insW (w : Wr) : List Wr → List Wr
 | [] => [w]
 | x :: l => if x.key < w.key then x :: insW w l else w :: x :: l
def putF (B : Bt) (s : Ss) (w : Wr) : Ss × Rs :=
 if B.right w = false then (s, badF s 1)
 else if (lookF w.key s.ws).isSome then ({ s with ws := s.ws.map fun x => if x.key == w.key then w else x }, resF s 1)
 else if 16 ≤ s.ws.length then (s, badF s 3)
 else ({ s with ws := insW w s.ws }, resF s 1)
def scanAsks (s0 : Ss) (o : Op) : Nat → Nat → Ss → Ss
 | 0, _, s => s
 | m + 1, i, s => scanAsks s0 o m (i + 1) (askF s (akF i { zQ with k := 2, c := s0.cl, n := s0.n, sp := s0.sp, sl := s0.sl, key := o.key, to := o.to, lim := 32 }))
def layAsks : List (List Wr) → Nat → Ss → Ss
 | [], _, s => s
 | p :: l, i, s => layAsks l (i + 1) (if p.isEmpty then s else { askF s (akF i { zQ with k := 3, c := s.cl, n := s.n, sp := s.sp, sl := s.sl, key := priF s, ws := p }) with left := s.left + 1 })
def commitF (B : Bt) (s : Ss) (o : Op) : Ss × Rs :=
 if s.ws.isEmpty then ({ s with act := false }, { resF s 4 with ap := s.sp, al := s.sl })
 else (layAsks (B.parts s.ws s.nsh) 0 { s with op := o, stg := 1, cp := 0, cll := 0, left := 0 }, zS)
def doF (B : Bt) (s : Ss) (phys : Nat) (o : Op) : Ss × Rs :=
 if s.op.k ≠ 0 then (s, badF s 40)
 else if o.k = 1 then
  if s.act then (s, badF s 40)
  else
   if (B.tick s.np s.nl phys).2.2 ≠ 0 then (s, badF s (B.tick s.np s.nl phys).2.2)
   else
    let t := B.tick s.np s.nl phys
    let s' := { s with np := t.1, nl := t.2.1, n := s.n + 1, act := true, sp := t.1, sl := t.2.1, ws := [] }
    (s', { resF s' 1 with ap := t.1, al := t.2.1 })
 else if s.act = false then (s, badF s 41)
 else if o.k = 4 then putF B s ⟨o.key, o.val, false⟩
 else if o.k = 5 then putF B s ⟨o.key, [], true⟩
 else if o.k = 2 then
  if B.key o.key = false then (s, badF s 1)
  else match lookF o.key s.ws with
   | some w => (s, { resF s 2 with fd := !w.dead, val := w.val })
   | none => (askF { s with op := o } (akF (homeF B s o.key) { zQ with k := 1, c := s.cl, n := s.n, sp := s.sp, sl := s.sl, key := o.key }), zS)
 else if o.k = 3 then
  if 32 < o.key.length ∨ 32 < o.to.length then (s, badF s 1)
  else (scanAsks s o s.nsh 0 { s with op := o, ps := [], left := s.nsh }, zS)
 else if o.k = 6 then commitF B s o
 else if o.k = 7 then ({ s with act := false }, resF s 1)
 else (s, badF s 1)
def dropF (s : Ss) : Ss := { s with asks := s.asks.filter Ak.ch, op := zO }
def failF (s : Ss) (e : Int) : Ss × Rs := (dropF s, badF (dropF s) e)
def choresF (q : Rq) (but : Option Nat) (h : Nat) : List (List Wr) → Nat → Ss → Ss × Nat
 | [], _, s => (s, 0)
 | p :: l, i, s =>
  if p.isEmpty = false ∧ but ≠ some i then
   let r := choresF q but h l (i + 1) (askF s { akF i q with ch := true, oc := s.cl, on := s.n, fi := h })
   (r.1, r.2 + 1)
  else choresF q but h l (i + 1) s
def givenF (B : Bt) (s : Ss) (e : Int) : Ss × Rs :=
 let d := dropF s
 ({ (choresF { zQ with k := 6, c := s.cl, n := s.n, sp := s.sp, sl := s.sl } none (homeF B s (priF s)) (B.parts s.ws s.nsh) 0 d).1 with act := false }, { resF s 5 with er := e })
def doneF (s : Ss) (c n h : Nat) : Ss := askF s { akF h { zQ with k := 9, c := c, n := n } with ch := true, oc := c, on := n }
def commF (B : Bt) (s : Ss) (ap al : Nat) : Ss × Rs :=
 let d := { dropF s with np := (maxT (s.np, s.nl) (ap, al)).1, nl := (maxT (s.np, s.nl) (ap, al)).2 }
 let h := homeF B s (priF s)
 let r := choresF { zQ with k := 5, c := s.cl, n := s.n, ap := ap, al := al } (some h) h (B.parts s.ws s.nsh) 0 d
 ({ (if r.2 = 0 then doneF r.1 s.cl s.n h else r.1) with act := false }, { resF s 4 with ap := ap, al := al })
def stopF (B : Bt) (s : Ss) (e : Int) : Ss × Rs := if s.op.k = 6 then givenF B s e else failF s e
def wrongF (r : Rp) : Int := if r.k = 0 ∧ r.er ≠ 0 then r.er else 2
def lockF (B : Bt) (s : Ss) (a : Ak) (r : Rp) : Ss × Rs :=
 match B.home r.prim s.nsh with
 | none => stopF B s 1
 | some h => (askF s { akF h { zQ with k := 7, c := r.c, n := r.n, sp := r.sp, sl := r.sl, key := r.prim, ap := if a.q.k = 3 then 0 else s.sp, al := if a.q.k = 3 then 0 else s.sl } with st := 1, lk := r, was := a.q, hm := a.sh }, zS)
def pushF (B : Bt) (s : Ss) (a : Ak) (r : Rp) : Ss × Rs :=
 if r.k = 5 then (askF s { akF a.hm { zQ with k := 5, c := a.lk.c, n := a.lk.n, ap := r.ap, al := r.al } with st := 2, was := a.was, hm := a.hm }, zS)
 else if r.k = 6 then (askF s { akF a.hm { zQ with k := 6, c := a.lk.c, n := a.lk.n, sp := a.lk.sp, sl := a.lk.sl } with st := 2, was := a.was, hm := a.hm }, zS)
 else if r.k = 8 then
  if a.was.k = 3 then givenF B s 40
  else if 16 ≤ a.was.sk.length then failF s 3
  else (askF s (akF a.hm { a.was with sk := a.was.sk ++ [⟨a.lk.c, a.lk.n⟩] }), zS)
 else stopF B s (wrongF r)
def insP (k v : List UInt8) (d : Bool) : List Wr → List Wr
 | [] => [⟨k, v, d⟩]
 | x :: l => if x.key < k then x :: insP k v d l else if x.key == k then x :: l else ⟨k, v, d⟩ :: x :: l
def inB (o : Op) (k : List UInt8) : Bool := decide (o.key ≤ k) && (o.to.isEmpty || decide (k < o.to))
def scanF (B : Bt) (s : Ss) : List Pr :=
 let w := (s.ws.filter fun x => inB s.op x.key).foldl (fun t x => insP x.key x.val x.dead t) []
 let t := (s.ps.filter fun p => B.key p.key).foldl (fun t p => insP p.key p.val false t) w
 ((t.filter fun x => !x.dead).map fun x => ⟨x.key, x.val⟩).take (min (max s.op.lim 0) 16).toNat
def scannedF (B : Bt) (s : Ss) : Ss × Rs := (dropF s, { resF s 3 with ps := scanF B s })
def decideF (B : Bt) (s : Ss) : Ss := askF s (akF (homeF B s (priF s)) { zQ with k := 4, c := s.cl, n := s.n, sp := s.sp, sl := s.sl, ap := s.cp, al := s.cll, key := priF s, pt := B.bits (B.parts s.ws s.nsh) })
def undoF (B : Bt) (s : Ss) : Ss := askF s (akF (homeF B s (priF s)) { zQ with k := 6, c := s.cl, n := s.n, sp := s.sp, sl := s.sl })
def ansF (B : Bt) (s : Ss) (a : Ak) (r : Rp) : Ss × Rs :=
 if r.k = 3 then lockF B s a r
 else if a.q.k = 1 ∧ r.k = 1 then (dropF s, { resF s 2 with fd := r.fd, val := r.val })
 else if a.q.k = 2 ∧ r.k = 2 then
  let t := { s with ps := s.ps ++ r.ps, left := s.left - 1 }
  if 0 < t.left then (t, zS) else scannedF B t
 else if a.q.k = 3 ∧ r.k = 4 then
  let t := { s with cp := (maxT (s.cp, s.cll) (r.ap, r.al)).1, cll := (maxT (s.cp, s.cll) (r.ap, r.al)).2, left := s.left - 1 }
  (if t.left = 0 then decideF B { t with stg := 2 } else t, zS)
 else if a.q.k = 3 ∧ r.k = 10 then givenF B s 40
 else if a.q.k = 3 ∧ (r.k = 5 ∨ r.k = 6) then givenF B s 12
 else stopF B s (wrongF r)
def decF (B : Bt) (s : Ss) (r : Rp) : Ss × Rs :=
 if r.k = 5 then commF B s r.ap r.al
 else if r.k = 6 ∧ s.stg = 2 then givenF B s 12
 else if r.k = 6 then givenF B s s.why
 else if r.k = 7 ∧ s.stg = 2 then
  (decideF B { s with cp := (maxT (s.cp, s.cll) (r.ap, r.al)).1, cll := (maxT (s.cp, s.cll) (r.ap, r.al)).2 }, zS)
 else (undoF B (if s.stg = 2 then { s with stg := 3, why := wrongF r } else s), zS)
def insA (a : Ak) : List Ak → List Ak
 | [] => [a]
 | x :: l => if x.sq < a.sq then x :: insA a l else a :: x :: l
def choreF (s : Ss) (a : Ak) (r : Rp) : Ss :=
 if r.k = 0 then { s with asks := insA { a with rs := true } s.asks }
 else if a.q.k ≠ 5 ∨ r.k ≠ 9 then s
 else if s.asks.any fun x => x.ch && x.oc == a.oc && x.on == a.on && x.q.k == 5 then s
 else doneF s a.oc a.on a.fi
def isA (l : Le) (a : Ak) : Bool := a.sq == l.sq && a.sh == l.sh
def pickA (l : Le) (L : List Ak) : Option Ak := L.find? (isA l)
def hearF (B : Bt) (s : Ss) (l : Le) : Ss × Rs :=
 if l.an = false ∨ l.cl ≠ s.cl then (s, zS)
 else match pickA l s.asks with
  | none => (s, zS)
  | some a =>
   let r := l.r
   let t := { s with asks := s.asks.filter (fun x => !isA l x), np := (maxT (s.np, s.nl) (r.np, r.nl)).1, nl := (maxT (s.np, s.nl) (r.np, r.nl)).2 }
   if a.ch then (choreF t a r, zS)
   else if a.st = 1 then pushF B t a r
   else if a.st = 2 then (if r.k = 0 then stopF B t (wrongF r) else (askF t (akF a.hm a.was), zS))
   else if a.q.k ≤ 3 then ansF B t a r
   else decF B t r
def againF (s : Ss) : Ss := { s with out := s.out ++ s.asks.map (letF s) }
def giveF (B : Bt) (s : Ss) : Ss × Rs :=
 if s.op.k = 0 then (s, badF s 41)
 else if s.op.k ≠ 6 then failF s 42
 else if s.stg = 1 then givenF B s 42
 else ({ dropF s with act := false }, { resF s 7 with er := 42 })
end Go.Proofs.YtkdkgdollmmcnaaGreat
