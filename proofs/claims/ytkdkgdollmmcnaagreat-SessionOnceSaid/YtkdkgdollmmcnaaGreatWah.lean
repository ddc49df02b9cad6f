import Derived.Laws.Rows
import Derived.Laws.Tables
import Derived.Test.YtkdkgdollmmcnaaGreatWzPl
import Derived.Test.YtkdkgdollmmcnaaGreatWaf
set_option maxHeartbeats 4000000
set_option maxRecDepth 100000
set_option linter.unusedVariables false
set_option linter.unusedSimpArgs false
namespace Go.Proofs.YtkdkgdollmmcnaaGreat
open Go.RowKit
structure Ax where
 a : Ak
 vw : Value
 vs : Value
 fv : Value
structure Lx where
 l : Le
 vw : Value
 vs : Value
def rqc (q : Rq) (vw vs : Value) : List Value := [iw q.k, uu q.c, uu q.n, uw q.sp, uu q.sl, uw q.ap, uu q.al, sd q.key, sd q.to, iw q.lim, .int .u8 (q.pt : Int), vw, vs]
def zrc : List Value := [iw 0, iw 0, .bool false, su, sy, .int .u32 0, .int .u32 0, .int .u64 0, .int .u32 0, .int .u64 0, .int .u32 0, su, .int .u64 0, .int .u32 0]
def lec (cl sh sq : Nat) (q : Rq) (vw vs : Value) : List Value := uu cl :: uu sh :: uu sq :: .bool false :: (rqc q vw vs ++ zrc)
def axc (cl : Nat) (x : Ax) : List Value := lec cl x.a.sh x.a.sq x.a.q x.vw x.vs ++ [.bool x.a.ch, x.fv]
def lxc (x : Lx) : List Value := lec x.l.cl x.l.sh x.l.sq x.l.q x.vw x.vs
theorem axc_len (cl : Nat) (x : Ax) : (axc cl x).length = 33 := rfl
theorem lxc_len (x : Lx) : (lxc x).length = 31 := rfl
structure Fo where
 sb : Nat
 tb : Nat
 vw : Value
 va : Value
 vo : Value
 ok : Nat
 xb : Nat
 lb : Nat
 ob : Nat
 oq : Op
 lv : Int
 vp : Value
 gs : List Nat
 gl : Nat → Nat
 gv : Nat → Int
 la : List Ax
 lo : List Lx
def vtV (tb : Nat) (act : Bool) : Value := if act then .pointer (some ⟨tb, 0, none⟩) else .pointer none
def vsV (sb : Nat) (k : Int) (stg : Nat) : Value := if k = 0 then .nilFunc else if k = 6 then (if stg = 1 then .func (.func 88) #[pz sb] #[] else .func (.func 135) #[pz sb] #[]) else .func (.func 79) #[pz sb] #[]
def sbA (f : Fo) (X : Ss) : Array Value := #[uu X.cl, iw (X.nsh : Int), uw X.np, uu X.nl, uu X.n, uu X.sq, vtV f.tb X.act, vsV f.sb X.op.k X.stg, f.va, f.vo]
def txA (f : Fo) (X : Ss) : Array Value := #[uu X.cl, uu X.n, uw X.sp, uu X.sl, f.vw]
def Fo.In (f : Fo) (act : Bool) (k : Nat) : Prop := k = f.sb ∨ f.va.ownBlock = some k ∨ f.vo.ownBlock = some k ∨ (act = true ∧ (k = f.tb ∨ f.vw.ownBlock = some k)) ∨ (f.ok ≠ 0 ∧ (k = f.xb ∨ k = f.lb ∨ f.vp.ownBlock = some k)) ∨ ∃ n ∈ f.gs, k = f.gl n
def Fo.Ex (f : Fo) (N : Nat → Prop) (act : Bool) (k : Nat) : Prop := N k ∨ f.In act k
def Fx (M : Nat → Prop) (W : World) (b : Nat) (cs : Array Value) (ty : TypeId) : Prop := W.heap[b]? = some (.cells cs ty (0, 0)) ∧ ¬ M b
def RwF (M : Nat → Prop) (size : Nat) (v : Value) (n : Nat) (cs : List Value) (W : World) : Prop :=
 ∃ ao cap, v = .slice ao n cap ∧ cs.length = n * size ∧ n ≤ cap ∧ cap ≤ 9223372036854775807 ∧ (0 < cap → ∃ b off, ao = some ⟨b, off, none⟩ ∧ (0 < n → ¬ M b) ∧ ∀ j u, cs[j]? = some u → W.cell? ⟨b, off + j, none⟩ = some u)
structure QF (M : Nat → Prop) (q : Rq) (vw vs : Value) (W : World) : Prop where
 ws : RwF M 3 vw q.ws.length (rowC wrc q.ws) W
 sk : RwF M 2 vs q.sk.length (rowC tnc q.sk) W
def DoAt (M : Nat → Prop) (f : Fo) (W : World) (k : Int) (dv : Value) : Prop :=
 ∃ b, Fx M W b #[pz f.sb] 24 ∧ (k = 1 → dv = .func (.func 81) #[] #[pz b]) ∧
  (k = 2 → dv = .func (.func 84) #[] #[pz b, pz f.xb, pz f.lb, pz f.ob]) ∧
  (k = 3 → dv = .func (.func 92) #[] #[pz f.xb, pz f.lb, pz b])
structure Bq (M : Nat → Prop) (f : Fo) (W : World) (bs' bn bq bd : Nat) (n : Nat) (q : Rq) : Prop where
 cs : Fx M W bs' #[pz f.sb] 24
 cn : Fx M W bn #[iw (n : Int)] 3
 cq : ∃ vw vs, Fx M W bq (rqc q vw vs).toArray 53 ∧ QF M q vw vs W
 cd : ∃ dv, Fx M W bd #[dv] 97 ∧ DoAt M f W q.k dv
def TryAt (M : Nat → Prop) (f : Fo) (W : World) (fv : Value) (n : Nat) (q : Rq) : Prop :=
 ∃ bs' bn bq bd, fv = .func (.func 117) #[] #[pz bs', pz bn, pz bq, pz bd] ∧ Bq M f W bs' bn bq bd n q
def PushAt (M : Nat → Prop) (f : Fo) (W : World) (fv : Value) (n : Nat) (q : Rq) (r : Rp) : Prop :=
 ∃ bs' bn bq bd bw bt, fv = .func (.func 148) #[] #[pz bs', pz bn, pz bq, pz bw, pz bd, pz bt] ∧ Bq M f W bs' bn bq bd n q ∧
  Fx M W bw #[uu r.c, uu r.n] 38 ∧ Fx M W bt #[uw r.sp, uu r.sl] 34
def UnlAt (M : Nat → Prop) (f : Fo) (W : World) (fv : Value) (n : Nat) (q : Rq) : Prop :=
 ∃ bs' bn bq bd, fv = .func (.func 162) #[] #[pz bs', pz bn, pz bq, pz bd] ∧ Bq M f W bs' bn bq bd n q
def DecAt (M : Nat → Prop) (f : Fo) (W : World) (fv : Value) (p l : Nat) : Prop :=
 ∃ bs' bt, fv = .func (.func 138) #[] #[pz bs', pz bt] ∧ Fx M W bs' #[pz f.sb] 24 ∧ Fx M W bt #[uw p, uu l] 34
def RevAt (M : Nat → Prop) (f : Fo) (W : World) (fv : Value) (e : Int) : Prop :=
 ∃ bs' be, fv = .func (.func 157) #[] #[pz bs', pz be] ∧ Fx M W bs' #[pz f.sb] 24 ∧ Fx M W be #[iw e] 25
def ChoAt (M : Nat → Prop) (f : Fo) (W : World) (fv : Value) (cl n h : Nat) : Prop :=
 ∃ bf bs' bh bt, n ∈ f.gs ∧ fv = .func (.func 156) #[] #[.pointer (some ⟨f.gl n, 0, none⟩), pz bf] ∧
  Fx M W bf #[.func (.func 155) #[] #[pz bs', pz bh, pz bt]] 1 ∧
  Fx M W bs' #[pz f.sb] 24 ∧ Fx M W bh #[iw (h : Int)] 3 ∧ Fx M W bt #[uu cl, uu n] 38
structure AkIs (M : Nat → Prop) (f : Fo) (X : Ss) (W : World) (x : Ax) : Prop where
 q : QF M x.a.q x.vw x.vs W
 one : x.fv.oneCell' = true ∧ x.vw.oneCell' = true ∧ x.vs.oneCell' = true
 tr : x.a.ch = false → x.a.st = 0 → x.a.q.k ≤ 3 → TryAt M f W x.fv x.a.sh x.a.q
 pu : x.a.ch = false → x.a.st = 1 → PushAt M f W x.fv x.a.hm x.a.was x.a.lk
 un : x.a.ch = false → x.a.st = 2 → UnlAt M f W x.fv x.a.hm x.a.was
 de : x.a.ch = false → x.a.st = 0 → x.a.q.k = 4 → DecAt M f W x.fv x.a.q.ap x.a.q.al
 re : x.a.ch = false → x.a.st = 0 → x.a.q.k = 6 → RevAt M f W x.fv X.why
 c5 : x.a.ch = true → x.a.q.k = 5 → ChoAt M f W x.fv X.cl x.a.on x.a.fi
 c0 : x.a.ch = true → x.a.q.k ≠ 5 → x.fv = .func (.func 134) #[] #[]
structure OpAt (f : Fo) (N : Nat → Prop) (X : Ss) (W : World) : Prop where
 l : f.ok ≠ 0 → W.heap[f.lb]? = some (.cells #[iw f.lv] 3 (0, 0))
 p : f.ok = 1 → W.heap[f.xb]? = some (.cells #[f.vp] 39 (0, 0)) ∧ W.ownsRow 0 143 2 f.vp X.ps.length (rowC prc X.ps) ∧ Fx (f.Ex N X.act) W f.ob #[iw f.oq.k, sd f.oq.key, sd f.oq.val, sd f.oq.to, iw f.oq.lim] 44
 c : f.ok = 2 → W.heap[f.xb]? = some (.cells #[uw X.cp, uu X.cll] 34 (0, 0)) ∧ f.vp = sy
 le : f.ok ≤ 2
structure SC (f : Fo) (N : Nat → Prop) (X : Ss) (W : World) : Prop where
 blk : W.heap[f.sb]? = some (.cells (sbA f X) 77 (0, 0))
 tx : X.act = true → W.heap[f.tb]? = some (.cells (txA f X) 79 (0, 0)) ∧ W.ownsRow 0 70 3 f.vw X.ws.length (rowC wrc X.ws)
 ra : W.ownsRow 0 99 33 f.va f.la.length (rowC (axc X.cl) f.la)
 ro : W.ownsRow 0 55 31 f.vo f.lo.length (rowC lxc f.lo)
 ea : X.asks = f.la.map Ax.a
 eo : X.out = f.lo.map Lx.l
 bx : OpAt f N X W
 gb : ∀ n ∈ f.gs, W.heap[f.gl n]? = some (.cells #[iw (f.gv n)] 3 (0, 0))
 gd : ∀ n ∈ f.gs, (f.ok ≠ 0 → f.gl n ≠ f.lb) ∧ ∀ m ∈ f.gs, f.gl m = f.gl n → m = n
 ak : ∀ x ∈ f.la, AkIs (f.Ex N X.act) f X W x
 lk : ∀ x ∈ f.lo, QF (f.Ex N X.act) x.l.q x.vw x.vs W ∧ x.l.an = false ∧ x.l.r = zR ∧ x.vw.oneCell' = true ∧ x.vs.oneCell' = true
variable {M M' G : Nat → Prop} {W W' w : World} {f f' : Fo} {X : Ss}
theorem lt_blk {b : Nat} {o : Obj} (h : W.heap[b]? = some o) : b < W.heap.size := (Array.getElem?_eq_some_iff.1 h).1
theorem ne_tag {a b : Nat} {c d : Array Value} {t u : TypeId} {x y : Nat × Nat} (h : W.heap[a]? = some (.cells c t x)) (k : W.heap[b]? = some (.cells d u y)) (hn : t ≠ u) : a ≠ b := fun e => by
 subst e
 rw [h] at k
 injection k with k
 injection k with _ k _
 exact hn k
structure Stay (G M M' : Nat → Prop) (W W' : World) : Prop where
 kp : Kept G W W'
 gm : ∀ k, G k → M k
 mm : ∀ k, k < W.heap.size → M' k → M k
theorem Fx.stay {b : Nat} {cs : Array Value} {ty : TypeId} (h : Fx M W b cs ty) (s : Stay G M M' W W') : Fx M' W' b cs ty :=
 ⟨by rw [s.kp.block b (lt_blk h.1) (fun e => h.2 (s.gm b e))]; exact h.1, fun e => h.2 (s.mm b (lt_blk h.1) e)⟩
theorem RwF.stay {size : Nat} {v : Value} {n : Nat} {cs : List Value} (h : RwF M size v n cs W) (s : Stay G M M' W W') (hs : 0 < size) : RwF M' size v n cs W' := by
 obtain ⟨ao, cap, e, h1, h2, h3, h4⟩ := h
 refine ⟨ao, cap, e, h1, h2, h3, fun hc => ?_⟩
 obtain ⟨b, off, e2, h5, h6⟩ := h4 hc
 have hlt : 0 < n → b < W.heap.size := fun hn => by
  have h0 : 0 < cs.length := by rw [h1]; exact Nat.mul_pos hn hs
  have := h6 0 cs[0] (List.getElem?_eq_getElem h0)
  exact World.block_lt_of_cell? _ _ this
 refine ⟨b, off, e2, fun hn hm => h5 hn (s.mm b (hlt hn) hm), fun j u hj => ?_⟩
 have hn : 0 < n := by
  rcases Nat.eq_zero_or_pos n with h0 | h0
  ·subst h0
   rw [Nat.zero_mul] at h1
   rw [List.eq_nil_of_length_eq_zero h1] at hj
   cases hj
  ·exact h0
 exact s.kp.cell (h6 j u hj) (fun hg => h5 hn (s.gm b hg))
theorem RwF.rw {size : Nat} {v : Value} {n : Nat} {cs : List Value} (h : RwF M size v n cs W) (hs : 0 < size) : RwAt W.heap.size size v n cs W := by
 obtain ⟨ao, cap, e, h1, h2, h3, h4⟩ := h
 refine ⟨ao, cap, e, h1, h2, h3, fun hc => ?_⟩
 obtain ⟨b, off, e2, h5, h6⟩ := h4 hc
 refine ⟨b, off, e2, fun hn => ?_, h6⟩
 have h0 : 0 < cs.length := by rw [h1]; exact Nat.mul_pos hn hs
 exact World.block_lt_of_cell? _ _ (h6 0 cs[0] (List.getElem?_eq_getElem h0))
theorem RwF.nil (M : Nat → Prop) (size : Nat) (W : World) : RwF M size sy 0 [] W := ⟨none, 0, rfl, by simp, Nat.le_refl _, by omega, fun h => absurd h (by omega)⟩
theorem RwF.own {e size : Nat} {v : Value} {n : Nat} {cs : List Value} {base : Nat} (h : W.ownsRow base e size v n cs) (hM : ∀ k, M k → k < base) : RwF M size v n cs W := by
 rcases h.2 with ⟨rfl, h0⟩ | ⟨g, cap, cur, rfl, hb, hg, hnc, hcm, hcs, ht⟩
 ·subst h0
  have : cs = [] := List.eq_nil_of_length_eq_zero (by simpa using h.1)
  subst this
  exact RwF.nil _ _ _
 ·refine ⟨_, cap, rfl, h.1, hnc, by unfold maxLen at hcm; omega, fun _ => ⟨g, 0, rfl, fun _ hm => absurd (hM g hm) (by omega), fun j u hj => ?_⟩⟩
  have := World.ownsRow.cells h (g := g) rfl j u hj
  rw [Addr.add_lit] at this
  exact this
theorem QF.stay {q : Rq} {vw vs : Value} (h : QF M q vw vs W) (s : Stay G M M' W W') : QF M' q vw vs W' := ⟨h.ws.stay s (by decide), h.sk.stay s (by decide)⟩
theorem QF.at {q : Rq} {vw vs : Value} (h : QF M q vw vs W) : QAt W.heap.size q vw vs W := ⟨h.ws.rw (by decide), h.sk.rw (by decide)⟩
structure SameF (f f' : Fo) : Prop where
 sb : f'.sb = f.sb
 xb : f'.xb = f.xb
 lb : f'.lb = f.lb
 ob : f'.ob = f.ob
 gs : ∀ n ∈ f.gs, n ∈ f'.gs ∧ f'.gl n = f.gl n
theorem SameF.refl (f : Fo) : SameF f f := ⟨rfl, rfl, rfl, rfl, fun _ h => ⟨h, rfl⟩⟩
theorem DoAt.stay {k : Int} {dv : Value} (h : DoAt M f W k dv) (s : Stay G M M' W W') (e : SameF f f') : DoAt M' f' W' k dv := by
 obtain ⟨b, h1, h2, h3, h4⟩ := h
 rw [← e.sb] at h1
 rw [← e.xb, ← e.lb, ← e.ob] at h3
 rw [← e.xb, ← e.lb] at h4
 exact ⟨b, h1.stay s, h2, h3, h4⟩
theorem Bq.stay {a b c d n : Nat} {q : Rq} (h : Bq M f W a b c d n q) (s : Stay G M M' W W') (e : SameF f f') : Bq M' f' W' a b c d n q := by
 obtain ⟨h1, h2, ⟨vw, vs, h3, h4⟩, dv, h5, h6⟩ := h
 exact ⟨by rw [e.sb]; exact h1.stay s, h2.stay s, ⟨vw, vs, h3.stay s, h4.stay s⟩, dv, h5.stay s, h6.stay s e⟩
theorem TryAt.stay {fv : Value} {n : Nat} {q : Rq} (h : TryAt M f W fv n q) (s : Stay G M M' W W') (e : SameF f f') : TryAt M' f' W' fv n q := by
 obtain ⟨a, b, c, d, h1, h2⟩ := h
 exact ⟨a, b, c, d, h1, h2.stay s e⟩
theorem PushAt.stay {fv : Value} {n : Nat} {q : Rq} {r : Rp} (h : PushAt M f W fv n q r) (s : Stay G M M' W W') (e : SameF f f') : PushAt M' f' W' fv n q r := by
 obtain ⟨a, b, c, d, x, y, h1, h2, h3, h4⟩ := h
 exact ⟨a, b, c, d, x, y, h1, h2.stay s e, h3.stay s, h4.stay s⟩
theorem UnlAt.stay {fv : Value} {n : Nat} {q : Rq} (h : UnlAt M f W fv n q) (s : Stay G M M' W W') (e : SameF f f') : UnlAt M' f' W' fv n q := by
 obtain ⟨a, b, c, d, h1, h2⟩ := h
 exact ⟨a, b, c, d, h1, h2.stay s e⟩
theorem DecAt.stay {fv : Value} {p l : Nat} (h : DecAt M f W fv p l) (s : Stay G M M' W W') (e : SameF f f') : DecAt M' f' W' fv p l := by
 obtain ⟨a, b, h1, h2, h3⟩ := h
 exact ⟨a, b, h1, by rw [e.sb]; exact h2.stay s, h3.stay s⟩
theorem RevAt.stay {fv : Value} {p : Int} (h : RevAt M f W fv p) (s : Stay G M M' W W') (e : SameF f f') : RevAt M' f' W' fv p := by
 obtain ⟨a, b, h1, h2, h3⟩ := h
 exact ⟨a, b, h1, by rw [e.sb]; exact h2.stay s, h3.stay s⟩
theorem ChoAt.stay {fv : Value} {cl n h : Nat} (k : ChoAt M f W fv cl n h) (s : Stay G M M' W W') (e : SameF f f') : ChoAt M' f' W' fv cl n h := by
 obtain ⟨a, b, c, d, h1, h2, h3, h4, h5, h6⟩ := k
 exact ⟨a, b, c, d, (e.gs n h1).1, by rw [(e.gs n h1).2]; exact h2, h3.stay s, by rw [e.sb]; exact h4.stay s, h5.stay s, h6.stay s⟩
theorem AkIs.stay {X' : Ss} {x : Ax} (h : AkIs M f X W x) (s : Stay G M M' W W') (e : SameF f f') (hc : X'.cl = X.cl) (hw : x.a.ch = false → x.a.q.k = 6 → X'.why = X.why) : AkIs M' f' X' W' x :=
 ⟨h.q.stay s, h.one, fun a b c => (h.tr a b c).stay s e, fun a b => (h.pu a b).stay s e, fun a b => (h.un a b).stay s e, fun a b c => (h.de a b c).stay s e, fun a b c => by rw [hw a c]; exact (h.re a b c).stay s e, fun a b => by rw [hc]; exact (h.c5 a b).stay s e, h.c0⟩
theorem own_blk {base e size : Nat} {v : Value} {n : Nat} {cs : List Value} {k : Nat} (h : W.ownsRow base e size v n cs) (hv : v.ownBlock = some k) : ∃ c, W.heap[k]? = some (.cells c e (0, 0)) := by
 rcases h.2 with ⟨rfl, _⟩ | ⟨g, cap, cur, rfl, hb, hg, r⟩
 ·cases hv
 ·injection hv with hv
  exact ⟨cur, by rw [← hv]; exact hg⟩
variable {N N' : Nat → Prop}
theorem SC.lt (h : SC f N X W) {k : Nat} (hk : f.In X.act k) : k < W.heap.size := by
 rcases hk with rfl | hk | hk | ⟨ha, rfl | hk⟩ | ⟨ho, hk⟩ | ⟨n, hn, rfl⟩
 ·exact lt_blk h.blk
 ·exact (World.ownsRow.lt h.ra k hk).2
 ·exact (World.ownsRow.lt h.ro k hk).2
 ·exact lt_blk (h.tx ha).1
 ·exact (World.ownsRow.lt (h.tx ha).2 k hk).2
 ·rcases hk with rfl | rfl | hk
  ·have := h.bx.le
   rcases (show f.ok = 1 ∨ f.ok = 2 by omega) with e | e
   ·exact lt_blk (h.bx.p e).1
   ·exact lt_blk (h.bx.c e).1
  ·exact lt_blk (h.bx.l ho)
  ·have := h.bx.le
   rcases (show f.ok = 1 ∨ f.ok = 2 by omega) with e | e
   ·exact (World.ownsRow.lt (h.bx.p e).2.1 k hk).2
   ·rw [(h.bx.c e).2] at hk
    cases hk
 ·exact lt_blk (h.gb n hn)
theorem SC.on (h : SC f N X W) (hb : Below W.heap.size W W') : SC f N X W' := by
 have s : Stay (fun _ => False) (f.Ex N X.act) (f.Ex N X.act) W W' := ⟨Kept.of_below hb, fun _ e => e.elim, fun _ _ e => e⟩
 have B : ∀ {b : Nat} {o : Obj}, W.heap[b]? = some o → W'.heap[b]? = some o := fun {b o} e => by rw [hb.block b (lt_blk e)]; exact e
 exact ⟨B h.blk, fun a => ⟨B (h.tx a).1, own_on (h.tx a).2 hb⟩, own_on h.ra hb, own_on h.ro hb, h.ea, h.eo,
  ⟨fun a => B (h.bx.l a), fun a => ⟨B (h.bx.p a).1, own_on (h.bx.p a).2.1 hb, (h.bx.p a).2.2.stay s⟩, fun a => ⟨B (h.bx.c a).1, (h.bx.c a).2⟩, h.bx.le⟩,
  fun n a => B (h.gb n a), h.gd, fun x hx => (h.ak x hx).stay s (SameF.refl f) rfl (fun _ _ => rfl), fun x hx => ⟨(h.lk x hx).1.stay s, (h.lk x hx).2⟩⟩
theorem SC.less (h : SC f N X W) (hn : ∀ k, N' k → N k) : SC f N' X W := by
 have s : Stay (fun _ => False) (f.Ex N X.act) (f.Ex N' X.act) W W := ⟨Kept.refl _ _, fun _ e => e.elim, fun k _ e => e.elim (fun e => .inl (hn k e)) .inr⟩
 exact ⟨h.blk, h.tx, h.ra, h.ro, h.ea, h.eo, ⟨h.bx.l, fun a => ⟨(h.bx.p a).1, (h.bx.p a).2.1, (h.bx.p a).2.2.stay s⟩, h.bx.c, h.bx.le⟩, h.gb, h.gd, fun x hx => (h.ak x hx).stay s (SameF.refl f) rfl (fun _ _ => rfl), fun x hx => ⟨(h.lk x hx).1.stay s, (h.lk x hx).2⟩⟩
theorem SC.more (h : SC f N X W) (hb : Below W.heap.size W W') (hn : ∀ k, N' k → N k ∨ W.heap.size ≤ k) : SC f N' X W' := by
 have h := h
 have s : Stay (fun _ => False) (f.Ex N X.act) (f.Ex N' X.act) W W' := ⟨Kept.of_below hb, fun _ e => e.elim, fun k hk e => by
  rcases e with e | e
  ·rcases hn k e with e | e
   ·exact .inl e
   ·omega
  ·exact .inr e⟩
 have B : ∀ {b : Nat} {o : Obj}, W.heap[b]? = some o → W'.heap[b]? = some o := fun {b o} e => by rw [hb.block b (lt_blk e)]; exact e
 exact ⟨B h.blk, fun a => ⟨B (h.tx a).1, own_on (h.tx a).2 hb⟩, own_on h.ra hb, own_on h.ro hb, h.ea, h.eo,
  ⟨fun a => B (h.bx.l a), fun a => ⟨B (h.bx.p a).1, own_on (h.bx.p a).2.1 hb, (h.bx.p a).2.2.stay s⟩, fun a => ⟨B (h.bx.c a).1, (h.bx.c a).2⟩, h.bx.le⟩,
  fun n a => B (h.gb n a), h.gd, fun x hx => (h.ak x hx).stay s (SameF.refl f) rfl (fun _ _ => rfl), fun x hx => ⟨(h.lk x hx).1.stay s, (h.lk x hx).2⟩⟩
theorem SC.poke (h : SC f N X W) {b : Nat} (hk : Kept (fun k => k = b) W W') (hb : N b) (hi : ¬ f.In X.act b) : SC f N X W' := by
 have s : Stay (fun k => k = b) (f.Ex N X.act) (f.Ex N X.act) W W' := ⟨hk, fun k e => by subst e; exact .inl hb, fun _ _ e => e⟩
 have B : ∀ {k : Nat} {o : Obj}, W.heap[k]? = some o → f.In X.act k → W'.heap[k]? = some o := fun {k o} e hm => by rw [hk.block k (lt_blk e) (fun e => hi (by rw [← e]; exact hm))]; exact e
 have O : ∀ {base e size : Nat} {v : Value} {n : Nat} {cs : List Value}, W.ownsRow base e size v n cs → (∀ k, v.ownBlock = some k → f.In X.act k) → W'.ownsRow base e size v n cs := fun h1 h2 => own_kept h1 hk (fun k hv e => hi (by rw [← e]; exact h2 k hv))
 exact ⟨B h.blk (.inl rfl), fun a => ⟨B (h.tx a).1 (.inr (.inr (.inr (.inl ⟨a, .inl rfl⟩)))), O (h.tx a).2 fun k e => .inr (.inr (.inr (.inl ⟨a, .inr e⟩)))⟩, O h.ra fun k e => .inr (.inl e), O h.ro fun k e => .inr (.inr (.inl e)), h.ea, h.eo,
  ⟨fun a => B (h.bx.l a) (.inr (.inr (.inr (.inr (.inl ⟨a, .inr (.inl rfl)⟩))))), fun a => ⟨B (h.bx.p a).1 (.inr (.inr (.inr (.inr (.inl ⟨by omega, .inl rfl⟩))))), O (h.bx.p a).2.1 fun k e => .inr (.inr (.inr (.inr (.inl ⟨by omega, .inr (.inr e)⟩)))), (h.bx.p a).2.2.stay s⟩, fun a => ⟨B (h.bx.c a).1 (.inr (.inr (.inr (.inr (.inl ⟨by omega, .inl rfl⟩))))), (h.bx.c a).2⟩, h.bx.le⟩,
  fun n a => B (h.gb n a) (.inr (.inr (.inr (.inr (.inr ⟨n, a, rfl⟩))))), h.gd, fun x hx => (h.ak x hx).stay s (SameF.refl f) rfl (fun _ _ => rfl), fun x hx => ⟨(h.lk x hx).1.stay s, (h.lk x hx).2⟩⟩
abbrev Bo := Nat × Array Value × TypeId
def Nm (N : Nat → Prop) (Lm : List Bo) (k : Nat) : Prop := N k ∨ ∃ p ∈ Lm, p.1 = k
structure Cx (M N : Nat → Prop) (w : World) (f : Fo) (X : Ss) (Lo Lm : List Bo) (W : World) : Prop where
 sc : SC f (Nm N Lm) X W
 sub : ∀ i, f.In X.act i → M i ∨ w.heap.size ≤ i
 kp : Kept M w W
 has : ∀ p ∈ Lo, W.heap[p.1]? = some (.cells p.2.1 p.2.2 (0, 0)) ∧ ¬ f.In X.act p.1 ∧ ¬ Nm N Lm p.1
 hasm : ∀ p ∈ Lm, W.heap[p.1]? = some (.cells p.2.1 p.2.2 (0, 0)) ∧ ¬ f.In X.act p.1 ∧ w.heap.size ≤ p.1
 nl : ∀ k, N k → k < w.heap.size ∧ ¬ M k
variable {Lo Lo' Lm Lm' : List Bo}
def Nok (N : Nat → Prop) (f : Fo) (act : Bool) (w : World) : Prop := ∀ k, N k → k < w.heap.size ∧ ¬ f.In act k
theorem nm_nil : ∀ k, Nm N [] k → N k := fun k e => e.elim id (fun ⟨p, hp, _⟩ => by cases hp)
theorem Cx.start (h : SC f N X w) (hn : Nok N f X.act w) (hl : ∀ p ∈ Lo, Fx (f.Ex N X.act) w p.1 p.2.1 p.2.2) : Cx (f.In X.act) N w f X Lo [] w :=
 ⟨h.less nm_nil, fun _ e => .inl e, Kept.refl _ _, fun p hp => ⟨(hl p hp).1, fun e => (hl p hp).2 (.inr e), fun e => (hl p hp).2 (.inl (nm_nil _ e))⟩, (fun p hp => by cases hp), hn⟩
theorem Cx.lt (h : Cx M N w f X Lo Lm W) {k : Nat} (hk : Nm N Lm k) : k < W.heap.size := by
 rcases hk with e | ⟨p, hp, rfl⟩
 ·exact Nat.lt_of_lt_of_le (h.nl k e).1 h.kp.size
 ·exact lt_blk (h.hasm p hp).1
theorem Cx.on (h : Cx M N w f X Lo Lm W) (hb : Below W.heap.size W W') : Cx M N w f X Lo Lm W' :=
 ⟨h.sc.on hb, h.sub, h.kp.trans (Kept.of_below (F := fun _ => False) hb) (fun _ e => e.elim), fun p hp => ⟨by rw [hb.block _ (lt_blk (h.has p hp).1)]; exact (h.has p hp).1, (h.has p hp).2⟩, fun p hp => ⟨by rw [hb.block _ (lt_blk (h.hasm p hp).1)]; exact (h.hasm p hp).1, (h.hasm p hp).2⟩, h.nl⟩
theorem Cx.new (h : Cx M N w f X Lo Lm W) (cs : Array Value) (ty : TypeId) : Cx M N w f X ((W.heap.size, cs, ty) :: Lo) Lm (W.alloc (.cells cs ty)) := by
 have h2 := h.on (al (W := W) (.cells cs ty))
 refine ⟨h2.sc, h2.sub, h2.kp, fun p hp => ?_, h2.hasm, h.nl⟩
 rcases List.mem_cons.1 hp with rfl | hp
 ·exact ⟨heap_alloc_new W _, fun e => absurd (h.sc.lt e) (Nat.lt_irrefl _), fun e => absurd (h.lt e) (Nat.lt_irrefl _)⟩
 ·exact h2.has p hp
theorem Cx.newm (h : Cx M N w f X Lo Lm W) (cs : Array Value) (ty : TypeId) : Cx M N w f X Lo ((W.heap.size, cs, ty) :: Lm) (W.alloc (.cells cs ty)) := by
 have h2 := h.on (al (W := W) (.cells cs ty))
 have hn : ∀ k, Nm N ((W.heap.size, cs, ty) :: Lm) k → Nm N Lm k ∨ W.heap.size ≤ k := fun k e => by
  rcases e with e | ⟨p, hp, rfl⟩
  ·exact .inl (.inl e)
  ·rcases List.mem_cons.1 hp with rfl | hp
   ·exact .inr (Nat.le_refl _)
   ·exact .inl (.inr ⟨p, hp, rfl⟩)
 refine ⟨h.sc.more (al _) hn, h2.sub, h2.kp, fun p hp => ⟨(h2.has p hp).1, (h2.has p hp).2.1, fun e => ?_⟩, fun p hp => ?_, h.nl⟩
 ·rcases hn _ e with e | e
  ·exact (h.has p hp).2.2 e
  ·exact absurd (lt_blk (h.has p hp).1) (by omega)
 ·rcases List.mem_cons.1 hp with rfl | hp
  ·exact ⟨heap_alloc_new W _, fun e => absurd (h.sc.lt e) (Nat.lt_irrefl _), h.kp.size⟩
  ·exact h2.hasm p hp
theorem Cx.drew (h : Cx M N w f X Lo Lm W) : Cx M N w f X Lo Lm W.drew := h.on (Below.refl _ _).drew
theorem Cx.less (h : Cx M N w f X Lo Lm W) (hl : ∀ p ∈ Lo', p ∈ Lo) : Cx M N w f X Lo' Lm W := ⟨h.sc, h.sub, h.kp, fun p hp => h.has p (hl p hp), h.hasm, h.nl⟩
theorem Cx.poke {b : Nat} {cs cs' : Array Value} {ty : TypeId} (h : Cx M N w f X Lo ((b, cs, ty) :: Lm) W) (hk : Kept (fun k => k = b) W W') (hx : W'.heap[b]? = some (.cells cs' ty (0, 0))) (hd : ∀ p ∈ Lm, p.1 ≠ b) : Cx M N w f X Lo ((b, cs', ty) :: Lm) W' := by
 have hm := h.hasm _ mc
 have hN : ∀ k, Nm N ((b, cs', ty) :: Lm) k ↔ Nm N ((b, cs, ty) :: Lm) k := fun k => by unfold Nm; simp
 have hsc : SC f (Nm N ((b, cs, ty) :: Lm)) X W' := h.sc.poke hk (.inr ⟨_, List.mem_cons_self .., rfl⟩) hm.2.1
 refine ⟨hsc.less (fun k e => (hN k).1 e), h.sub, h.kp.trans hk (fun i e => by subst e; exact .inr hm.2.2), fun p hp => ⟨?_, (h.has p hp).2.1, fun e => (h.has p hp).2.2 ((hN _).1 e)⟩, fun p hp => ?_, h.nl⟩
 ·rw [hk.block _ (lt_blk (h.has p hp).1) (fun e => (h.has p hp).2.2 (.inr ⟨_, List.mem_cons_self .., e.symm⟩))]
  exact (h.has p hp).1
 ·rcases List.mem_cons.1 hp with rfl | hp
  ·exact ⟨hx, hm.2⟩
  ·have h3 := h.hasm p (List.mem_cons_of_mem _ hp)
   exact ⟨by rw [hk.block _ (lt_blk h3.1) (hd p hp)]; exact h3.1, h3.2⟩
structure To (f : Fo) (N : Nat → Prop) (act : Bool) (w : World) (f' : Fo) (X' : Ss) (w' : World) : Prop where
 sc : SC f' N X' w'
 kp : Kept (f.In act) w w'
 sub : ∀ i, f'.In X'.act i → f.In act i ∨ w.heap.size ≤ i
theorem Cx.nok (h : Cx M N w f X Lo Lm W) : Nok (Nm N Lm) f X.act W := fun k e => ⟨h.lt e, fun hi => by
 rcases e with e | ⟨p, hp, rfl⟩
 ·rcases h.sub k hi with e2 | e2
  ·exact (h.nl k e).2 e2
  ·exact absurd (h.nl k e).1 (by omega)
 ·exact (h.hasm p hp).2.1 hi⟩
theorem Cx.next {X' : Ss} (h : Cx M N w f X Lo Lm W) (t : To f (Nm N Lm) X.act W f' X' W') : Cx M N w f' X' Lo Lm W' :=
 ⟨t.sc, fun i hi => by
  rcases t.sub i hi with e | e
  ·exact h.sub i e
  ·exact .inr (Nat.le_trans h.kp.size e), h.kp.trans t.kp h.sub, fun p hp => ⟨by rw [t.kp.block _ (lt_blk (h.has p hp).1) (h.has p hp).2.1]; exact (h.has p hp).1, fun e => by
  rcases t.sub _ e with e | e
  ·exact (h.has p hp).2.1 e
  ·exact absurd (lt_blk (h.has p hp).1) (by omega), (h.has p hp).2.2⟩, fun p hp => ⟨by rw [t.kp.block _ (lt_blk (h.hasm p hp).1) (h.hasm p hp).2.1]; exact (h.hasm p hp).1, fun e => by
  rcases t.sub _ e with e | e
  ·exact (h.hasm p hp).2.1 e
  ·exact absurd (lt_blk (h.hasm p hp).1) (by omega), (h.hasm p hp).2.2⟩, h.nl⟩
theorem Cx.to {X0 : Ss} {f0 : Fo} (h : Cx (f0.In X0.act) N w f X Lo Lm W) : To f0 N X0.act w f X W := ⟨h.sc.less (fun _ e => .inl e), h.kp, h.sub⟩
theorem Cx.fx (h : Cx M N w f X Lo Lm W) {b : Nat} {cs : Array Value} {ty : TypeId} (hp : (b, cs, ty) ∈ Lo) : Fx (f.Ex (Nm N Lm) X.act) W b cs ty := ⟨(h.has _ hp).1, fun e => e.elim (h.has _ hp).2.2 (h.has _ hp).2.1⟩
theorem Cx.bx (h : Cx M N w f X Lo Lm W) {b : Nat} {cs : Array Value} {ty : TypeId} (hp : (b, cs, ty) ∈ Lo) : W.heap[b]? = some (.cells cs ty (0, 0)) := (h.has _ hp).1
theorem Cx.bm (h : Cx M N w f X Lo Lm W) {b : Nat} {cs : Array Value} {ty : TypeId} (hp : (b, cs, ty) ∈ Lm) : W.heap[b]? = some (.cells cs ty (0, 0)) := (h.hasm _ hp).1
end Go.Proofs.YtkdkgdollmmcnaaGreat
namespace Go.Proofs.YtkdkgdollmmcnaaGreat
open Go.RowKit Go.Sort
variable {M M' G N : Nat → Prop} {W W' w : World} {f f' : Fo} {X : Ss}
def Fo.Pg (f : Fo) (k : Nat) : Prop := k = f.sb ∨ f.va.ownBlock = some k ∨ f.vo.ownBlock = some k
theorem Fo.pg_in {k : Nat} {act : Bool} (h : f.Pg k) : f.In act k := by
 rcases h with e | e | e
 ·exact .inl e
 ·exact .inr (.inl e)
 ·exact .inr (.inr (.inl e))
theorem SC.npg (h : SC f N X W) {b : Nat} {cs : Array Value} {ty : TypeId} (hb : W.heap[b]? = some (.cells cs ty (0, 0))) (h1 : ty ≠ 77) (h2 : ty ≠ 99) (h3 : ty ≠ 55) : ¬ f.Pg b := by
 rintro (rfl | e | e)
 ·exact ne_tag hb h.blk h1 rfl
 ·obtain ⟨c, hc⟩ := own_blk h.ra e
  exact ne_tag hb hc h2 rfl
 ·obtain ⟨c, hc⟩ := own_blk h.ro e
  exact ne_tag hb hc h3 rfl
theorem SC.posted {X' : Ss} {va vo : Value} {la : List Ax} {lo : List Lx} (h : SC f N X w) (hk : Kept f.Pg w W) (hb : W.heap[f.sb]? = some (.cells (sbA { f with va := va, vo := vo } X') 77 (0, 0)))
  (ra : W.ownsRow 0 99 33 va la.length (rowC (axc X.cl) la)) (ro : W.ownsRow 0 55 31 vo lo.length (rowC lxc lo)) (ba : ∀ k, va.ownBlock = some k → f.va.ownBlock = some k ∨ w.heap.size ≤ k) (bo : ∀ k, vo.ownBlock = some k → f.vo.ownBlock = some k ∨ w.heap.size ≤ k)
  (hX : X' = { X with np := X'.np, nl := X'.nl, sq := X'.sq, asks := la.map Ax.a, out := lo.map Lx.l, left := X'.left, op := X'.op, stg := X'.stg }) (ha : ∀ x ∈ la, x ∈ f.la ∨ AkIs (f.Ex N X.act) f X w x) (ho : ∀ x ∈ lo, x ∈ f.lo ∨ (QF (f.Ex N X.act) x.l.q x.vw x.vs w ∧ x.l.an = false ∧ x.l.r = zR ∧ x.vw.oneCell' = true ∧ x.vs.oneCell' = true)) :
  To f N X.act w { f with va := va, vo := vo, la := la, lo := lo } X' W := by
 have hact : X'.act = X.act := by rw [hX]
 have hin : ∀ i, Fo.In { f with va := va, vo := vo, la := la, lo := lo } X'.act i → f.In X.act i ∨ w.heap.size ≤ i := fun i hi => by
  rw [hact] at hi
  rcases hi with e | e | e | e | e | e
  ·exact .inl (.inl e)
  ·rcases ba i e with e | e
   ·exact .inl (.inr (.inl e))
   ·exact .inr e
  ·rcases bo i e with e | e
   ·exact .inl (.inr (.inr (.inl e)))
   ·exact .inr e
  ·exact .inl (.inr (.inr (.inr (.inl e))))
  ·exact .inl (.inr (.inr (.inr (.inr (.inl e)))))
  ·exact .inl (.inr (.inr (.inr (.inr (.inr e)))))
 have s : Stay f.Pg (f.Ex N X.act) (Fo.Ex { f with va := va, vo := vo, la := la, lo := lo } N X'.act) w W := ⟨hk, fun k e => .inr (Fo.pg_in e), fun k hlt e => by
  rcases e with e | e
  ·exact .inl e
  ·rcases hin k e with e | e
   ·exact .inr e
   ·omega⟩
 have sf : SameF f { f with va := va, vo := vo, la := la, lo := lo } := ⟨rfl, rfl, rfl, rfl, fun _ h => ⟨h, rfl⟩⟩
 have B : ∀ {b : Nat} {cs : Array Value} {ty : TypeId}, w.heap[b]? = some (.cells cs ty (0, 0)) → ty ≠ 77 → ty ≠ 99 → ty ≠ 55 → W.heap[b]? = some (.cells cs ty (0, 0)) := fun {b cs ty} e h1 h2 h3 => by rw [hk.block b (lt_blk e) (h.npg e h1 h2 h3)]; exact e
 have O : ∀ {base e size : Nat} {v : Value} {n : Nat} {cs : List Value}, w.ownsRow base e size v n cs → e ≠ 77 → e ≠ 99 → e ≠ 55 → W.ownsRow base e size v n cs := fun h0 h1 h2 h3 => own_kept h0 hk fun k hv => by
  obtain ⟨c, hc⟩ := own_blk h0 hv
  exact h.npg hc h1 h2 h3
 have eA : X'.asks = la.map Ax.a := by rw [hX]
 have eO : X'.out = lo.map Lx.l := by rw [hX]
 have ex : X'.cl = X.cl ∧ X'.n = X.n ∧ X'.sp = X.sp ∧ X'.sl = X.sl ∧ X'.ws = X.ws ∧ X'.ws = X.ws ∧ X'.ps = X.ps ∧ X'.cp = X.cp ∧ X'.cll = X.cll ∧ X'.why = X.why := by rw [hX]; exact ⟨rfl, rfl, rfl, rfl, rfl, rfl, rfl, rfl, rfl, rfl⟩
 obtain ⟨e1, e2, e3, e4, e5, e6, e7, e8, e9, e10⟩ := ex
 have sc : SC { f with va := va, vo := vo, la := la, lo := lo } N X' W := by
  refine ⟨hb, fun a => ?_, by rw [e1]; exact ra, ro, eA, eO, ⟨fun a => B (h.bx.l a) (by decide) (by decide) (by decide), fun a => ⟨B (h.bx.p a).1 (by decide) (by decide) (by decide), by rw [e7]; exact O (h.bx.p a).2.1 (by decide) (by decide) (by decide), (h.bx.p a).2.2.stay s⟩, fun a => ⟨by rw [e8, e9]; exact B (h.bx.c a).1 (by decide) (by decide) (by decide), (h.bx.c a).2⟩, h.bx.le⟩, fun n a => B (h.gb n a) (by decide) (by decide) (by decide), h.gd, fun x hx => ?_, fun x hx => ?_⟩
  ·rw [hact] at a
   refine ⟨?_, by rw [e5]; exact O (h.tx a).2 (by decide) (by decide) (by decide)⟩
   have := B (h.tx a).1 (by decide) (by decide) (by decide)
   unfold txA at this ⊢
   rw [e1, e2, e3, e4]
   exact this
  ·have hx2 : AkIs (f.Ex N X.act) f X w x := (ha x hx).elim (h.ak x) id
   exact hx2.stay s sf e1 (fun _ _ => e10)
  ·have hx2 := (ho x hx).elim (h.lk x) id
   exact ⟨hx2.1.stay s, hx2.2⟩
 exact ⟨sc, hk.mono (fun k e => Fo.pg_in e), hin⟩
structure Pj (w : World) (f : Fo) (bq bx : Nat) (c0 c1 c2 c3 c4 sq v6 v7 va vo : Value) (qc ac : Array Value) (na : Nat) (ca : List Value) (no : Nat) (co : List Value) (W : World) : Prop where
 kp : Kept f.Pg w W
 blk : W.heap[f.sb]? = some (.cells #[c0, c1, c2, c3, c4, sq, v6, v7, va, vo] 77 (0, 0))
 ra : W.ownsRow 0 99 33 va na ca
 ro : W.ownsRow 0 55 31 vo no co
 ba : ∀ k, va.ownBlock = some k → f.va.ownBlock = some k ∨ w.heap.size ≤ k
 bo : ∀ k, vo.ownBlock = some k → f.vo.ownBlock = some k ∨ w.heap.size ≤ k
 hq : W.heap[bq]? = some (.cells qc 53 (0, 0))
 hx : W.heap[bx]? = some (.cells ac 99 (0, 0))
 lq : w.heap.size ≤ bq
 lx : w.heap.size ≤ bx
 lsb : f.sb < w.heap.size
 xa : va.ownBlock ≠ some bx
variable {bq bx : Nat} {c0 c1 c2 c3 c4 sq v6 v7 va vo : Value} {qc ac : Array Value} {na no : Nat} {ca co : List Value}
theorem Pj.on (h : Pj w f bq bx c0 c1 c2 c3 c4 sq v6 v7 va vo qc ac na ca no co W) (hb : Below W.heap.size W W') : Pj w f bq bx c0 c1 c2 c3 c4 sq v6 v7 va vo qc ac na ca no co W' := by
 have B : ∀ {b : Nat} {o : Obj}, W.heap[b]? = some o → W'.heap[b]? = some o := fun {b o} e => by rw [hb.block b (lt_blk e)]; exact e
 exact ⟨h.kp.trans (Kept.of_below (F := fun _ => False) hb) (fun _ e => e.elim), B h.blk, own_on h.ra hb, own_on h.ro hb, h.ba, h.bo, B h.hq, B h.hx, h.lq, h.lx, h.lsb, h.xa⟩
theorem Pj.dr (h : Pj w f bq bx c0 c1 c2 c3 c4 sq v6 v7 va vo qc ac na ca no co W) : Pj w f bq bx c0 c1 c2 c3 c4 sq v6 v7 va vo qc ac na ca no co W.drew := h.on (Below.refl _ _).drew
theorem own_ne {base e size : Nat} {v : Value} {n : Nat} {cs : List Value} {b : Nat} {c : Array Value} {t : TypeId} (h : W.ownsRow base e size v n cs) (hb : W.heap[b]? = some (.cells c t (0, 0))) (hn : e ≠ t) : v.ownBlock ≠ some b := fun hv => by
 obtain ⟨d, hd⟩ := own_blk h hv
 exact ne_tag hd hb hn rfl
theorem Pj.st (h : Pj w f bq bx c0 c1 c2 c3 c4 sq v6 v7 va vo qc ac na ca no co W) (j : Nat) (u : Value) (sq' : Value) (hj : (#[c0, c1, c2, c3, c4, sq, v6, v7, va, vo] : Array Value).setIfInBounds j u = #[c0, c1, c2, c3, c4, sq', v6, v7, va, vo]) : Pj w f bq bx c0 c1 c2 c3 c4 sq' v6 v7 va vo qc ac na ca no co (W.setCell ⟨f.sb, j, none⟩ u) := by
 have hk := set_kept' W f.sb j u
 have B : ∀ {b : Nat} {c : Array Value} {t : TypeId}, W.heap[b]? = some (.cells c t (0, 0)) → t ≠ 77 → (W.setCell ⟨f.sb, j, none⟩ u).heap[b]? = some (.cells c t (0, 0)) := fun {b c t} e hn => by rw [hk.block b (lt_blk e) (ne_tag e h.blk hn)]; exact e
 refine ⟨h.kp.trans hk (fun i e => .inl (.inl e)), by rw [block_set u h.blk, hj], own_kept h.ra hk fun k hv e => ?_, own_kept h.ro hk fun k hv e => ?_, h.ba, h.bo, B h.hq (by decide), B h.hx (by decide), h.lq, h.lx, h.lsb, h.xa⟩
 ·subst e
  exact own_ne h.ra h.blk (by decide) hv
 ·subst e
  exact own_ne h.ro h.blk (by decide) hv
theorem Pj.box (h : Pj w f bq bx c0 c1 c2 c3 c4 sq v6 v7 va vo qc ac na ca no co W) {ac' : Array Value} (hk : Kept (fun k => k = bx) W W') (hx : W'.heap[bx]? = some (.cells ac' 99 (0, 0))) : Pj w f bq bx c0 c1 c2 c3 c4 sq v6 v7 va vo qc ac' na ca no co W' := by
 have B : ∀ {b : Nat} {c : Array Value} {t : TypeId}, W.heap[b]? = some (.cells c t (0, 0)) → t ≠ 99 → W'.heap[b]? = some (.cells c t (0, 0)) := fun {b c t} e hn => by rw [hk.block b (lt_blk e) (ne_tag e h.hx hn)]; exact e
 refine ⟨h.kp.trans hk (fun i e => .inr (by rw [e]; exact h.lx)), B h.blk (by decide), own_kept h.ra hk fun k hv e => ?_, own_kept h.ro hk fun k hv e => ?_, h.ba, h.bo, B h.hq (by decide), hx, h.lq, h.lx, h.lsb, h.xa⟩
 ·subst e
  exact h.xa hv
 ·subst e
  exact own_ne h.ro h.hx (by decide) hv
theorem Pj.pa (h : Pj w f bq bx c0 c1 c2 c3 c4 sq v6 v7 va vo qc ac na ca no co W) {va' : Value} {cs : List Value} (h2 : W'.ownsRow 0 99 33 va' (na + 1) (ca ++ cs)) (hg : W.grownBy W' va.ownBlock) (hat : va'.ownBlock = va.ownBlock ∨ va'.ownBlock = some W.heap.size) : Pj w f bq bx c0 c1 c2 c3 c4 sq v6 v7 va' vo qc ac (na + 1) (ca ++ cs) no co (W'.setCell ⟨f.sb, 8, none⟩ va') := by
 have hk := grown_kept hg
 have B : ∀ {b : Nat} {c : Array Value} {t : TypeId}, W.heap[b]? = some (.cells c t (0, 0)) → va.ownBlock ≠ some b → W'.heap[b]? = some (.cells c t (0, 0)) := fun {b c t} e hn => by rw [hk.block b (lt_blk e) hn]; exact e
 have b1 := B h.blk (own_ne h.ra h.blk (by decide))
 have hk2 := set_kept' W' f.sb 8 va'
 have C : ∀ {b : Nat} {c : Array Value} {t : TypeId}, W'.heap[b]? = some (.cells c t (0, 0)) → t ≠ 77 → (W'.setCell ⟨f.sb, 8, none⟩ va').heap[b]? = some (.cells c t (0, 0)) := fun {b c t} e hn => by rw [hk2.block b (lt_blk e) (ne_tag e b1 hn)]; exact e
 have hb' : ∀ k, va'.ownBlock = some k → f.va.ownBlock = some k ∨ w.heap.size ≤ k := fun k hv => by
  rcases hat with e | e
  ·exact h.ba k (by rw [← e]; exact hv)
  ·rw [e] at hv
   injection hv with hv
   have := h.kp.size
   exact .inr (by omega)
 refine ⟨(h.kp.trans hk (fun i e => ?_)).trans hk2 (fun i e => .inl (.inl e)), by rw [block_set _ b1]; rfl, own_kept h2 hk2 fun k hv e => ?_, own_kept (own_kept h.ro hk fun k hv e => ?_) hk2 fun k hv e => ?_, hb', h.bo, C (B h.hq (own_ne h.ra h.hq (by decide))) (by decide), C (B h.hx h.xa) (by decide), h.lq, h.lx, h.lsb, ?_⟩
 ·rcases h.ba i e with e | e
  ·exact .inl (.inr (.inl e))
  ·exact .inr e
 ·subst e
  exact own_ne h2 b1 (by decide) hv
 ·obtain ⟨d, hd⟩ := own_blk h.ro hv
  obtain ⟨d', hd'⟩ := own_blk h.ra e
  exact ne_tag hd hd' (by decide) rfl
 ·obtain ⟨d, hd⟩ := own_blk h.ro hv
  subst e
  exact ne_tag hd h.blk (by decide) rfl
 ·rcases hat with e | e
  ·rw [e]; exact h.xa
  ·rw [e]
   intro e2
   injection e2 with e2
   exact absurd (lt_blk h.hx) (by omega)
theorem Pj.po (h : Pj w f bq bx c0 c1 c2 c3 c4 sq v6 v7 va vo qc ac na ca no co W) {vo' : Value} {cs : List Value} (h2 : W'.ownsRow 0 55 31 vo' (no + 1) (co ++ cs)) (hg : W.grownBy W' vo.ownBlock) (hat : vo'.ownBlock = vo.ownBlock ∨ vo'.ownBlock = some W.heap.size) : Pj w f bq bx c0 c1 c2 c3 c4 sq v6 v7 va vo' qc ac na ca (no + 1) (co ++ cs) (W'.setCell ⟨f.sb, 9, none⟩ vo') := by
 have hk := grown_kept hg
 have B : ∀ {b : Nat} {c : Array Value} {t : TypeId}, W.heap[b]? = some (.cells c t (0, 0)) → t ≠ 55 → W'.heap[b]? = some (.cells c t (0, 0)) := fun {b c t} e hn => by rw [hk.block b (lt_blk e) (own_ne h.ro e (Ne.symm hn))]; exact e
 have b1 := B h.blk (by decide)
 have hk2 := set_kept' W' f.sb 9 vo'
 have C : ∀ {b : Nat} {c : Array Value} {t : TypeId}, W'.heap[b]? = some (.cells c t (0, 0)) → t ≠ 77 → (W'.setCell ⟨f.sb, 9, none⟩ vo').heap[b]? = some (.cells c t (0, 0)) := fun {b c t} e hn => by rw [hk2.block b (lt_blk e) (ne_tag e b1 hn)]; exact e
 have hb' : ∀ k, vo'.ownBlock = some k → f.vo.ownBlock = some k ∨ w.heap.size ≤ k := fun k hv => by
  rcases hat with e | e
  ·exact h.bo k (by rw [← e]; exact hv)
  ·rw [e] at hv
   injection hv with hv
   have := h.kp.size
   exact .inr (by omega)
 refine ⟨(h.kp.trans hk (fun i e => ?_)).trans hk2 (fun i e => .inl (.inl e)), by rw [block_set _ b1]; rfl, own_kept (own_kept h.ra hk fun k hv e => ?_) hk2 fun k hv e => ?_, own_kept h2 hk2 fun k hv e => ?_, h.ba, hb', C (B h.hq (by decide)) (by decide), C (B h.hx (by decide)) (by decide), h.lq, h.lx, h.lsb, h.xa⟩
 ·rcases h.bo i e with e | e
  ·exact .inl (.inr (.inr e))
  ·exact .inr e
 ·obtain ⟨d, hd⟩ := own_blk h.ra hv
  obtain ⟨d', hd'⟩ := own_blk h.ro e
  exact ne_tag hd hd' (by decide) rfl
 ·obtain ⟨d, hd⟩ := own_blk h.ra hv
  subst e
  exact ne_tag hd h.blk (by decide) rfl
 ·subst e
  exact own_ne h2 b1 (by decide) hv
end Go.Proofs.YtkdkgdollmmcnaaGreat
