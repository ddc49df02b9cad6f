import Derived.Test.YtdplfgcoaddbdaaGreatXau
import Derived.Test.YtdplfgcoaddbdaaGreatXav
set_option maxHeartbeats 4000000
set_option maxRecDepth 100000
set_option linter.unusedVariables false
set_option linter.unusedSimpArgs false
namespace Go.Proofs.YtdplfgcoaddbdaaGreat
open Go.RowKit
def ByR(w:World)(k:Nat):Prop:=∃cs fz,w.heap[k]?=some (.cells cs 5 fz)
structure Env(SA:TyS)(TA:TyT)(BA:TyB):Prop where
 I:Sto.Ifs SA
 J:Lat.Ifl TA
 V:Ver.Ifv BA
 E:Ent.Ife
 tS:∀{B p:Nat} {M:Nat->Prop} {S:Sto.Sk} {w:World},SA B p M S w->∀k,M k->¬ByR w k
 tT:∀{B p:Nat} {M:Nat->Prop} {T:Lat.Tb} {w:World},TA B p M T w->∀k,M k->¬ByR w k/\Sto.NoVe w k
 tV:∀{B p:Nat} {M:Nat->Prop} {K:Ver.Bk} {w:World},BA B p M K w->∀k,M k->¬ByR w k/\Sto.NoVe w k
structure Fp where
 B:Nat
 sb:Nat
 pb:Nat
 lb:Nat
 st:Nat
 la:Nat
 ve:Nat
 B1:Nat
 B2:Nat
 B3:Nat
def shc(f:Fp)(X:Sd):Array Value:=#[pz f.pb,pz f.lb,pz f.st,pz f.la,pz f.ve,uw X.sp,ui X.sl,uw X.np,ui X.nl,uw X.bp,ui X.bl]
def Fp.In(f:Fp)(M1 M2 M3:Nat->Prop)(w:World)(k:Nat):Prop:=k=f.sb\/k=f.lb\/k=f.pb\/M1 k\/M2 k\/M3 k\/(f.pb<=k/\ByR w k)
section
variable (SA:TyS)(TA:TyT)(BA:TyB)
structure ShC(f:Fp)(M1 M2 M3:Nat->Prop)(X:Sd)(a:Int)(g:Nat)(D:Drm.Dr)(w:World):Prop where
 blk:w.heap[f.sb]?=some (.cells (shc f X) 87 (0,0))
 lg:Lgs.LgAt f.lb f.pb a g D w
 ok:D.Ok
 s:SA f.B1 f.st M1 X.S w
 t:TA f.B2 f.la M2 X.T w
 v:BA f.B3 f.ve M3 X.K w
 d12:∀k,M1 k->¬M2 k
 d13:∀k,M1 k->¬M3 k
 d23:∀k,M2 k->¬M3 k
 o:∀k,M1 k\/M2 k\/M3 k->k≠f.sb/\k≠f.lb/\k≠f.pb
 ne:f.sb≠f.lb/\f.sb≠f.pb
 lo:f.B<=f.sb/\f.B<=f.pb/\f.B<=f.B1/\f.B<=f.B2/\f.B<=f.B3
def ShAt(f:Fp)(M:Nat->Prop)(X:Sd)(a:Int)(g:Nat)(D:Drm.Dr)(w:World):Prop:=∃M1 M2 M3,ShC SA TA BA f M1 M2 M3 X a g D w/\M=f.In M1 M2 M3 w
def ShTo(f:Fp)(M:Nat->Prop)(w:World)(X:Sd)(a:Int)(g:Nat)(D:Drm.Dr)(w':World):Prop:=∃M',ShAt SA TA BA f M' X a g D w'/\Kept M w w'/\∀i,M' i->M i\/w.heap.size<=i
end
variable {SA:TyS}{TA:TyT}{BA:TyB}
variable {f:Fp}{M M1 M2 M3 G:Nat->Prop}{X:Sd}{a:Int}{g:Nat}{D:Drm.Dr}{w w':World}
theorem byr_kept{k:Nat}(hk:Kept G w w')(h:ByR w' k)(hl:k<w.heap.size)(hn:¬G k):ByR w k:=by obtain⟨cs,fz,h⟩:=h;exact⟨cs,fz,by rw[<-hk.block k hl hn];exact h⟩
theorem drum_kept{pb:Nat}(h:Drm.DrumAt pb D w)(hk:Kept G w w')(hp:¬G pb)(hG:∀k,pb<=k->ByR w k->¬G k):Drm.DrumAt pb D w':=by
 obtain⟨vs,h⟩:=h;refine⟨vs,⟨?_,fun i hi=>own_kept (h.own i hi) hk fun k hv=>?_,h.apart⟩⟩
 ·rw[hk.block pb (lt_of_block h.blk) hp];exact h.blk
 ·have ho:=h.own i hi;rcases ho.2 with⟨e,_⟩|⟨g,cap,cur,e,hb,hg,_⟩
  ·rw[e]at hv;simp[Value.ownBlock]at hv
  ·rw[e]at hv;simp only[Value.ownBlock,Option.some.injEq]at hv;subst hv;exact hG _ (by omega) ⟨cur,_,hg⟩
theorem lg_kept{lb pb:Nat}(h:Lgs.LgAt lb pb a g D w)(hk:Kept G w w')(hl:¬G lb)(hp:¬G pb)(hG:∀k,pb<=k->ByR w k->¬G k):Lgs.LgAt lb pb a g D w':=by refine⟨?_,drum_kept h.drum hk hp hG,h.ne⟩;unfold Lgs.LbAt;rw[hk.block lb (Lgs.LbAt.lt h.blk) hl];exact h.blk
theorem drm_kept{pb:Nat}(h:Drm.Kept pb w w'):Kept (fun k=>k=pb\/(pb<=k/\ByR w k)) w w':=by
 refine⟨h.below.os,h.below.tape,h.below.output,h.below.size,fun k hk hn=>?_⟩;by_cases hp:k<pb
 ·exact h.below.block k hp
 ·obtain⟨o,ho⟩:∃o,w.heap[k]?=some o:=⟨_,Array.getElem?_eq_getElem hk⟩;rw[ho];exact h.other k o ho (fun e=>hn (.inl e)) (fun cs fz e=>hn (.inr ⟨by omega,cs,fz,by rw[ho,e]⟩))
theorem ShC.kept(E:Env SA TA BA)(h:ShC SA TA BA f M1 M2 M3 X a g D w)(hk:Kept G w w')(hG:∀k,f.In M1 M2 M3 w k->¬G k)(hv:∀k,G k->Sto.NoVe w k):ShC SA TA BA f M1 M2 M3 X a g D w':=
 {h with blk:=by rw[hk.block f.sb (lt_of_block h.blk) (hG _ (.inl rfl))];exact h.blk,lg:=lg_kept h.lg hk (hG _ (.inr (.inl rfl))) (hG _ (.inr (.inr (.inl rfl)))) (fun k h1 h2=>hG k (.inr (.inr (.inr (.inr (.inr (.inr ⟨h1,h2⟩))))))),s:=E.I.keep h.s hk (fun k hm=>hG k (.inr (.inr (.inr (.inl hm))))) hv,t:=E.J.keep h.t hk (fun k hm=>hG k (.inr (.inr (.inr (.inr (.inl hm)))))),v:=E.V.keep h.v hk (fun k hm=>hG k (.inr (.inr (.inr (.inr (.inr (.inl hm)))))))}
theorem In_kept(hk:Kept G w w'){k:Nat}(h:f.In M1 M2 M3 w' k):f.In M1 M2 M3 w k\/w.heap.size<=k\/G k:=by
 rcases h with h|h|h|h|h|h|⟨h1,h2⟩
 ·exact .inl (.inl h)
 ·exact .inl (.inr (.inl h))
 ·exact .inl (.inr (.inr (.inl h)))
 ·exact .inl (.inr (.inr (.inr (.inl h))))
 ·exact .inl (.inr (.inr (.inr (.inr (.inl h)))))
 ·exact .inl (.inr (.inr (.inr (.inr (.inr (.inl h))))))
 ·by_cases hs:w.heap.size<=k
  ·exact .inr (.inl hs)
  ·by_cases hg:G k
   ·exact .inr (.inr hg)
   ·exact .inl (.inr (.inr (.inr (.inr (.inr (.inr ⟨h1,byr_kept hk h2 (by omega) hg⟩))))))
theorem ShC.on(E:Env SA TA BA)(h:ShC SA TA BA f M1 M2 M3 X a g D w)(hb:Below w.heap.size w w'):ShC SA TA BA f M1 M2 M3 X a g D w':=h.kept E (Kept.of_below (F:=fun _=>False) hb) (fun _ _ h=>h) (fun _ h=>h.elim)
theorem ShAt.on(E:Env SA TA BA)(h:ShAt SA TA BA f M X a g D w)(hb:Below w.heap.size w w'):∃M',ShAt SA TA BA f M' X a g D w'/\∀i,M' i->M i\/w.heap.size<=i:=by
 obtain⟨M1,M2,M3,h,rfl⟩:=h;refine⟨_,⟨M1,M2,M3,h.on E hb,rfl⟩,fun i hi=>?_⟩;rcases In_kept (G:=fun _=>False) (Kept.of_below hb) hi with h1|h1|h1
 ·exact .inl h1
 ·exact .inr h1
 ·exact h1.elim
theorem ShAt.lo(E:Env SA TA BA)(h:ShAt SA TA BA f M X a g D w){k:Nat}(hk:M k):f.B<=k:=by
 obtain⟨M1,M2,M3,h,rfl⟩:=h;have hl:=h.lo;have hn:=h.lg.ne;rcases hk with rfl|rfl|rfl|h1|h1|h1|⟨h1,_⟩
 ·exact hl.1
 ·omega
 ·exact hl.2.1
 ·exact Nat.le_trans hl.2.2.1 (E.I.lt h.s k h1).1
 ·exact Nat.le_trans hl.2.2.2.1 (E.J.lt h.t k h1).1
 ·exact Nat.le_trans hl.2.2.2.2 (E.V.lt h.v k h1).1
 ·omega
theorem ShAt.lt(E:Env SA TA BA)(h:ShAt SA TA BA f M X a g D w){k:Nat}(hk:M k):k<w.heap.size:=by
 obtain⟨M1,M2,M3,h,rfl⟩:=h;rcases hk with rfl|rfl|rfl|h1|h1|h1|⟨_,cs,fz,h1⟩
 ·exact lt_of_block h.blk
 ·exact Lgs.LbAt.lt h.lg.blk
 ·exact h.lg.drum.lt
 ·exact(E.I.lt h.s k h1).2
 ·exact(E.J.lt h.t k h1).2
 ·exact(E.V.lt h.v k h1).2
 ·exact lt_of_block h1
theorem ShAt.cells(h:ShAt SA TA BA f M X a g D w):ce w f.sb 0 (pz f.pb)/\ce w f.sb 1 (pz f.lb)/\ce w f.sb 2 (pz f.st)/\ce w f.sb 3 (pz f.la)/\ce w f.sb 4 (pz f.ve):=by obtain⟨M1,M2,M3,h,rfl⟩:=h;have:=h.blk;exact⟨Drm.blk_cell this rfl,Drm.blk_cell this rfl,Drm.blk_cell this rfl,Drm.blk_cell this rfl,Drm.blk_cell this rfl⟩
theorem ShAt.nums(h:ShAt SA TA BA f M X a g D w):ce w f.sb 5 (uw X.sp)/\ce w f.sb 6 (ui X.sl)/\ce w f.sb 7 (uw X.np)/\ce w f.sb 8 (ui X.nl)/\ce w f.sb 9 (uw X.bp)/\ce w f.sb 10 (ui X.bl):=by obtain⟨M1,M2,M3,h,rfl⟩:=h;have:=h.blk;exact⟨Drm.blk_cell this rfl,Drm.blk_cell this rfl,Drm.blk_cell this rfl,Drm.blk_cell this rfl,Drm.blk_cell this rfl,Drm.blk_cell this rfl⟩
theorem ShAt.free(h:ShAt SA TA BA f M X a g D w)(k:Nat):w.frozen? ⟨f.sb,k,none⟩=false:=by obtain⟨M1,M2,M3,h,rfl⟩:=h;exact Drm.blk_free h.blk
end Go.Proofs.YtdplfgcoaddbdaaGreat
namespace Go.Proofs.YtdplfgcoaddbdaaGreat
open Go.RowKit
variable {SA:TyS}{TA:TyT}{BA:TyB}
variable {f:Fp}{M:Nat->Prop}{X:Sd}{a:Int}{g:Nat}{D:Drm.Dr}{w w':World}
theorem ShC.setS{M1 M2 M3 N1:Nat->Prop}{S':Sto.Sk}(E:Env SA TA BA)(h:ShC SA TA BA f M1 M2 M3 X a g D w)(hs:SA f.B1 f.st N1 S' w')(hk:Kept M1 w w')(hn:∀i,N1 i->M1 i\/w.heap.size<=i):ShC SA TA BA f N1 M2 M3 {X with S:=S'} a g D w':=
 {blk:=by rw[hk.block f.sb (lt_of_block h.blk) (fun e=>(h.o _ (.inl e)).1 rfl)];exact h.blk
  lg:=lg_kept h.lg hk (fun e=>(h.o _ (.inl e)).2.1 rfl) (fun e=>(h.o _ (.inl e)).2.2 rfl) (fun k _ h2 h3=>E.tS h.s k h3 h2)
  ok:=h.ok
  s:=hs
  t:=E.J.keep h.t hk (fun k h2 h1=>h.d12 k h1 h2)
  v:=E.V.keep h.v hk (fun k h2 h1=>h.d13 k h1 h2)
  d12:=fun k h1 h2=>by
   rcases hn k h1 with e|e
   ·exact h.d12 k e h2
   ·have:=(E.J.lt h.t k h2).2;omega
  d13:=fun k h1 h2=>by
   rcases hn k h1 with e|e
   ·exact h.d13 k e h2
   ·have:=(E.V.lt h.v k h2).2;omega
  d23:=h.d23
  o:=fun k h1=>by
   rcases h1 with h1|h1
   ·rcases hn k h1 with e|e
    ·exact h.o k (.inl e)
    ·have h2:=lt_of_block h.blk;have h3:=Lgs.LbAt.lt h.lg.blk;have h4:=h.lg.drum.lt;exact⟨by omega,by omega,by omega⟩
   ·exact h.o k (.inr h1)
  ne:=h.ne
  lo:=h.lo}
theorem ShC.setT{M1 M2 M3 N2:Nat->Prop}{T':Lat.Tb}(E:Env SA TA BA)(h:ShC SA TA BA f M1 M2 M3 X a g D w)(hs:TA f.B2 f.la N2 T' w')(hk:Kept M2 w w')(hn:∀i,N2 i->M2 i\/w.heap.size<=i):ShC SA TA BA f M1 N2 M3 {X with T:=T'} a g D w':=
 {blk:=by rw[hk.block f.sb (lt_of_block h.blk) (fun e=>(h.o _ (.inr (.inl e))).1 rfl)];exact h.blk
  lg:=lg_kept h.lg hk (fun e=>(h.o _ (.inr (.inl e))).2.1 rfl) (fun e=>(h.o _ (.inr (.inl e))).2.2 rfl) (fun k _ h2 h3=>(E.tT h.t k h3).1 h2)
  ok:=h.ok
  s:=E.I.keep h.s hk (fun k h1 h2=>h.d12 k h1 h2) (fun k h2=>(E.tT h.t k h2).2)
  t:=hs
  v:=E.V.keep h.v hk (fun k h2 h1=>h.d23 k h1 h2)
  d12:=fun k h1 h2=>by
   rcases hn k h2 with e|e
   ·exact h.d12 k h1 e
   ·have:=(E.I.lt h.s k h1).2;omega
  d13:=h.d13
  d23:=fun k h1 h2=>by
   rcases hn k h1 with e|e
   ·exact h.d23 k e h2
   ·have:=(E.V.lt h.v k h2).2;omega
  o:=fun k h1=>by
   rcases h1 with h1|h1|h1
   ·exact h.o k (.inl h1)
   ·rcases hn k h1 with e|e
    ·exact h.o k (.inr (.inl e))
    ·have h2:=lt_of_block h.blk;have h3:=Lgs.LbAt.lt h.lg.blk;have h4:=h.lg.drum.lt;exact⟨by omega,by omega,by omega⟩
   ·exact h.o k (.inr (.inr h1))
  ne:=h.ne
  lo:=h.lo}
theorem ShC.setV{M1 M2 M3 N3:Nat->Prop}{K':Ver.Bk}(E:Env SA TA BA)(h:ShC SA TA BA f M1 M2 M3 X a g D w)(hs:BA f.B3 f.ve N3 K' w')(hk:Kept M3 w w')(hn:∀i,N3 i->M3 i\/w.heap.size<=i):ShC SA TA BA f M1 M2 N3 {X with K:=K'} a g D w':=
 {blk:=by rw[hk.block f.sb (lt_of_block h.blk) (fun e=>(h.o _ (.inr (.inr e))).1 rfl)];exact h.blk
  lg:=lg_kept h.lg hk (fun e=>(h.o _ (.inr (.inr e))).2.1 rfl) (fun e=>(h.o _ (.inr (.inr e))).2.2 rfl) (fun k _ h2 h3=>(E.tV h.v k h3).1 h2)
  ok:=h.ok
  s:=E.I.keep h.s hk (fun k h1 h2=>h.d13 k h1 h2) (fun k h2=>(E.tV h.v k h2).2)
  t:=E.J.keep h.t hk (fun k h1 h2=>h.d23 k h1 h2)
  v:=hs
  d12:=h.d12
  d13:=fun k h1 h2=>by
   rcases hn k h2 with e|e
   ·exact h.d13 k h1 e
   ·have:=(E.I.lt h.s k h1).2;omega
  d23:=fun k h1 h2=>by
   rcases hn k h2 with e|e
   ·exact h.d23 k h1 e
   ·have:=(E.J.lt h.t k h1).2;omega
  o:=fun k h1=>by
   rcases h1 with h1|h1|h1
   ·exact h.o k (.inl h1)
   ·exact h.o k (.inr (.inl h1))
   ·rcases hn k h1 with e|e
    ·exact h.o k (.inr (.inr e))
    ·have h2:=lt_of_block h.blk;have h3:=Lgs.LbAt.lt h.lg.blk;have h4:=h.lg.drum.lt;exact⟨by omega,by omega,by omega⟩
  ne:=h.ne
  lo:=h.lo}
theorem ShC.setL{M1 M2 M3:Nat->Prop}{a':Int}{g':Nat}{D':Drm.Dr}(E:Env SA TA BA)(h:ShC SA TA BA f M1 M2 M3 X a g D w)(hl:Lgs.LgAt f.lb f.pb a' g' D' w')(hD:D'.Ok)(hk:Kept (fun k=>k=f.lb\/k=f.pb\/(f.pb<=k/\ByR w k)) w w'):ShC SA TA BA f M1 M2 M3 X a' g' D' w':=by
 have hb:¬ByR w f.sb:=fun⟨cs,fz,e⟩=>by have:=h.blk;rw[e]at this;injection this with this;injection this with _ this _;exact absurd this (by decide)
 have nl:Sto.NoVe w f.lb:=Sto.noVe_tag h.lg.blk (by intro cs fz e;injection e with _ e _;exact absurd e (by decide));have np:Sto.NoVe w f.pb:=by obtain⟨vs,hd⟩:=h.lg.drum;exact Sto.noVe_tag hd.blk (by intro cs fz e;injection e with _ e _;exact absurd e (by decide))
 have hv:∀k,(k=f.lb\/k=f.pb\/(f.pb<=k/\ByR w k))->Sto.NoVe w k:=fun k hk=>by
  rcases hk with rfl|rfl|⟨_,cs,fz,e⟩
  ·exact nl
  ·exact np
  ·exact Sto.noVe_tag e (by intro cs fz e;injection e with _ e _;exact absurd e (by decide))
 exact
 {h with
  blk:=by
   rw[hk.block f.sb (lt_of_block h.blk) (fun e=>?_)]
   ·exact h.blk
   ·rcases e with e|e|e
    ·exact h.ne.1 e
    ·exact h.ne.2 e
    ·exact hb e.2
  lg:=hl
  ok:=hD
  s:=E.I.keep h.s hk (fun k h1 h2=>by
   rcases h2 with e|e|e
   ·exact(h.o k (.inl h1)).2.1 e
   ·exact(h.o k (.inl h1)).2.2 e
   ·exact E.tS h.s k h1 e.2) hv
  t:=E.J.keep h.t hk (fun k h1 h2=>by
   rcases h2 with e|e|e
   ·exact(h.o k (.inr (.inl h1))).2.1 e
   ·exact(h.o k (.inr (.inl h1))).2.2 e
   ·exact(E.tT h.t k h1).1 e.2)
  v:=E.V.keep h.v hk (fun k h1 h2=>by
   rcases h2 with e|e|e
   ·exact(h.o k (.inr (.inr h1))).2.1 e
   ·exact(h.o k (.inr (.inr h1))).2.2 e
   ·exact(E.tV h.v k h1).1 e.2)}
theorem ShC.setN{M1 M2 M3:Nat->Prop}{X':Sd}(E:Env SA TA BA)(h:ShC SA TA BA f M1 M2 M3 X a g D w)(hb:w'.heap[f.sb]?=some (.cells (shc f X') 87 (0,0)))(hk:Kept (fun k=>k=f.sb) w w')(hS:X'.S=X.S)(hT:X'.T=X.T)(hK:X'.K=X.K):ShC SA TA BA f M1 M2 M3 X' a g D w':=by
 have nv:∀k,k=f.sb->Sto.NoVe w k:=fun k e=>by subst e;exact Sto.noVe_tag h.blk (by intro cs fz e;injection e with _ e _;exact absurd e (by decide))
 have nb:¬ByR w f.sb:=fun⟨cs,fz,e⟩=>by have:=h.blk;rw[e]at this;injection this with this;injection this with _ this _;exact absurd this (by decide)
 exact
 {blk:=hb,lg:=lg_kept h.lg hk (fun e=>h.ne.1 e.symm) (fun e=>h.ne.2 e.symm) (fun k _ h2 e=>nb (e▸h2)),ok:=h.ok,s:=hS▸E.I.keep h.s hk (fun k h1 e=>(h.o k (.inl h1)).1 e) nv,t:=hT▸E.J.keep h.t hk (fun k h1 e=>(h.o k (.inr (.inl h1))).1 e),v:=hK▸E.V.keep h.v hk (fun k h1 e=>(h.o k (.inr (.inr h1))).1 e),d12:=h.d12,d13:=h.d13,d23:=h.d23,o:=h.o,ne:=h.ne,lo:=h.lo}
theorem In_sub{M1 M2 M3 N1 N2 N3 G:Nat->Prop}(hk:Kept G w w')(hg:∀k,G k->f.In M1 M2 M3 w k)(h1:∀i,N1 i->M1 i\/w.heap.size<=i)(h2:∀i,N2 i->M2 i\/w.heap.size<=i)(h3:∀i,N3 i->M3 i\/w.heap.size<=i):∀i,f.In N1 N2 N3 w' i->f.In M1 M2 M3 w i\/w.heap.size<=i:=fun k h=>by
 rcases h with h|h|h|h|h|h|⟨h4,h5⟩
 ·exact .inl (.inl h)
 ·exact .inl (.inr (.inl h))
 ·exact .inl (.inr (.inr (.inl h)))
 ·exact(h1 k h).imp (fun e=>.inr (.inr (.inr (.inl e)))) id
 ·exact(h2 k h).imp (fun e=>.inr (.inr (.inr (.inr (.inl e))))) id
 ·exact(h3 k h).imp (fun e=>.inr (.inr (.inr (.inr (.inr (.inl e)))))) id
 ·by_cases hs:w.heap.size<=k
  ·exact .inr hs
  ·by_cases hgk:G k
   ·exact .inl (hg k hgk)
   ·exact .inl (.inr (.inr (.inr (.inr (.inr (.inr ⟨h4,byr_kept hk h5 (by omega) hgk⟩))))))
theorem to_s{M1 M2 M3 N1:Nat->Prop}{S':Sto.Sk}(E:Env SA TA BA)(h:ShC SA TA BA f M1 M2 M3 X a g D w)(hs:SA f.B1 f.st N1 S' w')(hk:Kept M1 w w')(hn:∀i,N1 i->M1 i\/w.heap.size<=i):ShTo SA TA BA f (f.In M1 M2 M3 w) w {X with S:=S'} a g D w':=
 ⟨_,⟨N1,M2,M3,h.setS E hs hk hn,rfl⟩,hk.mono (fun i e=>.inr (.inr (.inr (.inl e)))),In_sub hk (fun i e=>.inr (.inr (.inr (.inl e)))) hn (fun _=>.inl) (fun _=>.inl)⟩
theorem to_t{M1 M2 M3 N2:Nat->Prop}{T':Lat.Tb}(E:Env SA TA BA)(h:ShC SA TA BA f M1 M2 M3 X a g D w)(hs:TA f.B2 f.la N2 T' w')(hk:Kept M2 w w')(hn:∀i,N2 i->M2 i\/w.heap.size<=i):ShTo SA TA BA f (f.In M1 M2 M3 w) w {X with T:=T'} a g D w':=
 ⟨_,⟨M1,N2,M3,h.setT E hs hk hn,rfl⟩,hk.mono (fun i e=>.inr (.inr (.inr (.inr (.inl e))))),In_sub hk (fun i e=>.inr (.inr (.inr (.inr (.inl e))))) (fun _=>.inl) hn (fun _=>.inl)⟩
theorem to_v{M1 M2 M3 N3:Nat->Prop}{K':Ver.Bk}(E:Env SA TA BA)(h:ShC SA TA BA f M1 M2 M3 X a g D w)(hs:BA f.B3 f.ve N3 K' w')(hk:Kept M3 w w')(hn:∀i,N3 i->M3 i\/w.heap.size<=i):ShTo SA TA BA f (f.In M1 M2 M3 w) w {X with K:=K'} a g D w':=
 ⟨_,⟨M1,M2,N3,h.setV E hs hk hn,rfl⟩,hk.mono (fun i e=>.inr (.inr (.inr (.inr (.inr (.inl e)))))),In_sub hk (fun i e=>.inr (.inr (.inr (.inr (.inr (.inl e)))))) (fun _=>.inl) (fun _=>.inl) hn⟩
theorem to_l{M1 M2 M3:Nat->Prop}{a':Int}{g':Nat}{D':Drm.Dr}(E:Env SA TA BA)(h:ShC SA TA BA f M1 M2 M3 X a g D w)(hl:Lgs.LgAt f.lb f.pb a' g' D' w')(hD:D'.Ok)(hk:Kept (fun k=>k=f.lb\/k=f.pb\/(f.pb<=k/\ByR w k)) w w'):ShTo SA TA BA f (f.In M1 M2 M3 w) w X a' g' D' w':=by
 have hi:∀k,(k=f.lb\/k=f.pb\/(f.pb<=k/\ByR w k))->f.In M1 M2 M3 w k:=fun k e=>by
  rcases e with e|e|e
  ·exact .inr (.inl e)
  ·exact .inr (.inr (.inl e))
  ·exact .inr (.inr (.inr (.inr (.inr (.inr e)))))
 exact⟨_,⟨M1,M2,M3,h.setL E hl hD hk,rfl⟩,hk.mono hi,In_sub hk hi (fun _=>.inl) (fun _=>.inl) (fun _=>.inl)⟩
theorem to_n{M1 M2 M3:Nat->Prop}{X':Sd}(E:Env SA TA BA)(h:ShC SA TA BA f M1 M2 M3 X a g D w)(hb:w'.heap[f.sb]?=some (.cells (shc f X') 87 (0,0)))(hk:Kept (fun k=>k=f.sb) w w')(hS:X'.S=X.S)(hT:X'.T=X.T)(hK:X'.K=X.K):ShTo SA TA BA f (f.In M1 M2 M3 w) w X' a g D w':=
 ⟨_,⟨M1,M2,M3,h.setN E hb hk hS hT hK,rfl⟩,hk.mono (fun i e=>.inl e),In_sub hk (fun i e=>.inl e) (fun _=>.inl) (fun _=>.inl) (fun _=>.inl)⟩
theorem sh_prune(E:Env SA TA BA)(p l:Int)(h:ShAt SA TA BA f M X a g D w)(ht:Sto.totS X.S<10000):Calls Tryz.prog 74 #[pz f.st,.agg #[uw p,ui l]] w fun e w'=>e=.returned (iw (Sto.goneS p l X.S))/\ShTo SA TA BA f M w {X with S:=Sto.pruneS p l X.S} a g D w':=by obtain⟨M1,M2,M3,h,rfl⟩:=h;refine(E.I.prune p l h.s ht).mono ?_;rintro e w' ⟨rfl,N1,hs,hk,hn⟩;exact⟨rfl,to_s E h hs hk hn⟩
theorem sh_lay(E:Env SA TA BA)(c n sp sl mp ml:Int)(prim:List UInt8)(L:List Wr)(v:Value)(h:ShAt SA TA BA f M X a g D w)(ht:X.T.length<10000)(hv:Lat.WsAt w.heap.size v L w)(hm:0<L.length->∀k,v.ownBlock=some k->¬M k)(h0:0<=mp/\0<=ml):Calls Tryz.prog 70 #[pz f.la,.agg #[ui c,ui n],.agg #[uw sp,ui sl],.agg #[uw mp,ui ml],sd prim,v] w fun e w'=>e=.returned (iw (Lat.layF (Lat.rightB sp sl&&Lat.rightB mp ml&&kOk prim) c n sp sl mp ml prim L X.T).2)/\ShTo SA TA BA f M w {X with T:=(Lat.layF (Lat.rightB sp sl&&Lat.rightB mp ml&&kOk prim) c n sp sl mp ml prim L X.T).1} a g D w':=by obtain⟨M1,M2,M3,h,rfl⟩:=h;refine(E.J.lay c n sp sl mp ml prim L v h.t ht hv (fun h1 k hk hm2=>hm h1 k hk (.inr (.inr (.inr (.inr (.inl hm2)))))) h0).mono ?_;rintro e w' ⟨rfl,N2,hs,hk,hn⟩;exact⟨rfl,to_t E h hs hk hn⟩
theorem sh_cut(E:Env SA TA BA)(c n:Int)(h:ShAt SA TA BA f M X a g D w)(ht:X.T.length<10000):Calls Tryz.prog 73 #[pz f.la,.agg #[ui c,ui n]] w fun e w'=>∃v',e=.returned v'/\Lat.IsAt w'.heap.size v' (Lat.byF c n X.T) w'/\(∀k,v'.ownBlock=some k->w.heap.size<=k)/\ShTo SA TA BA f M w {X with T:=Lat.restF c n X.T} a g D w':=by obtain⟨M1,M2,M3,h,rfl⟩:=h;refine(E.J.cut c n h.t ht).mono ?_;rintro e w' ⟨v',N2,rfl,hi,hv,hs,hk,hn⟩;exact⟨v',rfl,hi,hv,to_t E h hs hk hn⟩
theorem sh_raise(E:Env SA TA BA)(c n mp ml:Int)(h:ShAt SA TA BA f M X a g D w)(ht:X.T.length<10000)(h0:0<=mp/\0<=ml):Calls Tryz.prog 80 #[pz f.la,.agg #[ui c,ui n],.agg #[uw mp,ui ml]] w fun e w'=>e=.returned (.bool (Lat.rseB c n mp ml X.T))/\ShTo SA TA BA f M w {X with T:=Lat.rseF c n mp ml X.T} a g D w':=by obtain⟨M1,M2,M3,h,rfl⟩:=h;refine(E.J.raise c n mp ml h.t ht h0).mono ?_;rintro e w' ⟨rfl,N2,hs,hk,hn⟩;exact⟨rfl,to_t E h hs hk hn⟩
theorem sh_first(E:Env SA TA BA)(lo hi:List UInt8)(ap aq:Int)(but:List (Int×Int))(v:Value)(h:ShAt SA TA BA f M X a g D w)(ht:X.T.length<10000)(hv:Lat.TsAt w.heap.size v but w):Calls Tryz.prog 158 #[pz f.la,sd lo,sd hi,.agg #[uw ap,ui aq],v] w fun e w'=>e=.returned (Lat.fsV (Lat.firstF lo hi ap aq but X.T))/\Below w.heap.size w w':=by obtain⟨M1,M2,M3,h,rfl⟩:=h;exact E.J.first lo hi ap aq but v h.t ht hv
theorem sh_iof(E:Env SA TA BA)(k:List UInt8)(h:ShAt SA TA BA f M X a g D w)(ht:X.T.length<10000):Calls Tryz.prog 105 #[pz f.la,sd k] w fun e w'=>e=.returned (Lat.ofV k (getF k X.T))/\Below w.heap.size w w':=by obtain⟨M1,M2,M3,h,rfl⟩:=h;exact E.J.of k h.t ht
theorem sh_by(E:Env SA TA BA)(c n:Int)(h:ShAt SA TA BA f M X a g D w)(ht:X.T.length<10000):Calls Tryz.prog 144 #[pz f.la,.agg #[ui c,ui n]] w fun e w'=>∃v',e=.returned v'/\Lat.IsAt w'.heap.size v' (Lat.byF c n X.T) w'/\(∀k,v'.ownBlock=some k->w.heap.size<=k)/\Below w.heap.size w w':=by obtain⟨M1,M2,M3,h,rfl⟩:=h;exact E.J.by_ c n h.t ht
theorem sh_iall(E:Env SA TA BA)(h:ShAt SA TA BA f M X a g D w)(ht:X.T.length<10000):Calls Tryz.prog 25 #[pz f.la] w fun e w'=>∃v',e=.returned v'/\Lat.IsAt w'.heap.size v' X.T w'/\(∀k,v'.ownBlock=some k->w.heap.size<=k/\∃cs,w'.heap[k]?=some (.cells cs 69 (0,0)))/\Below w.heap.size w w':=by obtain⟨M1,M2,M3,h,rfl⟩:=h;exact E.J.all h.t ht
theorem sh_get(E:Env SA TA BA)(k:List UInt8)(p l:Int)(h:ShAt SA TA BA f M X a g D w)(ht:Sto.totS X.S<10000):Calls Tryz.prog 85 #[pz f.st,sd k,.agg #[uw p,ui l]] w fun e w'=>e=.returned (.tuple #[.string (bs (Sto.getV (Sto.seeF (Sto.chainF k X.S) p l)).1),.bool (Sto.getV (Sto.seeF (Sto.chainF k X.S) p l)).2])/\Below w.heap.size w w':=by obtain⟨M1,M2,M3,h,rfl⟩:=h;exact E.I.get k p l h.s ht
theorem sh_newest(E:Env SA TA BA)(k:List UInt8)(h:ShAt SA TA BA f M X a g D w)(ht:Sto.totS X.S<10000):Calls Tryz.prog 163 #[pz f.st,sd k] w fun e w'=>e=.returned (.agg #[uw (Sto.newF (Sto.chainF k X.S)).1,ui (Sto.newF (Sto.chainF k X.S)).2])/\Below w.heap.size w w':=by obtain⟨M1,M2,M3,h,rfl⟩:=h;exact E.I.newest k h.s ht
theorem sh_count(E:Env SA TA BA)(k:List UInt8)(h:ShAt SA TA BA f M X a g D w)(ht:Sto.totS X.S<10000):Calls Tryz.prog 164 #[pz f.st,sd k] w fun e w'=>e=.returned (iw (Sto.chainF k X.S).length)/\Below w.heap.size w w':=by obtain⟨M1,M2,M3,h,rfl⟩:=h;exact E.I.count k h.s ht
theorem sh_items(E:Env SA TA BA)(h:ShAt SA TA BA f M X a g D w)(ht:Sto.totS X.S<10000):Calls Tryz.prog 24 #[pz f.st] w fun e w'=>∃v' L,e=.returned v'/\Sto.ItAt v' L X.S w'/\(∀k,v'.ownBlock=some k->w.heap.size<=k/\∃cs,w'.heap[k]?=some (.cells cs 65 (0,0)))/\Below w.heap.size w w':=by obtain⟨M1,M2,M3,h,rfl⟩:=h;exact E.I.items h.s ht
theorem sh_set(E:Env SA TA BA)(v:Ver.Vd)(h:ShAt SA TA BA f M X a g D w)(ht:X.K.length<10000)(hv:Ver.RgV v):Calls Tryz.prog 72 #[pz f.ve,.agg (vdC v)] w fun e w'=>e=.returned (iw (Ver.setB v X.K).2)/\ShTo SA TA BA f M w {X with K:=(Ver.setB v X.K).1} a g D w':=by obtain⟨M1,M2,M3,h,rfl⟩:=h;refine(E.V.set v h.v ht hv).mono ?_;rintro e w' ⟨rfl,N2,hs,hk,hn⟩;exact⟨rfl,to_v E h hs hk hn⟩
theorem sh_done(E:Env SA TA BA)(c n:Int)(h:ShAt SA TA BA f M X a g D w)(ht:X.K.length<10000)(hv:Ver.R32 c/\Ver.R32 n):Calls Tryz.prog 77 #[pz f.ve,.agg #[ui c,ui n]] w fun e w'=>e=.returned (.bool (Ver.doneB c n X.K).2)/\ShTo SA TA BA f M w {X with K:=(Ver.doneB c n X.K).1} a g D w':=by obtain⟨M1,M2,M3,h,rfl⟩:=h;refine(E.V.done c n h.v ht hv).mono ?_;rintro e w' ⟨rfl,N2,hs,hk,hn⟩;exact⟨rfl,to_v E h hs hk hn⟩
theorem sh_retire(E:Env SA TA BA)(sp sl:Int)(L:List (Int×Int))(v:Value)(h:ShAt SA TA BA f M X a g D w)(ht:X.K.length<10000)(hs:Ver.R64 sp/\Ver.R32 sl)(hL:Ver.RgT L)(hz:L.length*8<=140737488355328)(hv:Ver.TsAt w.heap.size v L w)(hm:0<L.length->∀k,v.ownBlock=some k->¬M k):Calls Tryz.prog 75 #[pz f.ve,.agg #[uw sp,ui sl],v] w fun e w'=>e=.returned (iw ((X.K.length-(Ver.retB sp sl L X.K).length:Nat):Int))/\ShTo SA TA BA f M w {X with K:=Ver.retB sp sl L X.K} a g D w':=by obtain⟨M1,M2,M3,h,rfl⟩:=h;refine(E.V.retire sp sl L v h.v ht hs hL hz hv (fun h1 k hk hm2=>hm h1 k hk (.inr (.inr (.inr (.inr (.inr (.inl hm2)))))))).mono ?_;rintro e w' ⟨rfl,N2,hs,hk,hn⟩;exact⟨rfl,to_v E h hs hk hn⟩
theorem sh_vof(E:Env SA TA BA)(c n:Int)(h:ShAt SA TA BA f M X a g D w)(ht:X.K.length<10000)(hv:Ver.R32 c/\Ver.R32 n):Calls Tryz.prog 97 #[pz f.ve,.agg #[ui c,ui n]] w fun e w'=>e=.returned (Ver.ofV (Ver.getB c n X.K))/\Below w.heap.size w w':=by obtain⟨M1,M2,M3,h,rfl⟩:=h;exact E.V.of c n h.v ht hv
theorem sh_append(E:Env SA TA BA)(r:List UInt8)(h:ShAt SA TA BA f M X a g D w):Calls Tryz.prog 168 #[pz f.lb,sd r] w fun e w'=>e=.returned (iw (Lgs.appendF D a r).1)/\ShTo SA TA BA f M w X a g (Lgs.appendF D a r).2 w':=by obtain⟨M1,M2,M3,h,rfl⟩:=h;refine(Lgs.append18 f.lb f.pb g a D r w h.lg h.ok).mono ?_;rintro e w' ⟨rfl,hl,hk⟩;exact⟨rfl,to_l E h hl (Lgs.appendF_ok h.ok a r) ((drm_kept hk).mono fun k e=>.inr e)⟩
theorem sh_down(h:ShAt SA TA BA f M X a g D w):Calls Tryz.prog 35 #[pz f.pb] w fun e w'=>e=.returned (.bool D.down)/\w=w':=by obtain⟨M1,M2,M3,h,rfl⟩:=h;obtain⟨vs,hd⟩:=h.lg.drum;exact Drm.down13 f.pb D.down w (Drm.blk_cell hd.blk rfl)
end Go.Proofs.YtdplfgcoaddbdaaGreat
namespace Go.Proofs.YtdplfgcoaddbdaaGreat
open Go.RowKit
variable {SA:TyS}{TA:TyT}{BA:TyB}
variable {f:Fp}{M M1 M2 M3:Nat->Prop}{X:Sd}{a:Int}{g:Nat}{D:Drm.Dr}{w w':World}
def PutTo(SA:TyS)(TA:TyT)(BA:TyB)(f:Fp)(M1 M2 M3:Nat->Prop)(X:Sd)(a:Int)(g:Nat)(D:Drm.Dr)(w w':World):Prop:=∃N1,ShC SA TA BA f N1 M2 M3 X a g D w'/\Kept M1 w w'/\∀i,N1 i->M1 i\/w.heap.size<=i
theorem kept_obj{G:Nat->Prop}{b:Nat}{o:Obj}(h:w.heap[b]?=some o)(hk:Kept G w w')(hn:¬G b):w'.heap[b]?=some o:=by rw[hk.block b (lt_of_block h) hn];exact h
def Has(L:List (Nat×Obj))(W:World):Prop:=∀p∈L,W.heap[p.1]?=some p.2
theorem Has.kept{L:List (Nat×Obj)}{G:Nat->Prop}(h:Has L w)(hk:Kept G w w')(hn:∀p∈L,¬G p.1):Has L w':=fun p hp=>kept_obj (h p hp) hk (hn p hp)
theorem Has.on{L:List (Nat×Obj)}(h:Has L w)(hb:Below w.heap.size w w'):Has L w':=h.kept (G:=fun _=>False) (Kept.of_below hb) (fun _ _ e=>e)
theorem Has.lt{L:List (Nat×Obj)}(h:Has L w):∀p∈L,p.1<w.heap.size:=fun p hp=>lt_of_block (h p hp)
theorem Has.new{L:List (Nat×Obj)}(h:Has L w)(o:Obj):Has ((w.heap.size,o)::L) (w.alloc o):=fun p hp=>by
 rcases List.mem_cons.1 hp with rfl|hp
 ·exact heap_alloc_new w o
 ·rw[Below.heap_alloc w o _ (lt_of_block (h p hp))];exact h p hp
theorem Has.cell{L:List (Nat×Obj)}{b k:Nat}{cs:Array Value}{ty:TypeId}{u:Value}(h:Has L w)(hp:(b,Obj.cells cs ty (0,0))∈L)(hk:cs[k]?=some u):ce w b k u:=Drm.blk_cell (h _ hp) hk
theorem Has.one{b:Nat}{o:Obj}(h:w.heap[b]?=some o):Has [(b,o)] w:=fun p hp=>by simp only[List.mem_singleton]at hp;subst hp;exact h
structure Bo(w:World)(L:List (Nat×Obj))(W:World):Prop where
 has:Has L W
 bel:Below w.heap.size w W
theorem Bo.one{b:Nat}{o:Obj}(h:w.heap[b]?=some o):Bo w [(b,o)] w:=⟨Has.one h,Below.refl _ _⟩
theorem Bo.new{W:World}{L:List (Nat×Obj)}(h:Bo w L W)(o:Obj):Bo w ((W.heap.size,o)::L) (W.alloc o):=⟨h.has.new o,h.bel.alloc h.bel.size o⟩
theorem Bo.on{W W':World}{L:List (Nat×Obj)}(h:Bo w L W)(hb:Below W.heap.size W W'):Bo w L W':=⟨h.has.on hb,h.bel.trans (hb.mono h.bel.size)⟩
theorem Bo.drew{W:World}{L:List (Nat×Obj)}(h:Bo w L W):Bo w L W.drew:=⟨h.has,h.bel.drew⟩
theorem put88(E:Env SA TA BA)(c n ap al:Int)(key val:List UInt8)(dead:Bool)(h:ShC SA TA BA f M1 M2 M3 X a g D w)(ht:Sto.totS X.S<10000):
  Calls Tryz.prog 78 #[pz f.sb,.agg #[ui c,ui n],.agg #[uw ap,ui al],.agg #[sd key,sd val,.bool dead]] w fun e w'=>e=.returned (.tuple #[])/\PutTo SA TA BA f M1 M2 M3 {X with S:=(Sto.putS key ⟨ap,al,c,n,val,dead⟩ X.S).1} a g D w w':=by
 have CP:Hid (∀W,Below w.heap.size w W->Calls Tryz.prog 154 #[pz f.st,sd key,.agg #[uw ap,ui al,ui c,ui n,sd val,.bool dead]] W fun e w'=>∃r,e=.returned (iw r)/\PutTo SA TA BA f M1 M2 M3 {X with S:=(Sto.putS key ⟨ap,al,c,n,val,dead⟩ X.S).1} a g D w w'/\Kept M1 W w'):=fun W hb=>by have hW:=h.on E hb;refine(E.I.put key ⟨ap,al,c,n,val,dead⟩ hW.s ht).mono ?_;rintro e w' ⟨rfl,N1,hs,hk,hn⟩;exact⟨_,rfl,⟨N1,hW.setS E hs hk hn,(Kept.of_below hb).trans hk (fun _ e=>.inl e),fun i hi=>(hn i hi).imp id (fun e=>Nat.le_trans hb.size e)⟩,hk⟩
 have HB:Hid (w.heap[f.sb]?=some (.cells (shc f X) 87 (0,0))/\¬M1 f.sb):=⟨h.blk,fun e=>(h.o _ (.inl e)).1 rfl⟩;have HM:Hid (∀k,M1 k->k<w.heap.size):=fun k hk=>(E.I.lt h.s k hk).2;generalize PutTo SA TA BA f M1 M2 M3 {X with S:=(Sto.putS key ⟨ap,al,c,n,val,dead⟩ X.S).1} a g D w=Q at*;have hsb:=lt_of_block HB.out.1;clear h ht E;have HC:Hid ((shc f X)[2]?=some (pz f.st)):=rfl;generalize shc f X=sc at*;generalize f.sb=sb at*;generalize f.st=st at*;have H0:Hid (Bo w [(w.heap.size+1+1,.cells #[sd key,sd val,.bool dead] 67),(w.heap.size+1,.cells #[uw ap,ui al] 28),(w.heap.size,.cells #[ui c,ui n] 26),(sb,.cells sc 87)] (((w.alloc (.cells #[ui c,ui n] 26)).alloc (.cells #[uw ap,ui al] 28)).alloc (.cells #[sd key,sd val,.bool dead] 67))):=by show Bo _ _ _;have h1:=(((Bo.one HB.out.1).new (.cells #[ui c,ui n] 26)).new (.cells #[uw ap,ui al] 28)).new (.cells #[sd key,sd val,.bool dead] 67);simpa using h1
 go_enter Tryz.func78,Tryz.ntmps78;go_wp2_with fail;generalize ((w.alloc (.cells #[ui c,ui n] 26)).alloc (.cells #[uw ap,ui al] 28)).alloc (.cells #[sd key,sd val,.bool dead] 67)=W3 at*;obtain⟨L,hL⟩:∃L,L=[(w.heap.size+1+1,Obj.cells #[sd key,sd val,.bool dead] 67),(w.heap.size+1,.cells #[uw ap,ui al] 28),(w.heap.size,.cells #[ui c,ui n] 26),(sb,.cells sc 87)]:=⟨_,rfl⟩;rw[<-hL]at H0;have HN:Hid (∀p∈L,¬M1 p.1):=fun p hp e=>by
  have h1:=HM.out _ e;rw[hL]at hp;simp only[List.mem_cons,List.not_mem_nil,or_false]at hp;rcases hp with rfl|rfl|rfl|rfl
  ·dsimp only at h1;omega
  ·dsimp only at h1;omega
  ·dsimp only at h1;omega
  ·exact HB.out.2 e
 have SO:Hid (∀W,Has L W->ce W sb 2 (pz st)/\ce W w.heap.size 0 (ui c)/\ce W w.heap.size 1 (ui n)/\ce W (w.heap.size+1) 0 (uw ap)/\ce W (w.heap.size+1) 1 (ui al)/\ce W (w.heap.size+1+1) 0 (sd key)/\ce W (w.heap.size+1+1) 1 (sd val)/\ce W (w.heap.size+1+1) 2 (.bool dead)/\Hid (Has L W)):=fun W hW=>by subst hL;exact⟨hW.cell (.tail _ (.tail _ (.tail _ (.head _)))) HC.out,hW.cell (.tail _ (.tail _ (.head _))) rfl,hW.cell (.tail _ (.tail _ (.head _))) rfl,hW.cell (.tail _ (.head _)) rfl,hW.cell (.tail _ (.head _)) rfl,hW.cell (.head _) rfl,hW.cell (.head _) rfl,hW.cell (.head _) rfl,hW⟩
 clear hL HM HB HC hsb;go_region_held3 (fun W=>ce W sb 2 (pz st)/\ce W w.heap.size 0 (ui c)/\ce W w.heap.size 1 (ui n)/\ce W (w.heap.size+1) 0 (uw ap)/\ce W (w.heap.size+1) 1 (ui al)/\ce W (w.heap.size+1+1) 0 (sd key)/\ce W (w.heap.size+1+1) 1 (sd val)/\ce W (w.heap.size+1+1) 2 (.bool dead)/\Hid (Has L W)) (first|exact SO.out _ H0.out.has|exact SO.out _ H0.out.drew.has|exact SO.out _ H2.out.2) (first|(go_at_call 154;refine(CP.out _ H0.out.drew.bel).mono ?_;rintro e w2 ⟨r,rfl,hq,hk⟩;have H2:Hid (Q w2/\Has L w2):=⟨hq,H0.out.drew.has.kept hk HN.out⟩;clear hq hk))
 go_wp2_with fail;go_end0
 exact⟨rfl,H2.out.1⟩
theorem rw_keep{B size n:Nat}{v:Value}{cs:List Value}{G:Nat->Prop}(h:RwAt B size v n cs w)(hk:Kept G w w')(hn:∀k,v.ownBlock=some k->¬G k):RwAt B size v n cs w':=by obtain⟨ao,cap,rfl,h1,h2,h3,h4⟩:=h;refine⟨ao,cap,rfl,h1,h2,h3,fun h0=>?_⟩;obtain⟨b,off,rfl,h5,h6⟩:=h4 h0;exact⟨b,off,rfl,h5,fun j u hj=>hk.cell (h6 j u hj) (hn b rfl)⟩
theorem to_all{N1 N2 N3:Nat->Prop}{X':Sd}{a':Int}{g':Nat}{D':Drm.Dr}(h:ShC SA TA BA f N1 N2 N3 X' a' g' D' w')(hk:Kept (f.In M1 M2 M3 w) w w')(h1:∀i,N1 i->M1 i\/w.heap.size<=i)(h2:∀i,N2 i->M2 i\/w.heap.size<=i)(h3:∀i,N3 i->M3 i\/w.heap.size<=i):ShTo SA TA BA f (f.In M1 M2 M3 w) w X' a' g' D' w':=
 ⟨_,⟨N1,N2,N3,h,rfl⟩,hk,In_sub hk (fun _ h=>h) h1 h2 h3⟩
theorem puts_snoc(c n ap al:Int):∀(L:Lat.Tb) (x:List UInt8×Lat.Ii) (S:Sto.Sk),putsF c n ap al (L++[x]) S=(Sto.putS x.1 (veI c n ap al x) (putsF c n ap al L S)).1
 |[],_,_=>rfl
 |y::L,x,S=>by show putsF c n ap al (L++[x]) _=_;rw[puts_snoc c n ap al L x];rfl
theorem puts_sok{c n ap al:Int}:∀{L:Lat.Tb} {S:Sto.Sk},Sto.SOk S->Sto.SOk (putsF c n ap al L S)
 |[],_,h=>h
 |x::L,S,h=>by show Sto.SOk (putsF c n ap al L _);exact puts_sok (Sto.put_sok h _ _)
theorem puts_tot{c n ap al:Int}:∀{L:Lat.Tb} {S:Sto.Sk},Sto.SOk S->Sto.totS (putsF c n ap al L S)<=Sto.totS S+L.length
 |[],_,_=>Nat.le_refl _
 |x::L,S,h=>by have h1:=puts_tot (c:=c) (n:=n) (ap:=ap) (al:=al) (L:=L) (Sto.put_sok h x.1 (veI c n ap al x));have h2:=Sto.tot_put h x.1 (veI c n ap al x);show Sto.totS (putsF c n ap al L _)<=_;simp only[List.length_cons];omega
structure Fx(SA:TyS)(TA:TyT)(BA:TyB)(f:Fp)(M1 N2 M3:Nat->Prop)(X:Sd)(a:Int)(g:Nat)(D:Drm.Dr)(c n ap al:Int)(L:Lat.Tb)(Lo:List (Nat×Obj))(w1:World)(m:Nat)(W:World):Prop where
 sh:PutTo SA TA BA f M1 N2 M3 {X with S:=putsF c n ap al (L.take m) X.S} a g D w1 W
 has:Has Lo W
theorem Fx.step{N2:Nat->Prop}{c n ap al:Int}{L:Lat.Tb}{Lo:List (Nat×Obj)}{w1 W W':World}{m:Nat}{x:List UInt8×Lat.Ii}(hL:L.take (m+1)=L.take m++[x])(h:Fx SA TA BA f M1 N2 M3 X a g D c n ap al L Lo w1 m W){W2:World}(hb:Below W.heap.size W W2){N1:Nat->Prop}(hn:∀i,N1 i->M1 i\/w1.heap.size<=i)(hlt:∀i,N1 i->i<W.heap.size)(hk1:Kept M1 w1 W)
  (hp:PutTo SA TA BA f N1 N2 M3 {X with S:=(Sto.putS x.1 (veI c n ap al x) (putsF c n ap al (L.take m) X.S)).1} a g D W2 W') (hlo:∀p∈Lo,¬N1 p.1):Fx SA TA BA f M1 N2 M3 X a g D c n ap al L Lo w1 (m+1) W':=by
 obtain⟨N,h1,h2,h3⟩:=hp;refine⟨⟨N,?_,?_,fun i hi=>?_⟩,(h.has.on hb).kept h2 hlo⟩
 ·rw[hL,puts_snoc];exact h1
 ·exact(hk1.trans (Kept.of_below (F:=N1) hb) hn).trans h2 hn
 ·rcases h3 i hi with e|e
  ·exact hn i e
  ·exact .inr (Nat.le_trans hk1.size (Nat.le_trans hb.size e))
theorem fix81(E:Env SA TA BA)(c n ap al:Int)(h:ShAt SA TA BA f M X a g D w)(ht:X.wt<9000):
  Calls Tryz.prog 71 #[pz f.sb,.agg #[ui c,ui n],.agg #[uw ap,ui al]] w fun e w'=>e=.returned (.tuple #[])/\ShTo SA TA BA f M w (fixF c n ap al X) a g D w':=by
 obtain⟨M1,M2,M3,h,rfl⟩:=h;have hwt:Sto.totS X.S+X.T.length+X.K.length<9000:=ht;obtain⟨L,hL⟩:∃L,L=Lat.byF c n X.T:=⟨_,rfl⟩;have hll:L.length<=X.T.length:=by rw[hL];exact Lat.len_by c n X.T
 have CC:Hid (∀W,Below w.heap.size w W->Calls Tryz.prog 73 #[pz f.la,.agg #[ui c,ui n]] W fun e w'=>∃ao cap,e=.returned (.slice ao L.length cap)/\L.length<=9000/\Hid (∃N2,ShC SA TA BA f M1 N2 M3 {X with T:=Lat.restF c n X.T} a g D w'/\Kept M2 W w'/\(∀i,N2 i->M2 i\/w.heap.size<=i)/\Lat.IsAt w'.heap.size (.slice ao L.length cap) L w'/\∀k,(Value.slice ao L.length cap).ownBlock=some k->w.heap.size<=k)):=fun W hb=>by have hW:=h.on E hb;refine(E.J.cut c n hW.t (by omega)).mono ?_;rintro e w' ⟨v',N2,rfl,hi,hv,hs,hk,hn⟩;rw[<-hL]at hi;have hi':=hi;obtain⟨ao,cap,rfl,-⟩:=hi';exact⟨ao,cap,rfl,by omega,N2,hW.setT E hs hk hn,hk,fun i hi=>(hn i hi).imp id (fun e=>Nat.le_trans hb.size e),hi,fun k e=>Nat.le_trans hb.size (hv k e)⟩
 have CP:Hid (∀(N1 N2:Nat->Prop) (S:Sto.Sk) (x:List UInt8×Lat.Ii) W,ShC SA TA BA f N1 N2 M3 {X with T:=Lat.restF c n X.T,S:=S} a g D W->Sto.totS S<10000->Calls Tryz.prog 78 #[pz f.sb,.agg #[ui c,ui n],.agg #[uw ap,ui al],.agg #[sd x.1,sd x.2.val,.bool x.2.dead]] W fun e w'=>e=.returned (.tuple #[])/\PutTo SA TA BA f N1 N2 M3 {X with T:=Lat.restF c n X.T,S:=(Sto.putS x.1 (veI c n ap al x) S).1} a g D W w'):=fun N1 N2 S x W hW hS=>put88 E c n ap al x.1 x.2.val x.2.dead hW hS;have HT:Hid (∀m,Sto.totS (putsF c n ap al (L.take m) X.S)<10000):=fun m=>by have h1:=puts_tot (c:=c) (n:=n) (ap:=ap) (al:=al) (L:=L.take m) (E.I.sok h.s);have h2:=List.length_take_le' m L;omega
 have HE:Hid (fixF c n ap al X={X with T:=Lat.restF c n X.T,S:=putsF c n ap al L X.S}):=by rw[hL];rfl
 have HB:Hid (w.heap[f.sb]?=some (.cells (shc f X) 87 (0,0))/\¬M1 f.sb/\¬M2 f.sb):=⟨h.blk,fun e=>(h.o _ (.inl e)).1 rfl,fun e=>(h.o _ (.inr (.inl e))).1 rfl⟩;have HM:Hid ((∀k,M1 k->k<w.heap.size)/\∀k,M2 k->k<w.heap.size):=⟨fun k hk=>(E.I.lt h.s k hk).2,fun k hk=>(E.J.lt h.t k hk).2⟩;have HON:Hid (∀{N1 N2:Nat->Prop} {Y:Sd} {W W':World},ShC SA TA BA f N1 N2 M3 Y a g D W->Below W.heap.size W W'->ShC SA TA BA f N1 N2 M3 Y a g D W'):=fun hh hb=>hh.on E hb;have HI:Hid (∀{N1 N2:Nat->Prop} {Y:Sd} {W:World},ShC SA TA BA f N1 N2 M3 Y a g D W->∀k,N1 k->k<W.heap.size):=fun hh k hk=>(E.I.lt hh.s k hk).2;have HC:Hid ((shc f X)[3]?=some (pz f.la)):=rfl;generalize shc f X=sc at*;rw[HE.out];clear hwt ht hL hll HE h E;generalize hsb:f.sb=sb at*;generalize hla:f.la=la at*;clear hsb hla;have H0:Hid (Bo w [(w.heap.size+1,.cells #[uw ap,ui al] 28),(w.heap.size,.cells #[ui c,ui n] 26),(sb,.cells sc 87)] ((w.alloc (.cells #[ui c,ui n] 26)).alloc (.cells #[uw ap,ui al] 28))):=by show Bo _ _ _;have h1:=((Bo.one HB.out.1).new (.cells #[ui c,ui n] 26)).new (.cells #[uw ap,ui al] 28);simpa using h1
 go_enter Tryz.func71,Tryz.ntmps71;go_wp2_with fail;generalize (w.alloc (.cells #[ui c,ui n] 26)).alloc (.cells #[uw ap,ui al] 28)=W2 at*;obtain⟨Lo,hLo⟩:∃Lo,Lo=[(w.heap.size+1,Obj.cells #[uw ap,ui al] 28),(w.heap.size,.cells #[ui c,ui n] 26),(sb,.cells sc 87)]:=⟨_,rfl⟩;rw[<-hLo]at H0;have HN:Hid (∀p∈Lo,∀N:Nat->Prop,(N sb->False)->(∀k,N k->k<w.heap.size\/W2.heap.size<=k)->¬N p.1):=fun p hp N h0 h1 e=>by
  have h2:=h1 _ e;have h3:=H0.out.has.lt p hp;rw[hLo]at hp;simp only[List.mem_cons,List.not_mem_nil,or_false]at hp;rcases hp with rfl|rfl|rfl
  ·dsimp only at h2 h3;omega
  ·dsimp only at h2 h3;omega
  ·exact h0 e
 have SO:Hid (∀W,Has Lo W->ce W sb 3 (pz la)/\ce W w.heap.size 0 (ui c)/\ce W w.heap.size 1 (ui n)/\Hid (Has Lo W)):=fun W hW=>by subst hLo;exact⟨hW.cell (.tail _ (.tail _ (.head _))) HC.out,hW.cell (.tail _ (.head _)) rfl,hW.cell (.tail _ (.head _)) rfl,hW⟩
 have SO2:Hid (∀W,Has Lo W->ce W w.heap.size 0 (ui c)/\ce W w.heap.size 1 (ui n)/\ce W (w.heap.size+1) 0 (uw ap)/\ce W (w.heap.size+1) 1 (ui al)):=fun W hW=>by subst hLo;exact⟨hW.cell (.tail _ (.head _)) rfl,hW.cell (.tail _ (.head _)) rfl,hW.cell (.head _) rfl,hW.cell (.head _) rfl⟩
 clear hLo HC;go_region_held3 (fun W=>ce W sb 3 (pz la)/\ce W w.heap.size 0 (ui c)/\ce W w.heap.size 1 (ui n)/\Hid (Has Lo W)) (first|exact SO.out _ H0.out.has|exact SO.out _ H0.out.drew.has|exact SO.out _ H1.out) (first|(go_at_call 73;refine(CC.out _ H0.out.drew.bel).mono ?_;rintro e w1 ⟨ao,cap,rfl,hl9,hc⟩;have HCt:Hid _:=hc;have H1:Hid (Has Lo w1):=(by obtain⟨N2,-,hk,-⟩:=hc.out;exact H0.out.drew.has.kept hk (fun p hp=>HN.out p hp M2 HB.out.2.2 (fun k hk=>.inl (HM.out.2 k hk))));clear hc))
 rename_i hHeld;clear hHeld;obtain⟨N2,hsh,hk1,hn1,his,hrow⟩:=HCt.out;have HD:Hid (ShC SA TA BA f M1 N2 M3 {X with T:=Lat.restF c n X.T} a g D w1/\Kept (f.In M1 M2 M3 w) w w1/\(∀i,N2 i->M2 i\/w.heap.size<=i)/\Lat.IsAt w1.heap.size (.slice ao L.length cap) L w1/\(∀k,(Value.slice ao L.length cap).ownBlock=some k->¬M1 k)/\w.heap.size<=w1.heap.size/\W2.heap.size<=w1.heap.size):=
  ⟨hsh,(Kept.of_below H0.out.drew.bel).trans (hk1.mono (fun i e=>(.inr (.inr (.inr (.inr (.inl e)))):f.In M1 M2 M3 w i))) (fun i e=>.inl e),hn1,his,fun k e hm=>by have:=hrow k e;have:=HM.out.1 k hm;omega,Nat.le_trans H0.out.drew.bel.size hk1.size,hk1.size⟩
 have F0:Hid (Fx SA TA BA f M1 N2 M3 {X with T:=Lat.restF c n X.T} a g D c n ap al L Lo w1 0 w1):=⟨⟨M1,hsh,Kept.refl _ _,fun _ e=>.inl e⟩,H1.out⟩;clear hsh hk1 hn1 his hrow HCt CC H0 H1 SO;go_wp2_with fail;go_loopw [15] (fun i wr=>∃m:Nat,m<=L.length/\i=iw m/\Fx SA TA BA f M1 N2 M3 {X with T:=Lat.restF c n X.T} a g D c n ap al L Lo w1 m wr) (fun i _=>L.length-(intOf i).toNat)
 case atStart=>exact⟨0,Nat.zero_le _,rfl,F0.out⟩
 case round=>
  obtain⟨m,hm,rfl,hf⟩:=hrel;have HF:Hid _:=hf;obtain⟨⟨N1,hs1,hk1,hn1⟩,hhas⟩:=hf;by_cases hml:m<L.length
  ·have hml':(m:Int)<L.length:=by omega
   obtain⟨b,off,rfl,e0,e1,e2,e3,e4,e5,e6,e7,e8,e9⟩:=Lat.IsAt.el (rw_keep HD.out.2.2.2.1 hk1 HD.out.2.2.2.2.1) hml;have hT:=Lat.ttk_snoc hml;generalize L.getD m Lat.di=x at*;obtain⟨k,y⟩:=x;dsimp only at e0 e1 e2 e3 e4 e5 e6 e7 e8 e9;have CQ:Hid (∀W,Below wr.heap.size wr W->Calls Tryz.prog 78 #[pz sb,.agg #[ui c,ui n],.agg #[uw ap,ui al],.agg #[sd k,sd y.val,.bool y.dead]] W fun e w'=>e=.returned (.tuple #[])/\Fx SA TA BA f M1 N2 M3 {X with T:=Lat.restF c n X.T} a g D c n ap al L Lo w1 (m+1) w'):=fun W hb=>by
    refine(CP.out N1 N2 _ (k,y) W ?_ (HT.out m)).mono ?_
    ·exact HON.out hs1 hb
    ·rintro e w' ⟨rfl,hp⟩;refine⟨rfl,HF.out.step hT hb hn1 (HI.out hs1) hk1 hp (fun p hp=>HN.out p hp N1 ?_ ?_)⟩
     ·intro e;rcases hn1 _ e with e|e
      ·exact HB.out.2.1 e
      ·have:=lt_of_block HB.out.1;have:=HD.out.2.2.2.2.2.1;omega
     ·intro k hk;rcases hn1 k hk with e|e
      ·exact .inl (HM.out.1 k e)
      ·exact .inr (Nat.le_trans HD.out.2.2.2.2.2.2 e)
   have H4:Hid (Bo wr [(wr.heap.size,.cells (inC k y) 69)] (wr.alloc (.cells (inC k y) 69))):=⟨Has.one (heap_alloc_new _ _),(Below.refl _ _).alloc (Nat.le_refl _) _⟩;obtain⟨W4,hW4⟩:=xj (wr.alloc (.cells (inC k y) 69));rw[hW4]at H4;have zq0:=SO2.out W4 (hhas.on H4.out.bel);have r7:=H4.out.has.cell (.head _) (k:=7) rfl;have r8:=H4.out.has.cell (.head _) (k:=8) rfl;have r9:=H4.out.has.cell (.head _) (k:=9) rfl;have HQ:Hid (m+1<=L.length):=hml;clear hs1 hk1 hn1 hhas hT hm;go_wp2_with fail;refine(CQ.out _ H4.out.bel).mono ?_;rintro e w5 ⟨rfl,hf5⟩;have HF5:Hid _:=hf5;clear hf5 e0 e1 e2 e3 e4 e5 e6 e7 e8 e9 r7 r8 r9 hW4 zq0;go_wp2_with fail;go_roundw
   case rel=>exact⟨m+1,HQ.out,by go_num,HF5.out⟩
   case measure=>simp[intOf];omega
  ·have hml':¬(m:Int)<L.length:=by omega
   have HZ:Hid (L.take m=L):=List.take_of_length_le (by omega);clear hs1 hk1 hn1 hhas hm;go_wp2_with fail;go_end0
   refine⟨rfl,?_⟩;obtain⟨⟨N1,hs1,hk1,hn1⟩,-⟩:=HF.out;rw[HZ.out]at hs1;refine to_all (M1:=M1) (M2:=M2) (M3:=M3) hs1 (HD.out.2.1.trans (hk1.mono (fun i e=>(.inr (.inr (.inr (.inl e))):f.In M1 M2 M3 w i))) (fun i e=>.inl e)) (fun i hi=>(hn1 i hi).imp id (fun e=>Nat.le_trans HD.out.2.2.2.2.2.1 e)) HD.out.2.2.1 (fun _ e=>.inl e)
end Go.Proofs.YtdplfgcoaddbdaaGreat
