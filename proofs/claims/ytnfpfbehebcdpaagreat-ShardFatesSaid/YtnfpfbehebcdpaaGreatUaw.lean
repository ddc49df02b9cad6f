import Derived.Test.YtnfpfbehebcdpaaGreatUat
import Derived.Test.YtnfpfbehebcdpaaGreatUav
set_option maxHeartbeats 0
set_option maxRecDepth 99999
set_option linter.all false
namespace Go.Proofs.YtnfpfbehebcdpaaGreat
open Go.RowKit
def ByR(w:World)(k:Nat):Prop:=∃cs fz,w.heap[k]?=some (.cells cs 5 fz)
structure Env(SA:TyS)(TA:TyT)(BA:TyB):Prop where
 I:Sto.Ifs SA
 J:Lat.Ifl TA
 V:Ver.Ifv BA
 E:Ent.Ife
 tS:∀{B p:Nat} {M:Nat->Prop} {S:Sto.Sk} {w:World},SA B p M S w->∀k,M k->¬ByR w k
 tT:∀{B p:Nat} {M:Nat->Prop} {T:Lat.Tb} {w:World},TA B p M T w->∀k,M k->¬ByR w k/\Sto.NoVe w k
 tV:∀{B p:Nat} {M:Nat->Prop} {K:Ver.Bk} {w:World},BA B p M K w->∀k,M k->¬ByR w k/\Sto.NoVe w k
structure Fp where
 B:Nat
 sb:Nat
 pb:Nat
 lb:Nat
 st:Nat
 la:Nat
 ve:Nat
 B1:Nat
 B2:Nat
 B3:Nat
def shc(f:Fp)(X:Sd):Array Value:=#[pz f.pb,pz f.lb,pz f.st,pz f.la,pz f.ve,uw X.sp,ui X.sl,uw X.np,ui X.nl,uw X.bp,ui X.bl]
def Fp.In(f:Fp)(M1 M2 M3:Nat->Prop)(w:World)(k:Nat):Prop:=k=f.sb\/k=f.lb\/k=f.pb\/M1 k\/M2 k\/M3 k\/(f.pb<=k/\ByR w k)
section
variable (SA:TyS)(TA:TyT)(BA:TyB)
structure ShC(f:Fp)(M1 M2 M3:Nat->Prop)(X:Sd)(a:Int)(g:Nat)(D:Drm.Dr)(w:World):Prop where
 blk:w.heap[f.sb]?=some (.cells (shc f X) 90 (0,0))
 lg:Lgs.LgAt f.lb f.pb a g D w
 ok:D.Ok
 s:SA f.B1 f.st M1 X.S w
 t:TA f.B2 f.la M2 X.T w
 v:BA f.B3 f.ve M3 X.K w
 d12:∀k,M1 k->¬M2 k
 d13:∀k,M1 k->¬M3 k
 d23:∀k,M2 k->¬M3 k
 o:∀k,M1 k\/M2 k\/M3 k->k≠f.sb/\k≠f.lb/\k≠f.pb
 ne:f.sb≠f.lb/\f.sb≠f.pb
 lo:f.B<=f.sb/\f.B<=f.pb/\f.B<=f.B1/\f.B<=f.B2/\f.B<=f.B3
def ShAt(f:Fp)(M:Nat->Prop)(X:Sd)(a:Int)(g:Nat)(D:Drm.Dr)(w:World):Prop:=∃M1 M2 M3,ShC SA TA BA f M1 M2 M3 X a g D w/\M=f.In M1 M2 M3 w
def ShTo(f:Fp)(M:Nat->Prop)(w:World)(X:Sd)(a:Int)(g:Nat)(D:Drm.Dr)(w':World):Prop:=∃M',ShAt SA TA BA f M' X a g D w'/\Kept M w w'/\∀i,M' i->M i\/w.heap.size<=i
end
variable {SA:TyS}{TA:TyT}{BA:TyB}
variable {f:Fp}{M M1 M2 M3 G:Nat->Prop}{X:Sd}{a:Int}{g:Nat}{D:Drm.Dr}{w w':World}
def Vu{k:Nat}(hk:Kept G w w')(h:ByR w' k)(hl:k<w.heap.size)(hn:¬G k):ByR w k:=by obtain⟨cs,fz,h⟩:=h;exact⟨cs,fz,by rw[<-hk.block k hl hn];exact h⟩
def aml{pb:Nat}(h:Drm.Ak pb D w)(hk:Kept G w w')(hp:¬G pb)(hG:∀k,pb<=k->ByR w k->¬G k):Drm.Ak pb D w':=by
 obtain⟨vs,h⟩:=h;refine⟨vs,⟨?_,λi hi=>Gt (h.own i hi) hk λk hv=>?_,h.apart⟩⟩
 .rw[hk.block pb (gp h.blk) hp];exact h.blk
 .have ho:=h.own i hi;rcases ho.2 with⟨e,_⟩|⟨g,cap,cur,e,hb,hg,_⟩
  .rw[e]at hv;simp[Value.ownBlock]at hv
  .rw[e]at hv;simp only[Value.ownBlock,ja]at hv;subst hv;exact hG _ (by omega) ⟨cur,_,hg⟩
def Su{lb pb:Nat}(h:Lgs.LgAt lb pb a g D w)(hk:Kept G w w')(hl:¬G lb)(hp:¬G pb)(hG:∀k,pb<=k->ByR w k->¬G k):Lgs.LgAt lb pb a g D w':=by refine⟨?_,aml h.drum hk hp hG,h.ne⟩;unfold Lgs.Md;rw[hk.block lb (Lgs.Md.lt h.blk) hl];exact h.blk
def af6{pb:Nat}(h:Drm.Kept pb w w'):Kept (λk=>k=pb\/(pb<=k/\ByR w k)) w w':=by
 refine⟨h.below.os,h.below.tape,h.below.output,h.below.size,λk hk hn=>?_⟩;by_cases hp:k<pb
 .exact h.below.block k hp
 .obtain⟨o,ho⟩:∃o,w.heap[k]?=some o:=⟨_,vw hk⟩;rw[ho];exact h.other k o ho (λe=>hn (.inl e)) (λcs fz e=>hn (.inr ⟨by omega,cs,fz,by rw[ho,e]⟩))
def ShC.kept(E:Env SA TA BA)(h:ShC SA TA BA f M1 M2 M3 X a g D w)(hk:Kept G w w')(hG:∀k,f.In M1 M2 M3 w k->¬G k)(hv:∀k,G k->Sto.NoVe w k):ShC SA TA BA f M1 M2 M3 X a g D w':=
 {h with blk:=by rw[hk.block f.sb (gp h.blk) (hG _ (.inl rfl))];exact h.blk,lg:=Su h.lg hk (hG _ (.inr (.inl rfl))) (hG _ (.inr (.inr (.inl rfl)))) (λk h1 h2=>hG k (.inr (.inr (.inr (.inr (.inr (.inr ⟨h1,h2⟩))))))),s:=E.I.keep h.s hk (λk hm=>hG k (.inr (.inr (.inr (.inl hm))))) hv,t:=E.J.keep h.t hk (λk hm=>hG k (.inr (.inr (.inr (.inr (.inl hm)))))),v:=E.V.keep h.v hk (λk hm=>hG k (.inr (.inr (.inr (.inr (.inr (.inl hm)))))))}
def Ja(hk:Kept G w w'){k:Nat}(h:f.In M1 M2 M3 w' k):f.In M1 M2 M3 w k\/w.heap.size<=k\/G k:=by
 rcases h with h|h|h|h|h|h|⟨h1,h2⟩
 .exact .inl (.inl h)
 .exact .inl (.inr (.inl h))
 .exact .inl (.inr (.inr (.inl h)))
 .exact .inl (.inr (.inr (.inr (.inl h))))
 .exact .inl (.inr (.inr (.inr (.inr (.inl h)))))
 .exact .inl (.inr (.inr (.inr (.inr (.inr (.inl h))))))
 .by_cases hs:w.heap.size<=k
  .exact .inr (.inl hs)
  .by_cases hg:G k
   .exact .inr (.inr hg)
   .exact .inl (.inr (.inr (.inr (.inr (.inr (.inr ⟨h1,Vu hk h2 (by omega) hg⟩))))))
def ShC.on(E:Env SA TA BA)(h:ShC SA TA BA f M1 M2 M3 X a g D w)(hb:Bw w w'):ShC SA TA BA f M1 M2 M3 X a g D w':=h.kept E (Kept.of_below (F:=λ_=>False) hb) (λ_ _ h=>h) (λ_ h=>h.elim)
def ShAt.on(E:Env SA TA BA)(h:ShAt SA TA BA f M X a g D w)(hb:Bw w w'):∃M',ShAt SA TA BA f M' X a g D w'/\∀i,M' i->M i\/w.heap.size<=i:=by
 obtain⟨M1,M2,M3,h,rfl⟩:=h;refine⟨_,⟨M1,M2,M3,h.on E hb,rfl⟩,λi hi=>?_⟩;rcases Ja (G:=λ_=>False) (Kept.of_below hb) hi with h1|h1|h1
 .exact .inl h1
 .exact .inr h1
 .exact h1.elim
def ShAt.lt(E:Env SA TA BA)(h:ShAt SA TA BA f M X a g D w){k:Nat}(hk:M k):k<w.heap.size:=by
 obtain⟨M1,M2,M3,h,rfl⟩:=h;rcases hk with rfl|rfl|rfl|h1|h1|h1|⟨_,cs,fz,h1⟩
 .exact gp h.blk
 .exact Lgs.Md.lt h.lg.blk
 .exact h.lg.drum.lt
 .exact(E.I.lt h.s k h1).2
 .exact(E.J.lt h.t k h1).2
 .exact(E.V.lt h.v k h1).2
 .exact gp h1
def ShAt.cells(h:ShAt SA TA BA f M X a g D w):ce w f.sb 0 (pz f.pb)/\ce w f.sb 1 (pz f.lb)/\ce w f.sb 2 (pz f.st)/\ce w f.sb 3 (pz f.la)/\ce w f.sb 4 (pz f.ve):=by obtain⟨M1,M2,M3,h,rfl⟩:=h;have:=h.blk;exact⟨Drm.Ae this rfl,Drm.Ae this rfl,Drm.Ae this rfl,Drm.Ae this rfl,Drm.Ae this rfl⟩
def ShAt.nums(h:ShAt SA TA BA f M X a g D w):ce w f.sb 5 (uw X.sp)/\ce w f.sb 6 (ui X.sl)/\ce w f.sb 7 (uw X.np)/\ce w f.sb 8 (ui X.nl)/\ce w f.sb 9 (uw X.bp)/\ce w f.sb 10 (ui X.bl):=by obtain⟨M1,M2,M3,h,rfl⟩:=h;have:=h.blk;exact⟨Drm.Ae this rfl,Drm.Ae this rfl,Drm.Ae this rfl,Drm.Ae this rfl,Drm.Ae this rfl,Drm.Ae this rfl⟩
def ShAt.free(h:ShAt SA TA BA f M X a g D w)(k:Nat):w.frozen? ⟨f.sb,k,none⟩=false:=by obtain⟨M1,M2,M3,h,rfl⟩:=h;exact Drm.Bg h.blk
end Go.Proofs.YtnfpfbehebcdpaaGreat
namespace Go.Proofs.YtnfpfbehebcdpaaGreat
open Go.RowKit
variable {SA:TyS}{TA:TyT}{BA:TyB}
variable {f:Fp}{M:Nat->Prop}{X:Sd}{a:Int}{g:Nat}{D:Drm.Dr}{w w':World}
def ShC.setS{M1 M2 M3 N1:Nat->Prop}{S':Sto.Sk}(E:Env SA TA BA)(h:ShC SA TA BA f M1 M2 M3 X a g D w)(hs:SA f.B1 f.st N1 S' w')(hk:Kept M1 w w')(hn:∀i,N1 i->M1 i\/w.heap.size<=i):ShC SA TA BA f N1 M2 M3 {X with S:=S'} a g D w':=
 {blk:=by rw[hk.block f.sb (gp h.blk) (λe=>(h.o _ (.inl e)).1 rfl)];exact h.blk
  lg:=Su h.lg hk (λe=>(h.o _ (.inl e)).2.1 rfl) (λe=>(h.o _ (.inl e)).2.2 rfl) (λk _ h2 h3=>E.tS h.s k h3 h2)
  ok:=h.ok
  s:=hs
  t:=E.J.keep h.t hk (λk h2 h1=>h.d12 k h1 h2)
  v:=E.V.keep h.v hk (λk h2 h1=>h.d13 k h1 h2)
  d12:=λk h1 h2=>by
   rcases hn k h1 with e|e
   .exact h.d12 k e h2
   .have:=(E.J.lt h.t k h2).2;omega
  d13:=λk h1 h2=>by
   rcases hn k h1 with e|e
   .exact h.d13 k e h2
   .have:=(E.V.lt h.v k h2).2;omega
  d23:=h.d23
  o:=λk h1=>by
   rcases h1 with h1|h1
   .rcases hn k h1 with e|e
    .exact h.o k (.inl e)
    .exact bai
   .exact h.o k (.inr h1)
  ne:=h.ne
  lo:=h.lo}
def ShC.setT{M1 M2 M3 N2:Nat->Prop}{T':Lat.Tb}(E:Env SA TA BA)(h:ShC SA TA BA f M1 M2 M3 X a g D w)(hs:TA f.B2 f.la N2 T' w')(hk:Kept M2 w w')(hn:∀i,N2 i->M2 i\/w.heap.size<=i):ShC SA TA BA f M1 N2 M3 {X with T:=T'} a g D w':=
 {blk:=by rw[hk.block f.sb (gp h.blk) (λe=>(h.o _ (.inr (.inl e))).1 rfl)];exact h.blk
  lg:=Su h.lg hk (λe=>(h.o _ (.inr (.inl e))).2.1 rfl) (λe=>(h.o _ (.inr (.inl e))).2.2 rfl) (λk _ h2 h3=>(E.tT h.t k h3).1 h2)
  ok:=h.ok
  s:=E.I.keep h.s hk (λk h1 h2=>h.d12 k h1 h2) (λk h2=>(E.tT h.t k h2).2)
  t:=hs
  v:=E.V.keep h.v hk (λk h2 h1=>h.d23 k h1 h2)
  d12:=λk h1 h2=>by
   rcases hn k h2 with e|e
   .exact h.d12 k h1 e
   .have:=(E.I.lt h.s k h1).2;omega
  d13:=h.d13
  d23:=λk h1 h2=>by
   rcases hn k h1 with e|e
   .exact h.d23 k e h2
   .have:=(E.V.lt h.v k h2).2;omega
  o:=λk h1=>by
   rcases h1 with h1|h1|h1
   .exact h.o k (.inl h1)
   .rcases hn k h1 with e|e
    .exact h.o k (.inr (.inl e))
    .exact bai
   .exact h.o k (.inr (.inr h1))
  ne:=h.ne
  lo:=h.lo}
def ShC.setV{M1 M2 M3 N3:Nat->Prop}{K':Ver.Bk}(E:Env SA TA BA)(h:ShC SA TA BA f M1 M2 M3 X a g D w)(hs:BA f.B3 f.ve N3 K' w')(hk:Kept M3 w w')(hn:∀i,N3 i->M3 i\/w.heap.size<=i):ShC SA TA BA f M1 M2 N3 {X with K:=K'} a g D w':=
 {blk:=by rw[hk.block f.sb (gp h.blk) (λe=>(h.o _ (.inr (.inr e))).1 rfl)];exact h.blk
  lg:=Su h.lg hk (λe=>(h.o _ (.inr (.inr e))).2.1 rfl) (λe=>(h.o _ (.inr (.inr e))).2.2 rfl) (λk _ h2 h3=>(E.tV h.v k h3).1 h2)
  ok:=h.ok
  s:=E.I.keep h.s hk (λk h1 h2=>h.d13 k h1 h2) (λk h2=>(E.tV h.v k h2).2)
  t:=E.J.keep h.t hk (λk h1 h2=>h.d23 k h1 h2)
  v:=hs
  d12:=h.d12
  d13:=λk h1 h2=>by
   rcases hn k h2 with e|e
   .exact h.d13 k h1 e
   .have:=(E.I.lt h.s k h1).2;omega
  d23:=λk h1 h2=>by
   rcases hn k h2 with e|e
   .exact h.d23 k h1 e
   .have:=(E.J.lt h.t k h1).2;omega
  o:=λk h1=>by
   rcases h1 with h1|h1|h1
   .exact h.o k (.inl h1)
   .exact h.o k (.inr (.inl h1))
   .rcases hn k h1 with e|e
    .exact h.o k (.inr (.inr e))
    .exact bai
  ne:=h.ne
  lo:=h.lo}
def ShC.setL{M1 M2 M3:Nat->Prop}{a':Int}{g':Nat}{D':Drm.Dr}(E:Env SA TA BA)(h:ShC SA TA BA f M1 M2 M3 X a g D w)(hl:Lgs.LgAt f.lb f.pb a' g' D' w')(hD:D'.Ok)(hk:Kept (λk=>k=f.lb\/k=f.pb\/(f.pb<=k/\ByR w k)) w w'):ShC SA TA BA f M1 M2 M3 X a' g' D' w':=by
 have hb:¬ByR w f.sb:=λ⟨cs,fz,e⟩=>by have:=h.blk;rw[e]at this;injection this with this;injection this with _ this _;exact absurd this (by decide)
 have nl:Sto.NoVe w f.lb:=Sto.Hy h.lg.blk (by intro cs fz e;injection e with _ e _;exact absurd e (by decide));have np:Sto.NoVe w f.pb:=by obtain⟨vs,hd⟩:=h.lg.drum;exact Sto.Hy hd.blk (by intro cs fz e;injection e with _ e _;exact absurd e (by decide))
 have hv:∀k,(k=f.lb\/k=f.pb\/(f.pb<=k/\ByR w k))->Sto.NoVe w k:=λk hk=>by
  rcases hk with rfl|rfl|⟨_,cs,fz,e⟩
  .exact nl
  .exact np
  .exact bco
 exact
 {h with
  blk:=by
   rw[hk.block f.sb (gp h.blk) (λe=>?_)]
   .exact h.blk
   .rcases e with e|e|e
    .exact h.ne.1 e
    .exact h.ne.2 e
    .exact hb e.2
  lg:=hl
  ok:=hD
  s:=E.I.keep h.s hk (λk h1 h2=>by
   rcases h2 with e|e|e
   .exact(h.o k (.inl h1)).2.1 e
   .exact(h.o k (.inl h1)).2.2 e
   .exact E.tS h.s k h1 e.2) hv
  t:=E.J.keep h.t hk (λk h1 h2=>by
   rcases h2 with e|e|e
   .exact(h.o k (.inr (.inl h1))).2.1 e
   .exact(h.o k (.inr (.inl h1))).2.2 e
   .exact(E.tT h.t k h1).1 e.2)
  v:=E.V.keep h.v hk (λk h1 h2=>by
   rcases h2 with e|e|e
   .exact(h.o k (.inr (.inr h1))).2.1 e
   .exact(h.o k (.inr (.inr h1))).2.2 e
   .exact(E.tV h.v k h1).1 e.2)}
def ShC.setN{M1 M2 M3:Nat->Prop}{X':Sd}(E:Env SA TA BA)(h:ShC SA TA BA f M1 M2 M3 X a g D w)(hb:w'.heap[f.sb]?=some (.cells (shc f X') 90 (0,0)))(hk:Kept (λk=>k=f.sb) w w')(hS:X'.S=X.S)(hT:X'.T=X.T)(hK:X'.K=X.K):ShC SA TA BA f M1 M2 M3 X' a g D w':=by
 have nv:∀k,k=f.sb->Sto.NoVe w k:=λk e=>by subst e;exact Sto.Hy h.blk (by intro cs fz e;injection e with _ e _;exact absurd e (by decide))
 have nb:¬ByR w f.sb:=λ⟨cs,fz,e⟩=>by have:=h.blk;rw[e]at this;injection this with this;injection this with _ this _;exact absurd this (by decide)
 exact
 {blk:=hb,lg:=Su h.lg hk (λe=>h.ne.1 e.symm) (λe=>h.ne.2 e.symm) (λk _ h2 e=>nb (e▸h2)),ok:=h.ok,s:=hS▸E.I.keep h.s hk (λk h1 e=>(h.o k (.inl h1)).1 e) nv,t:=hT▸E.J.keep h.t hk (λk h1 e=>(h.o k (.inr (.inl h1))).1 e),v:=hK▸E.V.keep h.v hk (λk h1 e=>(h.o k (.inr (.inr h1))).1 e),d12:=h.d12,d13:=h.d13,d23:=h.d23,o:=h.o,ne:=h.ne,lo:=h.lo}
def X4{M1 M2 M3 N1 N2 N3 G:Nat->Prop}(hk:Kept G w w')(hg:∀k,G k->f.In M1 M2 M3 w k)(h1:∀i,N1 i->M1 i\/w.heap.size<=i)(h2:∀i,N2 i->M2 i\/w.heap.size<=i)(h3:∀i,N3 i->M3 i\/w.heap.size<=i):∀i,f.In N1 N2 N3 w' i->f.In M1 M2 M3 w i\/w.heap.size<=i:=λk h=>by
 rcases h with h|h|h|h|h|h|⟨h4,h5⟩
 .exact .inl (.inl h)
 .exact .inl (.inr (.inl h))
 .exact .inl (.inr (.inr (.inl h)))
 .exact(h1 k h).imp (λe=>.inr (.inr (.inr (.inl e)))) id
 .exact(h2 k h).imp (λe=>.inr (.inr (.inr (.inr (.inl e))))) id
 .exact(h3 k h).imp (λe=>.inr (.inr (.inr (.inr (.inr (.inl e)))))) id
 .by_cases hs:w.heap.size<=k
  .exact .inr hs
  .by_cases hgk:G k
   .exact .inl (hg k hgk)
   .exact .inl (.inr (.inr (.inr (.inr (.inr (.inr ⟨h4,Vu hk h5 (by omega) hgk⟩))))))
def to_s{M1 M2 M3 N1:Nat->Prop}{S':Sto.Sk}(E:Env SA TA BA)(h:ShC SA TA BA f M1 M2 M3 X a g D w)(hs:SA f.B1 f.st N1 S' w')(hk:Kept M1 w w')(hn:∀i,N1 i->M1 i\/w.heap.size<=i):ShTo SA TA BA f (f.In M1 M2 M3 w) w {X with S:=S'} a g D w':=
 ⟨_,⟨N1,M2,M3,h.setS E hs hk hn,rfl⟩,hk.mono (λi e=>.inr (.inr (.inr (.inl e)))),X4 hk (λi e=>.inr (.inr (.inr (.inl e)))) hn (λ_=>.inl) (λ_=>.inl)⟩
def to_t{M1 M2 M3 N2:Nat->Prop}{T':Lat.Tb}(E:Env SA TA BA)(h:ShC SA TA BA f M1 M2 M3 X a g D w)(hs:TA f.B2 f.la N2 T' w')(hk:Kept M2 w w')(hn:∀i,N2 i->M2 i\/w.heap.size<=i):ShTo SA TA BA f (f.In M1 M2 M3 w) w {X with T:=T'} a g D w':=
 ⟨_,⟨M1,N2,M3,h.setT E hs hk hn,rfl⟩,hk.mono (λi e=>.inr (.inr (.inr (.inr (.inl e))))),X4 hk (λi e=>.inr (.inr (.inr (.inr (.inl e))))) (λ_=>.inl) hn (λ_=>.inl)⟩
def to_v{M1 M2 M3 N3:Nat->Prop}{K':Ver.Bk}(E:Env SA TA BA)(h:ShC SA TA BA f M1 M2 M3 X a g D w)(hs:BA f.B3 f.ve N3 K' w')(hk:Kept M3 w w')(hn:∀i,N3 i->M3 i\/w.heap.size<=i):ShTo SA TA BA f (f.In M1 M2 M3 w) w {X with K:=K'} a g D w':=
 ⟨_,⟨M1,M2,N3,h.setV E hs hk hn,rfl⟩,hk.mono (λi e=>.inr (.inr (.inr (.inr (.inr (.inl e)))))),X4 hk (λi e=>.inr (.inr (.inr (.inr (.inr (.inl e)))))) (λ_=>.inl) (λ_=>.inl) hn⟩
def to_l{M1 M2 M3:Nat->Prop}{a':Int}{g':Nat}{D':Drm.Dr}(E:Env SA TA BA)(h:ShC SA TA BA f M1 M2 M3 X a g D w)(hl:Lgs.LgAt f.lb f.pb a' g' D' w')(hD:D'.Ok)(hk:Kept (λk=>k=f.lb\/k=f.pb\/(f.pb<=k/\ByR w k)) w w'):ShTo SA TA BA f (f.In M1 M2 M3 w) w X a' g' D' w':=by
 have hi:∀k,(k=f.lb\/k=f.pb\/(f.pb<=k/\ByR w k))->f.In M1 M2 M3 w k:=λk e=>by
  rcases e with e|e|e
  .exact .inr (.inl e)
  .exact .inr (.inr (.inl e))
  .exact .inr (.inr (.inr (.inr (.inr (.inr e)))))
 exact⟨_,⟨M1,M2,M3,h.setL E hl hD hk,rfl⟩,hk.mono hi,X4 hk hi (λ_=>.inl) (λ_=>.inl) (λ_=>.inl)⟩
def to_n{M1 M2 M3:Nat->Prop}{X':Sd}(E:Env SA TA BA)(h:ShC SA TA BA f M1 M2 M3 X a g D w)(hb:w'.heap[f.sb]?=some (.cells (shc f X') 90 (0,0)))(hk:Kept (λk=>k=f.sb) w w')(hS:X'.S=X.S)(hT:X'.T=X.T)(hK:X'.K=X.K):ShTo SA TA BA f (f.In M1 M2 M3 w) w X' a g D w':=
 ⟨_,⟨M1,M2,M3,h.setN E hb hk hS hT hK,rfl⟩,hk.mono (λi e=>.inl e),X4 hk (λi e=>.inl e) (λ_=>.inl) (λ_=>.inl) (λ_=>.inl)⟩
def an6(E:Env SA TA BA)(p l:Int)(h:ShAt SA TA BA f M X a g D w)(ht:Sto.totS X.S<10000):cpr 52 #[pz f.st,.agg #[uw p,ui l]] w λe w'=>e=.returned (iw (Sto.Ky p l X.S))/\ShTo SA TA BA f M w {X with S:=Sto.Ed p l X.S} a g D w':=by obtain⟨M1,M2,M3,h,rfl⟩:=h;refine(E.I.prune p l h.s ht).mono ?_;rintro e w' ⟨rfl,N1,hs,hk,hn⟩;exact⟨rfl,to_s E h hs hk hn⟩
def axq(E:Env SA TA BA)(c n sp sl mp ml:Int)(prim:Bi)(L:List Wr)(v:Value)(h:ShAt SA TA BA f M X a g D w)(ht:X.T.length<10000)(hv:Lat.WsAt w.heap.size v L w)(hm:0<L.length->∀k,v.ownBlock=some k->¬M k)(h0:0<=mp/\0<=ml):cpr 48 #[pz f.la,.agg #[ui c,ui n],.agg #[uw sp,ui sl],.agg #[uw mp,ui ml],sd prim,v] w λe w'=>e=.returned (iw (Lat.layF (Lat.Ag sp sl&&Lat.Ag mp ml&&kOk prim) c n sp sl mp ml prim L X.T).2)/\ShTo SA TA BA f M w {X with T:=(Lat.layF (Lat.Ag sp sl&&Lat.Ag mp ml&&kOk prim) c n sp sl mp ml prim L X.T).1} a g D w':=by obtain⟨M1,M2,M3,h,rfl⟩:=h;refine(E.J.lay c n sp sl mp ml prim L v h.t ht hv (λh1 k hk hm2=>hm h1 k hk (.inr (.inr (.inr (.inr (.inl hm2)))))) h0).mono ?_;rintro e w' ⟨rfl,N2,hs,hk,hn⟩;exact⟨rfl,to_t E h hs hk hn⟩
def axs(E:Env SA TA BA)(c n:Int)(h:ShAt SA TA BA f M X a g D w)(ht:X.T.length<10000):cpr 51 #[pz f.la,.agg #[ui c,ui n]] w λe w'=>∃v',e=.returned v'/\Lat.IsAt w'.heap.size v' (Lat.byF c n X.T) w'/\(∀k,v'.ownBlock=some k->w.heap.size<=k)/\ShTo SA TA BA f M w {X with T:=Lat.Ee c n X.T} a g D w':=by obtain⟨M1,M2,M3,h,rfl⟩:=h;refine(E.J.cut c n h.t ht).mono ?_;rintro e w' ⟨v',N2,rfl,hi,hv,hs,hk,hn⟩;exact⟨v',rfl,hi,hv,to_t E h hs hk hn⟩
def aez(E:Env SA TA BA)(c n mp ml:Int)(h:ShAt SA TA BA f M X a g D w)(ht:X.T.length<10000)(h0:0<=mp/\0<=ml):cpr 59 #[pz f.la,.agg #[ui c,ui n],.agg #[uw mp,ui ml]] w λe w'=>e=.returned (.bool (Lat.Wj c n mp ml X.T))/\ShTo SA TA BA f M w {X with T:=Lat.rseF c n mp ml X.T} a g D w':=by obtain⟨M1,M2,M3,h,rfl⟩:=h;refine(E.J.raise c n mp ml h.t ht h0).mono ?_;rintro e w' ⟨rfl,N2,hs,hk,hn⟩;exact⟨rfl,to_t E h hs hk hn⟩
def an8(E:Env SA TA BA)(lo hi:Bi)(ap aq:Int)(but:List (Int×Int))(v:Value)(h:ShAt SA TA BA f M X a g D w)(ht:X.T.length<10000)(hv:Lat.TsAt w.heap.size v but w):cpr 190 #[pz f.la,sd lo,sd hi,.agg #[uw ap,ui aq],v] w λe w'=>e=.returned (Lat.fsV (Lat.Oj lo hi ap aq but X.T))/\Bw w w':=by obtain⟨M1,M2,M3,h,rfl⟩:=h;exact E.J.first lo hi ap aq but v h.t ht hv
def an7(E:Env SA TA BA)(k:Bi)(h:ShAt SA TA BA f M X a g D w)(ht:X.T.length<10000):cpr 187 #[pz f.la,sd k] w λe w'=>e=.returned (Lat.ofV k (getF k X.T))/\Bw w w':=by obtain⟨M1,M2,M3,h,rfl⟩:=h;exact E.J.of k h.t ht
def sh_by(E:Env SA TA BA)(c n:Int)(h:ShAt SA TA BA f M X a g D w)(ht:X.T.length<10000):cpr 72 #[pz f.la,.agg #[ui c,ui n]] w λe w'=>∃v',e=.returned v'/\Lat.IsAt w'.heap.size v' (Lat.byF c n X.T) w'/\(∀k,v'.ownBlock=some k->w.heap.size<=k)/\Bw w w':=by obtain⟨M1,M2,M3,h,rfl⟩:=h;exact E.J.by_ c n h.t ht
def ai3(E:Env SA TA BA)(h:ShAt SA TA BA f M X a g D w)(ht:X.T.length<10000):cpr 58 #[pz f.la] w λe w'=>∃v',e=.returned v'/\Lat.IsAt w'.heap.size v' X.T w'/\(∀k,v'.ownBlock=some k->w.heap.size<=k/\∃cs,w'.heap[k]?=some (.cells cs 155 (0,0)))/\Bw w w':=by obtain⟨M1,M2,M3,h,rfl⟩:=h;exact E.J.all h.t ht
def axr(E:Env SA TA BA)(k:Bi)(p l:Int)(h:ShAt SA TA BA f M X a g D w)(ht:Sto.totS X.S<10000):cpr 135 #[pz f.st,sd k,.agg #[uw p,ui l]] w λe w'=>e=.returned (.tuple #[.string (bs (Sto.getV (Sto.seeF (Sto.A8 k X.S) p l)).1),.bool (Sto.getV (Sto.seeF (Sto.A8 k X.S) p l)).2])/\Bw w w':=by obtain⟨M1,M2,M3,h,rfl⟩:=h;exact E.I.get k p l h.s ht
def ak0(E:Env SA TA BA)(k:Bi)(h:ShAt SA TA BA f M X a g D w)(ht:Sto.totS X.S<10000):cpr 194 #[pz f.st,sd k] w λe w'=>e=.returned (.agg #[uw (Sto.newF (Sto.A8 k X.S)).1,ui (Sto.newF (Sto.A8 k X.S)).2])/\Bw w w':=by obtain⟨M1,M2,M3,h,rfl⟩:=h;exact E.I.newest k h.s ht
def an9(E:Env SA TA BA)(k:Bi)(h:ShAt SA TA BA f M X a g D w)(ht:Sto.totS X.S<10000):cpr 195 #[pz f.st,sd k] w λe w'=>e=.returned (iw (Sto.A8 k X.S).length)/\Bw w w':=by obtain⟨M1,M2,M3,h,rfl⟩:=h;exact E.I.count k h.s ht
def ae0(E:Env SA TA BA)(h:ShAt SA TA BA f M X a g D w)(ht:Sto.totS X.S<10000):cpr 32 #[pz f.st] w λe w'=>∃v' L,e=.returned v'/\Sto.ItAt v' L X.S w'/\(∀k,v'.ownBlock=some k->w.heap.size<=k/\∃cs,w'.heap[k]?=some (.cells cs 61 (0,0)))/\Bw w w':=by obtain⟨M1,M2,M3,h,rfl⟩:=h;exact E.I.items h.s ht
def agw(E:Env SA TA BA)(v:Ver.Vd)(h:ShAt SA TA BA f M X a g D w)(ht:X.K.length<10000)(hv:Ver.RgV v):cpr 50 #[pz f.ve,.agg (vdC v)] w λe w'=>e=.returned (iw (Ver.setB v X.K).2)/\ShTo SA TA BA f M w {X with K:=(Ver.setB v X.K).1} a g D w':=by obtain⟨M1,M2,M3,h,rfl⟩:=h;refine(E.V.set v h.v ht hv).mono ?_;rintro e w' ⟨rfl,N2,hs,hk,hn⟩;exact⟨rfl,to_v E h hs hk hn⟩
def asz(E:Env SA TA BA)(c n:Int)(h:ShAt SA TA BA f M X a g D w)(ht:X.K.length<10000)(hv:Ver.R32 c/\Ver.R32 n):cpr 55 #[pz f.ve,.agg #[ui c,ui n]] w λe w'=>e=.returned (.bool (Ver.I8 c n X.K).2)/\ShTo SA TA BA f M w {X with K:=(Ver.I8 c n X.K).1} a g D w':=by obtain⟨M1,M2,M3,h,rfl⟩:=h;refine(E.V.done c n h.v ht hv).mono ?_;rintro e w' ⟨rfl,N2,hs,hk,hn⟩;exact⟨rfl,to_v E h hs hk hn⟩
def akz(E:Env SA TA BA)(sp sl:Int)(L:List (Int×Int))(v:Value)(h:ShAt SA TA BA f M X a g D w)(ht:X.K.length<10000)(hs:Ver.R64 sp/\Ver.R32 sl)(hL:Ver.RgT L)(hz:L.length*8<=140737488355328)(hv:Ver.TsAt w.heap.size v L w)(hm:0<L.length->∀k,v.ownBlock=some k->¬M k):cpr 53 #[pz f.ve,.agg #[uw sp,ui sl],v] w λe w'=>e=.returned (iw ((X.K.length-(Ver.retB sp sl L X.K).length:Nat):Int))/\ShTo SA TA BA f M w {X with K:=Ver.retB sp sl L X.K} a g D w':=by obtain⟨M1,M2,M3,h,rfl⟩:=h;refine(E.V.retire sp sl L v h.v ht hs hL hz hv (λh1 k hk hm2=>hm h1 k hk (.inr (.inr (.inr (.inr (.inr (.inl hm2)))))))).mono ?_;rintro e w' ⟨rfl,N2,hs,hk,hn⟩;exact⟨rfl,to_v E h hs hk hn⟩
def agv(E:Env SA TA BA)(c n:Int)(h:ShAt SA TA BA f M X a g D w)(ht:X.K.length<10000)(hv:Ver.R32 c/\Ver.R32 n):cpr 118 #[pz f.ve,.agg #[ui c,ui n]] w λe w'=>e=.returned (Ver.ofV (Ver.getB c n X.K))/\Bw w w':=by obtain⟨M1,M2,M3,h,rfl⟩:=h;exact E.V.of c n h.v ht hv
def ak1(E:Env SA TA BA)(r:Bi)(h:ShAt SA TA BA f M X a g D w):cpr 198 #[pz f.lb,sd r] w λe w'=>e=.returned (iw (Lgs.Bv D a r).1)/\ShTo SA TA BA f M w X a g (Lgs.Bv D a r).2 w':=by obtain⟨M1,M2,M3,h,rfl⟩:=h;refine(Lgs.aru f.lb f.pb g a D r w h.lg h.ok).mono ?_;rintro e w' ⟨rfl,hl,hk⟩;exact⟨rfl,to_l E h hl (Lgs.Uo h.ok a r) ((af6 hk).mono λk e=>.inr e)⟩
def ac1(h:ShAt SA TA BA f M X a g D w):cpr 61 #[pz f.pb] w λe w'=>e=.returned (.bool D.down)/\w=w':=by obtain⟨M1,M2,M3,h,rfl⟩:=h;obtain⟨vs,hd⟩:=h.lg.drum;exact Drm.N7 f.pb D.down w (Drm.Ae hd.blk rfl)
end Go.Proofs.YtnfpfbehebcdpaaGreat
namespace Go.Proofs.YtnfpfbehebcdpaaGreat
open Go.RowKit
variable {SA:TyS}{TA:TyT}{BA:TyB}
variable {f:Fp}{M M1 M2 M3:Nat->Prop}{X:Sd}{a:Int}{g:Nat}{D:Drm.Dr}{w w':World}
def aco(SA:TyS)(TA:TyT)(BA:TyB)(f:Fp)(M1 M2 M3:Nat->Prop)(X:Sd)(a:Int)(g:Nat)(D:Drm.Dr)(w w':World):Prop:=∃N1,ShC SA TA BA f N1 M2 M3 X a g D w'/\Kept M1 w w'/\∀i,N1 i->M1 i\/w.heap.size<=i
def Ov{G:Nat->Prop}{b:Nat}{o:Obj}(h:w.heap[b]?=some o)(hk:Kept G w w')(hn:¬G b):w'.heap[b]?=some o:=by rw[hk.block b (gp h) hn];exact h
def Has(L:List (Nat×Obj))(W:World):Prop:=∀p∈L,W.heap[p.1]?=some p.2
def Has.kept{L:List (Nat×Obj)}{G:Nat->Prop}(h:Has L w)(hk:Kept G w w')(hn:∀p∈L,¬G p.1):Has L w':=λp hp=>Ov (h p hp) hk (hn p hp)
def Has.on{L:List (Nat×Obj)}(h:Has L w)(hb:Bw w w'):Has L w':=h.kept (G:=λ_=>False) (Kept.of_below hb) (λ_ _ e=>e)
def Has.lt{L:List (Nat×Obj)}(h:Has L w):∀p∈L,p.1<w.heap.size:=λp hp=>gp (h p hp)
def Has.new{L:List (Nat×Obj)}(h:Has L w)(o:Obj):Has ((w.heap.size,o)::L) (w.alloc o):=λp hp=>by
 rcases au.1 hp with rfl|hp
 .exact ae w o
 .rw[uj w o _ (gp (h p hp))];exact h p hp
def Has.cell{L:List (Nat×Obj)}{b k:Nat}{cs:Array Value}{ty:TypeId}{u:Value}(h:Has L w)(hp:(b,Obj.cells cs ty (0,0))∈L)(hk:cs[k]?=some u):ce w b k u:=Drm.Ae (h _ hp) hk
def Has.free{L:List (Nat×Obj)}{b k:Nat}{cs:Array Value}{ty:TypeId}(h:Has L w)(hp:(b,Obj.cells cs ty (0,0))∈L):w.frozen? ⟨b,k,none⟩=false:=Drm.Bg (h _ hp)
def Has.one{b:Nat}{o:Obj}(h:w.heap[b]?=some o):Has [(b,o)] w:=λp hp=>by simp only[jy]at hp;subst hp;exact h
structure Bo(w:World)(L:List (Nat×Obj))(W:World):Prop where
 has:Has L W
 bel:Bw w W
def Bo.one{b:Nat}{o:Obj}(h:w.heap[b]?=some o):Bo w [(b,o)] w:=⟨Has.one h,aj _ _⟩
def Bo.new{W:World}{L:List (Nat×Obj)}(h:Bo w L W)(o:Obj):Bo w ((W.heap.size,o)::L) (W.alloc o):=⟨h.has.new o,h.bel.alloc h.bel.size o⟩
def Bo.on{W W':World}{L:List (Nat×Obj)}(h:Bo w L W)(hb:Bw W W'):Bo w L W':=⟨h.has.on hb,h.bel.trans (hb.mono h.bel.size)⟩
def Bo.drew{W:World}{L:List (Nat×Obj)}(h:Bo w L W):Bo w L W.drew:=⟨h.has,h.bel.drew⟩
def awt(E:Env SA TA BA)(c n ap al:Int)(key val:Bi)(dead:Bool)(h:ShC SA TA BA f M1 M2 M3 X a g D w)(ht:Sto.totS X.S<10000):
  cpr 56 #[pz f.sb,.agg #[ui c,ui n],.agg #[uw ap,ui al],.agg #[sd key,sd val,.bool dead]] w λe w'=>e=.returned (.tuple #[])/\aco SA TA BA f M1 M2 M3 {X with S:=(Sto.putS key ⟨ap,al,c,n,val,dead⟩ X.S).1} a g D w w':=by
 have CP:Hid (∀W,Bw w W->cpr 128 #[pz f.st,sd key,.agg #[uw ap,ui al,ui c,ui n,sd val,.bool dead]] W λe w'=>∃r,e=.returned (iw r)/\aco SA TA BA f M1 M2 M3 {X with S:=(Sto.putS key ⟨ap,al,c,n,val,dead⟩ X.S).1} a g D w w'/\Kept M1 W w'):=λW hb=>by have hW:=h.on E hb;refine(E.I.put key ⟨ap,al,c,n,val,dead⟩ hW.s ht).mono ?_;rintro e w' ⟨rfl,N1,hs,hk,hn⟩;exact⟨_,rfl,⟨N1,hW.setS E hs hk hn,(Kept.of_below hb).trans hk (λ_ e=>.inl e),λi hi=>(hn i hi).imp id (λe=>ak hb.size e)⟩,hk⟩
 have HB:Hid (w.heap[f.sb]?=some (.cells (shc f X) 90 (0,0))/\¬M1 f.sb):=⟨h.blk,λe=>(h.o _ (.inl e)).1 rfl⟩;have HM:Hid (∀k,M1 k->k<w.heap.size):=λk hk=>(E.I.lt h.s k hk).2;generalize aco SA TA BA f M1 M2 M3 {X with S:=(Sto.putS key ⟨ap,al,c,n,val,dead⟩ X.S).1} a g D w=Q at*;have hsb:=gp HB.out.1;clear h ht E;have HC:Hid ((shc f X)[2]?=some (pz f.st)):=rfl;generalize shc f X=sc at*;generalize f.sb=sb at*;generalize f.st=st at*;have H0:Hid (Bo w [(w.heap.size+1+1,.cells #[sd key,sd val,.bool dead] 106),(w.heap.size+1,.cells #[uw ap,ui al] 38),(w.heap.size,.cells #[ui c,ui n] 36),(sb,.cells sc 90)] (((w.alloc (.cells #[ui c,ui n] 36)).alloc (.cells #[uw ap,ui al] 38)).alloc (.cells #[sd key,sd val,.bool dead] 106))):=by show Bo _ _ _;have h1:=(((Bo.one HB.out.1).new (.cells #[ui c,ui n] 36)).new (.cells #[uw ap,ui al] 38)).new (.cells #[sd key,sd val,.bool dead] 106);simpa using h1
 go_enter Tryz.func56,Tryz.ntmps56;go_wp2_with fail;generalize ((w.alloc (.cells #[ui c,ui n] 36)).alloc (.cells #[uw ap,ui al] 38)).alloc (.cells #[sd key,sd val,.bool dead] 106)=W3 at*;obtain⟨L,hL⟩:∃L,L=[(w.heap.size+1+1,Obj.cells #[sd key,sd val,.bool dead] 106),(w.heap.size+1,.cells #[uw ap,ui al] 38),(w.heap.size,.cells #[ui c,ui n] 36),(sb,.cells sc 90)]:=⟨_,rfl⟩;rw[<-hL]at H0;have HN:Hid (∀p∈L,¬M1 p.1):=λp hp e=>by
  have h1:=HM.out _ e;rw[hL]at hp;simp only[au,List.not_mem_nil,or_false]at hp;rcases hp with rfl|rfl|rfl|rfl
  .dsimp only at h1;omega
  .dsimp only at h1;omega
  .dsimp only at h1;omega
  .exact HB.out.2 e
 have SO:Hid (∀W,Has L W->ce W sb 2 (pz st)/\ce W w.heap.size 0 (ui c)/\ce W w.heap.size 1 (ui n)/\ce W (w.heap.size+1) 0 (uw ap)/\ce W (w.heap.size+1) 1 (ui al)/\ce W (w.heap.size+1+1) 0 (sd key)/\ce W (w.heap.size+1+1) 1 (sd val)/\ce W (w.heap.size+1+1) 2 (.bool dead)/\Hid (Has L W)):=λW hW=>by subst hL;exact⟨hW.cell tq3 HC.out,hW.cell tq2 rfl,hW.cell tq2 rfl,hW.cell tq1 rfl,hW.cell tq1 rfl,hW.cell tq0 rfl,hW.cell tq0 rfl,hW.cell tq0 rfl,hW⟩
 clear hL HM HB HC hsb;go_region_held3 (λW=>ce W sb 2 (pz st)/\ce W w.heap.size 0 (ui c)/\ce W w.heap.size 1 (ui n)/\ce W (w.heap.size+1) 0 (uw ap)/\ce W (w.heap.size+1) 1 (ui al)/\ce W (w.heap.size+1+1) 0 (sd key)/\ce W (w.heap.size+1+1) 1 (sd val)/\ce W (w.heap.size+1+1) 2 (.bool dead)/\Hid (Has L W)) (first|exact SO.out _ H0.out.has|exact SO.out _ H0.out.drew.has|exact SO.out _ H2.out.2) (first|(go_at_call 128;refine(CP.out _ H0.out.drew.bel).mono ?_;rintro e w2 ⟨r,rfl,hq,hk⟩;have H2:Hid (Q w2/\Has L w2):=⟨hq,H0.out.drew.has.kept hk HN.out⟩;clear hq hk))
 go_wp2_with fail;go_end0
 exact⟨rfl,H2.out.1⟩
def J5{B size n:Nat}{v:Value}{cs:List Value}{G:Nat->Prop}(h:RwAt B size v n cs w)(hk:Kept G w w')(hn:∀k,v.ownBlock=some k->¬G k):RwAt B size v n cs w':=by obtain⟨ao,cap,rfl,h1,h2,h3,h4⟩:=h;refine⟨ao,cap,rfl,h1,h2,h3,λh0=>?_⟩;obtain⟨b,off,rfl,h5,h6⟩:=h4 h0;exact⟨b,off,rfl,h5,λj u hj=>hk.cell (h6 j u hj) (hn b rfl)⟩
def ano{N1 N2 N3:Nat->Prop}{X':Sd}{a':Int}{g':Nat}{D':Drm.Dr}(h:ShC SA TA BA f N1 N2 N3 X' a' g' D' w')(hk:Kept (f.In M1 M2 M3 w) w w')(h1:∀i,N1 i->M1 i\/w.heap.size<=i)(h2:∀i,N2 i->M2 i\/w.heap.size<=i)(h3:∀i,N3 i->M3 i\/w.heap.size<=i):ShTo SA TA BA f (f.In M1 M2 M3 w) w X' a' g' D' w':=
 ⟨_,⟨N1,N2,N3,h,rfl⟩,hk,X4 hk (λ_ h=>h) h1 h2 h3⟩
def abr(c n ap al:Int):∀(L:Lat.Tb) (x:Bi×Lat.Ii) (S:Sto.Sk),Jh c n ap al (L++[x]) S=(Sto.putS x.1 (veI c n ap al x) (Jh c n ap al L S)).1
 |[],_,_=>rfl
 |y::L,x,S=>by show Jh c n ap al (L++[x]) _=_;rw[abr c n ap al L x];rfl
def aov{c n ap al:Int}:∀{L:Lat.Tb} {S:Sto.Sk},Sto.SOk S->Sto.SOk (Jh c n ap al L S)
 |[],_,h=>h
 |x::L,S,h=>by show Sto.SOk (Jh c n ap al L _);exact aov (Sto.aji h _ _)
def U5{c n ap al:Int}:∀{L:Lat.Tb} {S:Sto.Sk},Sto.SOk S->Sto.totS (Jh c n ap al L S)<=Sto.totS S+L.length
 |[],_,_=>ai _
 |x::L,S,h=>by have h1:=U5 (c:=c) (n:=n) (ap:=ap) (al:=al) (L:=L) (Sto.aji h x.1 (veI c n ap al x));have h2:=Sto.ase h x.1 (veI c n ap al x);show Sto.totS (Jh c n ap al L _)<=_;simp only[bg];omega
structure Fx(SA:TyS)(TA:TyT)(BA:TyB)(f:Fp)(M1 N2 M3:Nat->Prop)(X:Sd)(a:Int)(g:Nat)(D:Drm.Dr)(c n ap al:Int)(L:Lat.Tb)(Lo:List (Nat×Obj))(w1:World)(m:Nat)(W:World):Prop where
 sh:aco SA TA BA f M1 N2 M3 {X with S:=Jh c n ap al (L.take m) X.S} a g D w1 W
 has:Has Lo W
def Fx.step{N2:Nat->Prop}{c n ap al:Int}{L:Lat.Tb}{Lo:List (Nat×Obj)}{w1 W W':World}{m:Nat}{x:Bi×Lat.Ii}(hL:L.take (m+1)=L.take m++[x])(h:Fx SA TA BA f M1 N2 M3 X a g D c n ap al L Lo w1 m W){W2:World}(hb:Bw W W2){N1:Nat->Prop}(hn:∀i,N1 i->M1 i\/w1.heap.size<=i)(hlt:∀i,N1 i->i<W.heap.size)(hk1:Kept M1 w1 W)
  (hp:aco SA TA BA f N1 N2 M3 {X with S:=(Sto.putS x.1 (veI c n ap al x) (Jh c n ap al (L.take m) X.S)).1} a g D W2 W') (hlo:∀p∈Lo,¬N1 p.1):Fx SA TA BA f M1 N2 M3 X a g D c n ap al L Lo w1 (m+1) W':=by
 obtain⟨N,h1,h2,h3⟩:=hp;refine⟨⟨N,?_,?_,λi hi=>?_⟩,(h.has.on hb).kept h2 hlo⟩
 .rw[hL,abr];exact h1
 .exact(hk1.trans (Kept.of_below (F:=N1) hb) hn).trans h2 hn
 .rcases h3 i hi with e|e
  .exact hn i e
  .exact .inr (ak hk1.size (ak hb.size e))
def awz(E:Env SA TA BA)(c n ap al:Int)(h:ShAt SA TA BA f M X a g D w)(ht:X.wt<9000):
  cpr 49 #[pz f.sb,.agg #[ui c,ui n],.agg #[uw ap,ui al]] w λe w'=>e=.returned (.tuple #[])/\ShTo SA TA BA f M w (fixF c n ap al X) a g D w':=by
 obtain⟨M1,M2,M3,h,rfl⟩:=h;have hwt:Sto.totS X.S+X.T.length+X.K.length<9000:=ht;obtain⟨L,hL⟩:∃L,L=Lat.byF c n X.T:=⟨_,rfl⟩;have hll:L.length<=X.T.length:=by rw[hL];exact Lat.aht c n X.T
 have CC:Hid (∀W,Bw w W->cpr 51 #[pz f.la,.agg #[ui c,ui n]] W λe w'=>∃ao cap,e=.returned (.slice ao L.length cap)/\L.length<=9000/\Hid (∃N2,ShC SA TA BA f M1 N2 M3 {X with T:=Lat.Ee c n X.T} a g D w'/\Kept M2 W w'/\(∀i,N2 i->M2 i\/w.heap.size<=i)/\Lat.IsAt w'.heap.size (.slice ao L.length cap) L w'/\∀k,(Value.slice ao L.length cap).ownBlock=some k->w.heap.size<=k)):=λW hb=>by have hW:=h.on E hb;refine(E.J.cut c n hW.t (by omega)).mono ?_;rintro e w' ⟨v',N2,rfl,hi,hv,hs,hk,hn⟩;rw[<-hL]at hi;have hi':=hi;obtain⟨ao,cap,rfl,-⟩:=hi';exact⟨ao,cap,rfl,by omega,N2,hW.setT E hs hk hn,hk,λi hi=>(hn i hi).imp id (λe=>ak hb.size e),hi,λk e=>ak hb.size (hv k e)⟩
 have CP:Hid (∀(N1 N2:Nat->Prop) (S:Sto.Sk) (x:Bi×Lat.Ii) W,ShC SA TA BA f N1 N2 M3 {X with T:=Lat.Ee c n X.T,S:=S} a g D W->Sto.totS S<10000->cpr 56 #[pz f.sb,.agg #[ui c,ui n],.agg #[uw ap,ui al],.agg #[sd x.1,sd x.2.val,.bool x.2.dead]] W λe w'=>e=.returned (.tuple #[])/\aco SA TA BA f N1 N2 M3 {X with T:=Lat.Ee c n X.T,S:=(Sto.putS x.1 (veI c n ap al x) S).1} a g D W w'):=λN1 N2 S x W hW hS=>awt E c n ap al x.1 x.2.val x.2.dead hW hS;have HT:Hid (∀m,Sto.totS (Jh c n ap al (L.take m) X.S)<10000):=λm=>by have h1:=U5 (c:=c) (n:=n) (ap:=ap) (al:=al) (L:=L.take m) (E.I.sok h.s);have h2:=List.length_take_le' m L;omega
 have HE:Hid (fixF c n ap al X={X with T:=Lat.Ee c n X.T,S:=Jh c n ap al L X.S}):=by rw[hL];rfl
 have HB:Hid (w.heap[f.sb]?=some (.cells (shc f X) 90 (0,0))/\¬M1 f.sb/\¬M2 f.sb):=⟨h.blk,λe=>(h.o _ (.inl e)).1 rfl,λe=>(h.o _ (.inr (.inl e))).1 rfl⟩;have HM:Hid ((∀k,M1 k->k<w.heap.size)/\∀k,M2 k->k<w.heap.size):=⟨λk hk=>(E.I.lt h.s k hk).2,λk hk=>(E.J.lt h.t k hk).2⟩;have HON:Hid (∀{N1 N2:Nat->Prop} {Y:Sd} {W W':World},ShC SA TA BA f N1 N2 M3 Y a g D W->Bw W W'->ShC SA TA BA f N1 N2 M3 Y a g D W'):=λhh hb=>hh.on E hb;have HI:Hid (∀{N1 N2:Nat->Prop} {Y:Sd} {W:World},ShC SA TA BA f N1 N2 M3 Y a g D W->∀k,N1 k->k<W.heap.size):=λhh k hk=>(E.I.lt hh.s k hk).2;have HC:Hid ((shc f X)[3]?=some (pz f.la)):=rfl;generalize shc f X=sc at*;rw[HE.out];clear hwt ht hL hll HE h E;generalize hsb:f.sb=sb at*;generalize hla:f.la=la at*;clear hsb hla;have H0:Hid (Bo w [(w.heap.size+1,.cells #[uw ap,ui al] 38),(w.heap.size,.cells #[ui c,ui n] 36),(sb,.cells sc 90)] ((w.alloc (.cells #[ui c,ui n] 36)).alloc (.cells #[uw ap,ui al] 38))):=by show Bo _ _ _;have h1:=((Bo.one HB.out.1).new (.cells #[ui c,ui n] 36)).new (.cells #[uw ap,ui al] 38);simpa using h1
 go_enter Tryz.func49,Tryz.ntmps49;go_wp2_with fail;generalize (w.alloc (.cells #[ui c,ui n] 36)).alloc (.cells #[uw ap,ui al] 38)=W2 at*;obtain⟨Lo,hLo⟩:∃Lo,Lo=[(w.heap.size+1,Obj.cells #[uw ap,ui al] 38),(w.heap.size,.cells #[ui c,ui n] 36),(sb,.cells sc 90)]:=⟨_,rfl⟩;rw[<-hLo]at H0;have HN:Hid (∀p∈Lo,∀N:Nat->Prop,(N sb->False)->(∀k,N k->k<w.heap.size\/W2.heap.size<=k)->¬N p.1):=λp hp N h0 h1 e=>by
  have h2:=h1 _ e;have h3:=H0.out.has.lt p hp;rw[hLo]at hp;simp only[au,List.not_mem_nil,or_false]at hp;rcases hp with rfl|rfl|rfl
  .dsimp only at h2 h3;omega
  .dsimp only at h2 h3;omega
  .exact h0 e
 have SO:Hid (∀W,Has Lo W->ce W sb 3 (pz la)/\ce W w.heap.size 0 (ui c)/\ce W w.heap.size 1 (ui n)/\Hid (Has Lo W)):=λW hW=>by subst hLo;exact⟨hW.cell tq2 HC.out,hW.cell tq1 rfl,hW.cell tq1 rfl,hW⟩
 have SO2:Hid (∀W,Has Lo W->ce W w.heap.size 0 (ui c)/\ce W w.heap.size 1 (ui n)/\ce W (w.heap.size+1) 0 (uw ap)/\ce W (w.heap.size+1) 1 (ui al)):=λW hW=>by subst hLo;exact⟨hW.cell tq1 rfl,hW.cell tq1 rfl,hW.cell tq0 rfl,hW.cell tq0 rfl⟩
 clear hLo HC;go_region_held3 (λW=>ce W sb 3 (pz la)/\ce W w.heap.size 0 (ui c)/\ce W w.heap.size 1 (ui n)/\Hid (Has Lo W)) (first|exact SO.out _ H0.out.has|exact SO.out _ H0.out.drew.has|exact SO.out _ H1.out) (first|(go_at_call 51;refine(CC.out _ H0.out.drew.bel).mono ?_;rintro e w1 ⟨ao,cap,rfl,hl9,hc⟩;have HCt:Hid _:=hc;have H1:Hid (Has Lo w1):=(by obtain⟨N2,-,hk,-⟩:=hc.out;exact H0.out.drew.has.kept hk (λp hp=>HN.out p hp M2 HB.out.2.2 (λk hk=>.inl (HM.out.2 k hk))));clear hc))
 rename_i hHeld;clear hHeld;obtain⟨N2,hsh,hk1,hn1,his,hrow⟩:=HCt.out;have HD:Hid (ShC SA TA BA f M1 N2 M3 {X with T:=Lat.Ee c n X.T} a g D w1/\Kept (f.In M1 M2 M3 w) w w1/\(∀i,N2 i->M2 i\/w.heap.size<=i)/\Lat.IsAt w1.heap.size (.slice ao L.length cap) L w1/\(∀k,(Value.slice ao L.length cap).ownBlock=some k->¬M1 k)/\w.heap.size<=w1.heap.size/\W2.heap.size<=w1.heap.size):=
  ⟨hsh,(Kept.of_below H0.out.drew.bel).trans (hk1.mono (λi e=>(.inr (.inr (.inr (.inr (.inl e)))):f.In M1 M2 M3 w i))) (λi e=>.inl e),hn1,his,λk e hm=>by have:=hrow k e;have:=HM.out.1 k hm;omega,ak H0.out.drew.bel.size hk1.size,hk1.size⟩
 have F0:Hid (Fx SA TA BA f M1 N2 M3 {X with T:=Lat.Ee c n X.T} a g D c n ap al L Lo w1 0 w1):=⟨⟨M1,hsh,Kept.refl _ _,λ_ e=>.inl e⟩,H1.out⟩;clear hsh hk1 hn1 his hrow HCt CC H0 H1 SO;go_wp2_with fail;go_loopw [15] (λi wr=>∃m:Nat,m<=L.length/\i=iw m/\Fx SA TA BA f M1 N2 M3 {X with T:=Lat.Ee c n X.T} a g D c n ap al L Lo w1 m wr) (λi _=>L.length-(intOf i).toNat)
 case atStart=>exact⟨0,eu _,rfl,F0.out⟩
 case round=>
  obtain⟨m,hm,rfl,hf⟩:=hrel;have HF:Hid _:=hf;obtain⟨⟨N1,hs1,hk1,hn1⟩,hhas⟩:=hf;by_cases hml:m<L.length
  .have hml':(m:Int)<L.length:=by omega
   obtain⟨b,off,rfl,e0,e1,e2,e3,e4,e5,e6,e7,e8,e9⟩:=Lat.IsAt.el (J5 HD.out.2.2.2.1 hk1 HD.out.2.2.2.2.1) hml;have hT:=Lat.Uw hml;generalize L.getD m Lat.di=x at*;obtain⟨k,y⟩:=x;dsimp only at e0 e1 e2 e3 e4 e5 e6 e7 e8 e9;have CQ:Hid (∀W,Bw wr W->cpr 56 #[pz sb,.agg #[ui c,ui n],.agg #[uw ap,ui al],.agg #[sd k,sd y.val,.bool y.dead]] W λe w'=>e=.returned (.tuple #[])/\Fx SA TA BA f M1 N2 M3 {X with T:=Lat.Ee c n X.T} a g D c n ap al L Lo w1 (m+1) w'):=λW hb=>by
    refine(CP.out N1 N2 _ (k,y) W ?_ (HT.out m)).mono ?_
    .exact HON.out hs1 hb
    .rintro e w' ⟨rfl,hp⟩;refine⟨rfl,HF.out.step hT hb hn1 (HI.out hs1) hk1 hp (λp hp=>HN.out p hp N1 ?_ ?_)⟩
     .intro e;rcases hn1 _ e with e|e
      .exact HB.out.2.1 e
      .have:=gp HB.out.1;have:=HD.out.2.2.2.2.2.1;omega
     .intro k hk;rcases hn1 k hk with e|e
      .exact .inl (HM.out.1 k e)
      .exact .inr (ak HD.out.2.2.2.2.2.2 e)
   have H4:Hid (Bo wr [(wr.heap.size,.cells (inC k y) 155)] (wr.alloc (.cells (inC k y) 155))):=⟨Has.one (ae _ _),(aj _ _).alloc (ai _) _⟩;obtain⟨W4,hW4⟩:=xj (wr.alloc (.cells (inC k y) 155));rw[hW4]at H4;have zq0:=SO2.out W4 (hhas.on H4.out.bel);have r7:=H4.out.has.cell tq0 (k:=7) rfl;have r8:=H4.out.has.cell tq0 (k:=8) rfl;have r9:=H4.out.has.cell tq0 (k:=9) rfl;have HQ:Hid (m+1<=L.length):=hml;clear hs1 hk1 hn1 hhas hT hm;go_wp2_with fail;refine(CQ.out _ H4.out.bel).mono ?_;rintro e w5 ⟨rfl,hf5⟩;have HF5:Hid _:=hf5;clear hf5 e0 e1 e2 e3 e4 e5 e6 e7 e8 e9 r7 r8 r9 hW4 zq0;go_wp2_with fail;go_roundw
   case rel=>exact⟨m+1,HQ.out,by go_num,HF5.out⟩
   case measure=>simp[intOf];omega
  .have hml':¬(m:Int)<L.length:=by omega
   have HZ:Hid (L.take m=L):=ay (by omega);clear hs1 hk1 hn1 hhas hm;go_wp2_with fail;go_end0
   refine⟨rfl,?_⟩;obtain⟨⟨N1,hs1,hk1,hn1⟩,-⟩:=HF.out;rw[HZ.out]at hs1;refine ano (M1:=M1) (M2:=M2) (M3:=M3) hs1 (HD.out.2.1.trans (hk1.mono (λi e=>(.inr (.inr (.inr (.inl e))):f.In M1 M2 M3 w i))) (λi e=>.inl e)) (λi hi=>(hn1 i hi).imp id (λe=>ak HD.out.2.2.2.2.2.1 e)) HD.out.2.2.1 (λ_ e=>.inl e)
end Go.Proofs.YtnfpfbehebcdpaaGreat
namespace Go.Proofs.YtnfpfbehebcdpaaGreat
open Go.RowKit
variable {SA:TyS}{TA:TyT}{BA:TyB}
variable {f:Fp}{M:Nat->Prop}{X:Sd}{a:Int}{g:Nat}{D:Drm.Dr}{w W W':World}{Lo:List (Nat×Obj)}
structure Cx(SA:TyS)(TA:TyT)(BA:TyB)(f:Fp)(M:Nat->Prop)(w:World)(X:Sd)(a:Int)(g:Nat)(D:Drm.Dr)(Lo:List (Nat×Obj))(W:World):Prop where
 sh:∃M',ShAt SA TA BA f M' X a g D W/\(∀i,M' i->M i\/w.heap.size<=i)/\∀p∈Lo,¬M' p.1
 kp:Kept M w W
 has:Has Lo W
def Cx.start(h:ShAt SA TA BA f M X a g D w):Cx SA TA BA f M w X a g D [] w:=⟨⟨M,h,λ_ e=>.inl e,λ_ e=>by cases e⟩,Kept.refl _ _,λ_ e=>by cases e⟩
def Cx.to(h:Cx SA TA BA f M w X a g D Lo W):ShTo SA TA BA f M w X a g D W:=by obtain⟨⟨M',h1,h2,-⟩,h3,-⟩:=h;exact⟨M',h1,h3,h2⟩
def Cx.new(E:Env SA TA BA)(h:Cx SA TA BA f M w X a g D Lo W)(cs:Array Value)(ty:TypeId)(ht:ty≠5):Cx SA TA BA f M w X a g D ((W.heap.size,.cells cs ty (0,0))::Lo) (W.alloc (.cells cs ty (0,0))):=by
 obtain⟨⟨M',h1,h2,h3⟩,h4,h5⟩:=h;have hl:∀k,M' k->k<W.heap.size:=λk hk=>h1.lt E hk;obtain⟨M1,M2,M3,hc,rfl⟩:=h1;have hb:=al (W:=W) (.cells cs ty (0,0));refine⟨⟨_,⟨M1,M2,M3,hc.on E hb,rfl⟩,λi hi=>?_,λp hp hi=>?_⟩,h4.trans (Kept.of_below (F:=λ_=>False) hb) (λ_ e=>e.elim),h5.new _⟩
 .exact az2
 .rcases au.1 hp with rfl|hp
  .rcases hi with e|e|e|e|e|e|⟨-,cs',fz,e⟩
   .exact absurd (gp hc.blk) (by rw[<-e];exact Nat.lt_irrefl _)
   .exact absurd (Lgs.Md.lt hc.lg.blk) (by rw[<-e];exact Nat.lt_irrefl _)
   .exact absurd hc.lg.drum.lt (by rw[<-e];exact Nat.lt_irrefl _)
   .exact absurd (E.I.lt hc.s _ e).2 (Nat.lt_irrefl _)
   .exact absurd (E.J.lt hc.t _ e).2 (Nat.lt_irrefl _)
   .exact absurd (E.V.lt hc.v _ e).2 (Nat.lt_irrefl _)
   .rw[ae]at e;exact bcc
  .exact az3
def Cx.on(E:Env SA TA BA)(h:Cx SA TA BA f M w X a g D Lo W)(hb:Bw W W'):Cx SA TA BA f M w X a g D Lo W':=by
 obtain⟨⟨M',h1,h2,h3⟩,h4,h5⟩:=h;obtain⟨M2,h6,h7⟩:=h1.on E hb;refine⟨⟨M2,h6,λi hi=>?_,λp hp hi=>?_⟩,h4.trans (Kept.of_below (F:=λ_=>False) hb) (λ_ e=>e.elim),h5.on hb⟩
 .rcases h7 i hi with e|e
  .exact h2 i e
  .exact .inr (ak h4.size e)
 .rcases h7 _ hi with e|e
  .exact h3 p hp e
  .have:=h5.lt p hp;omega
def Cx.drew(E:Env SA TA BA)(h:Cx SA TA BA f M w X a g D Lo W):Cx SA TA BA f M w X a g D Lo W.drew:=h.on E (aj _ _).drew
def Cx.less{Lo':List (Nat×Obj)}(h:Cx SA TA BA f M w X a g D Lo W)(hl:∀p∈Lo',p∈Lo):Cx SA TA BA f M w X a g D Lo' W:=by obtain⟨⟨M',h1,h2,h3⟩,h4,h5⟩:=h;exact⟨⟨M',h1,h2,λp hp=>h3 p (hl p hp)⟩,h4,λp hp=>h5 p (hl p hp)⟩
def Cx.next{M':Nat->Prop}{X2:Sd}{a2:Int}{g2:Nat}{D2:Drm.Dr}(h:Cx SA TA BA f M w X a g D Lo W)(h2:∀i,M' i->M i\/w.heap.size<=i)(h3:∀p∈Lo,¬M' p.1)(ht:ShTo SA TA BA f M' W X2 a2 g2 D2 W'):Cx SA TA BA f M w X2 a2 g2 D2 Lo W':=by
 obtain⟨M2,h5,h6,h7⟩:=ht;refine⟨⟨M2,h5,λi hi=>?_,λp hp hi=>?_⟩,h.kp.trans h6 h2,h.has.kept h6 h3⟩
 .rcases h7 i hi with e|e
  .exact h2 i e
  .exact .inr (ak h.kp.size e)
 .rcases h7 _ hi with e|e
  .exact h3 p hp e
  .have:=h.has.lt p hp;omega
def Cx.calls{n:Nat}{args:Array Value}{R:Ending->Prop}{X2:Sd}{a2:Int}{g2:Nat}{D2:Drm.Dr}(h:Cx SA TA BA f M w X a g D Lo W)(C:∀M',ShAt SA TA BA f M' X a g D W->cpr n args W λe w'=>R e/\ShTo SA TA BA f M' W X2 a2 g2 D2 w'):cpr n args W λe w'=>R e/\Cx SA TA BA f M w X2 a2 g2 D2 Lo w':=by obtain⟨M',h1,h2,h3⟩:=h.sh;refine(C M' h1).mono ?_;rintro e w' ⟨hr,ht⟩;exact⟨hr,h.next h2 h3 ht⟩
def Cx.ptrs(h:Cx SA TA BA f M w X a g D Lo W):ce W f.sb 0 (pz f.pb)/\ce W f.sb 1 (pz f.lb)/\ce W f.sb 2 (pz f.st)/\ce W f.sb 3 (pz f.la)/\ce W f.sb 4 (pz f.ve):=by obtain⟨M',h1,-,-⟩:=h.sh;exact h1.cells
def Cx.nums(h:Cx SA TA BA f M w X a g D Lo W):ce W f.sb 5 (uw X.sp)/\ce W f.sb 6 (ui X.sl)/\ce W f.sb 7 (uw X.np)/\ce W f.sb 8 (ui X.nl)/\ce W f.sb 9 (uw X.bp)/\ce W f.sb 10 (ui X.bl):=by obtain⟨M',h1,-,-⟩:=h.sh;exact h1.nums
def Cx.free(h:Cx SA TA BA f M w X a g D Lo W)(k:Nat):W.frozen? ⟨f.sb,k,none⟩=false:=by obtain⟨M',h1,-,-⟩:=h.sh;exact h1.free k
def as1(E:Env SA TA BA)(h:ShAt SA TA BA f M X a g D w)(j:Nat)(u v:Value)(X':Sd)(hX:((shc f X).setIfInBounds j u).setIfInBounds (j+1) v=shc f X')(hS:X'.S=X.S)(hT:X'.T=X.T)(hK:X'.K=X.K):ShTo SA TA BA f M w X' a g D ((w.setCell ⟨f.sb,j,none⟩ u).setCell ⟨f.sb,j+1,none⟩ v):=by obtain⟨M1,M2,M3,h,rfl⟩:=h;have h1:=Drm.Aq (k:=j) (u:=u) h.blk;have h2:=Drm.Aq (k:=j+1) (u:=v) h1;rw[hX]at h2;refine to_n E h h2 ⟨rfl,rfl,rfl,by simp,λk hk hn=>?_⟩ hS hT hK;rw[jl _ _ _ _ hn,jl _ _ _ _ hn]
def Cx.set(E:Env SA TA BA)(h:Cx SA TA BA f M w X a g D Lo W)(j:Nat)(u v:Value)(X':Sd)(hX:((shc f X).setIfInBounds j u).setIfInBounds (j+1) v=shc f X')(hS:X'.S=X.S)(hT:X'.T=X.T)(hK:X'.K=X.K):Cx SA TA BA f M w X' a g D Lo ((W.setCell ⟨f.sb,j,none⟩ u).setCell ⟨f.sb,j+1,none⟩ v):=by obtain⟨M',h1,h2,h3⟩:=h.sh;exact h.next h2 h3 (as1 E h1 j u v X' hX hS hT hK)
def Cx.aod(E:Env SA TA BA)(h:Cx SA TA BA f M w X a g D Lo W)(p l:Int):Cx SA TA BA f M w {X with np:=p,nl:=l} a g D Lo ((W.setCell ⟨f.sb,7,none⟩ (uw p)).setCell ⟨f.sb,8,none⟩ (ui l)):=h.set E 7 _ _ _ rfl rfl rfl rfl
def Cx.as4(E:Env SA TA BA)(h:Cx SA TA BA f M w X a g D Lo W)(p l:Int):Cx SA TA BA f M w {X with sp:=p,sl:=l} a g D Lo ((W.setCell ⟨f.sb,5,none⟩ (uw p)).setCell ⟨f.sb,6,none⟩ (ui l)):=h.set E 5 _ _ _ rfl rfl rfl rfl
def Cx.aoe(E:Env SA TA BA)(h:Cx SA TA BA f M w X a g D Lo W)(p l:Int):Cx SA TA BA f M w {X with bp:=p,bl:=l} a g D Lo ((W.setCell ⟨f.sb,9,none⟩ (uw p)).setCell ⟨f.sb,10,none⟩ (ui l)):=h.set E 9 _ _ _ rfl rfl rfl rfl
def info30:(Tryz.prog.info? 36).map (λi=>(i.zero,i.size,i.bytes))=some (some (.agg #[ui 0,ui 0]),2,8):=by kernel_rfl
def tx_ow{base n:Nat}{sa:Option Addr}{sc:Nat}{l:List (Int×Int)}{w:World}(c m:Int)(ho:w.ownsRow base 36 2 (.slice sa n sc) n (rowC Ver.txc l))(hb:base<=w.heap.size)(hl:n<100000):
  Ow base 36 2 (.slice sa n sc) n (rowC Ver.txc l) (w.heap.size+1) (.slice (some ⟨w.heap.size,0,none⟩) 1 1) 1 (rowC Ver.txc [(c,m)]) (w.alloc (.cells #[ui c,ui m] 36)):=
 ⟨ho.alloc _,row_one Ver.txc 2 (λ_=>rfl) (c,m) 36 w (λj u hj=>by
  match j,hj with
  |0,hj=>simp[Ver.txc]at hj;rw[<-hj];simp[go_sem,Ver.txc]
  |1,hj=>simp[Ver.txc]at hj;rw[<-hj];simp[go_sem,Ver.txc]
  |j+2,hj=>simp[Ver.txc]at hj),O7 Ver.txc (λx u hu=>by simp[Ver.txc]at hu;rcases hu with rfl|rfl<;>rfl) _,ak hb (by simp),by omega⟩
def al4(E:Env SA TA BA)(h:ShAt SA TA BA f M X a g D w)(ht:X.T.length<9000):cpr 54 #[pz f.sb] w λe w'=>∃v',e=.returned v'/\w'.ownsRow w.heap.size 36 2 v' (Eh X.T).length (rowC Ver.txc (Eh X.T))/\Bw w w':=by
 obtain⟨i0,hin0,hi0,hi1,hi2⟩:=qc info30;have CA:Hid (1=1->cpr 58 #[pz f.la] w λe w'=>∃ao cap,e=.returned (.slice ao X.T.length cap)/\Lat.IsAt w'.heap.size (.slice ao X.T.length cap) X.T w'/\Bw w w'):=λ_=>by refine(ai3 E h (by omega)).mono ?_;rintro e w' ⟨v',rfl,hi,-,hb⟩;have hi':=hi;obtain⟨ao,cap,rfl,-⟩:=hi';exact⟨ao,cap,rfl,hi,hb⟩
 have c3:=h.cells.2.2.2.1;obtain⟨T,hT⟩:=xj X.T;rw[hT]at CA ht|-;have HL:Hid (T.length<9000):=ht;have hL9:T.length<9223372036854775808:=by omega
 have HH:Hid (∀q,q<T.length->Eh (T.take (q+1))=Eh (T.take q)++[((T.getD q Lat.di).2.c,(T.getD q Lat.di).2.n)]):=λq hq=>by rw[Lat.Uw hq];simp[Eh]
 clear hT h ht E;generalize f.sb=sb at*;generalize f.la=la at*;go_enter Tryz.func54,Tryz.ntmps54;go_wp2_with fail;refine(CA.out (by trivial)).mono ?_;rintro e w1 ⟨ao,cap,rfl,his,hb1⟩;have HI:Hid _:=his;have HB1:Hid _:=hb1;clear his hb1 CA c3;go_wp2_with fail;go_loopw [3,12] (λvv i wr=>∃q:Nat,q<=T.length/\i=iw q/\wr.ownsRow w1.heap.size 36 2 vv (Eh (T.take q)).length (rowC Ver.txc (Eh (T.take q)))/\Bw w1 wr) (λ_ i _=>T.length-(intOf i).toNat)
 case atStart=>exact⟨0,eu _,rfl,Lat.Ip _ _ _ _,aj _ _⟩
 case round=>
  obtain⟨q,hq,rfl,hown,hbr⟩:=hrel;obtain⟨sa,sc,rfl,-,-,-,-⟩:=Bl hown;have HO:Hid _:=hown;have HB:Hid (Bw w1 wr):=hbr;clear hown hbr;by_cases hml:q<T.length
  .obtain⟨b,off,rfl,e0,e1,e2,e3,e4,e5,e6,e7,e8,e9⟩:=Lat.IsAt.el (RwAt.on HI.out HB.out) hml;have hml':(q:Int)<T.length:=by omega
   have hH:=HH.out q hml;have hln:(Eh (T.take q)).length<100000:=by simp only[Eh,mr];have:=List.length_take_le' q T;have:=HL.out;omega
   generalize T.getD q Lat.di=x at*;obtain⟨k,y⟩:=x;dsimp only at e0 e1 e2 e3 e4 e5 e6 e7 e8 e9 hH;obtain⟨R1,hR1⟩:=xj (Eh (T.take (q+1)));rw[hR1]at hH;have HR1:Hid (Eh (T.take (q+1))=R1):=hR1;generalize Eh (T.take q)=R at*;have HHq:Hid (R1=R++[(y.c,y.n)]):=hH;have HQ:Hid (q+1<=T.length):=hml;have H4:Hid (Bo wr [(wr.heap.size,.cells (inC k y) 155)] (wr.alloc (.cells (inC k y) 155))):=⟨Has.one (ae _ _),al _⟩;obtain⟨W4,hW4⟩:=xj (wr.alloc (.cells (inC k y) 155));rw[hW4]at H4;have r0:=H4.out.has.cell tq0 (k:=0) rfl;have r1:=H4.out.has.cell tq0 (k:=1) rfl;have HOw:Hid (Ow w1.heap.size 36 2 (.slice sa R.length sc) R.length (rowC Ver.txc R) (W4.heap.size+1) (.slice (some ⟨W4.heap.size,0,none⟩) 1 1) 1 (rowC Ver.txc [(y.c,y.n)]) (W4.alloc (.cells #[ui y.c,ui y.n] 36))):=tx_ow y.c y.n (Jy HO.out H4.out.bel) (ak HB.out.size H4.out.bel.size) hln;have HBz:Hid (Bw w1 (W4.alloc (.cells #[ui y.c,ui y.n] 36))):=(HB.out.trans (H4.out.bel.mono HB.out.size)).alloc (ak HB.out.size H4.out.bel.size) _;clear hH hR1 hq hln;go_wp2_with (at_builtin;refine Ea HOw.out Tryz.underlying40 hin0 hi0 hi1 hi2 rfl (by decide) (by decide) (.tmp 16) (.tmp 19) rfl rfl rfl rfl ?_);intro v' w4 hown hg hat;have HB4:Hid (Bw w1 w4):=Lat.J4 HBz.out HOw.out.size HOw.out.own hg;obtain⟨sa4,sc4,rfl,-,-,-,-⟩:=Bl hown;have HO4:Hid (w4.ownsRow w1.heap.size 36 2 (.slice sa4 (R.length+1) sc4) (R++[(y.c,y.n)]).length (rowC Ver.txc (R++[(y.c,y.n)]))):=by rw[Ku,af];exact hown
   clear hown hg hat HOw HBz;go_wp2_with fail;go_roundw
   case rel=>exact⟨q+1,HQ.out,by go_num,by rw[HR1.out,HHq.out];exact HO4.out,HB4.out⟩
   case measure=>simp[intOf];omega
  .have hml':¬(q:Int)<T.length:=by omega
   have HZ:Hid (T.take q=T):=ay (by omega);rw[HZ.out]at HO;generalize hR:T.take q=Tq at*;rw[HZ.out]at hR|-;clear hR;go_wp2_with fail;go_ret;exact⟨_,rfl,Lj HO.out HB1.out.size,HB1.out.trans (HB.out.mono HB1.out.size)⟩
