import Derived.Test.YtnfpfbehebcdpaaGreatVbb
import Derived.Test.YtnfpfbehebcdpaaGreatVbc
set_option maxHeartbeats 0
set_option maxRecDepth 99999
set_option linter.all false
namespace Go.Proofs.YtnfpfbehebcdpaaGreat
variable {X R:Sd}{D:Drm.Dr}{c n p l:Int}{t:Bool}{a g G N N':Nat}
def ah1{e:Ent.En}(h:Srt R.T):Srt (Bc e R).T:=by
 unfold Bc fixF;split
 .exact h
 split
 .rcases Lat.Na (Lat.Ag e.sp e.sl&&Lat.Ag e.mp e.ml&&kOk e.prim) e.c e.n e.sp e.sl e.mp e.ml e.prim e.ws R.T with⟨z,h1,_⟩|⟨h1,_⟩<;>dsimp only<;>rw[h1]
  .exact h
  .exact Lat.aaj h
 split
 .exact Lat.Gf h _
 split
 .exact Lat.Gf h _
 split
 .exact Lat.Gf h _
 split
 .exact h
 split
 .exact h
 split<;>exact h
def ati(es:List Ent.En):Srt (Rep es).T:=by
 have:∀(es:List Ent.En) (R:Sd),Srt R.T->Srt (es.foldl (λX e=>Bc e X) R).T:=λes=>by
  induction es with
  |nil=>exactλR h=>h
  |cons e es ih=>exactλR h=>ih _ (ah1 h)
 exact this es _ ry
def Un.sub{T U:Lat.Tb}(h:Un T)(hs:∀x∈U,x∈T):Un U:=λx hx y hy=>h x (hs x hx) y (hs y hy)
def ama{e:Ent.En}(h:Un R.T):Un (Bc e R).T:=by
 unfold Bc fixF;split
 .exact h
 split
 .rcases Lat.Na (Lat.Ag e.sp e.sl&&Lat.Ag e.mp e.ml&&kOk e.prim) e.c e.n e.sp e.sl e.mp e.ml e.prim e.ws R.T with⟨z,h1,_⟩|⟨h1,_,_,h4,_⟩<;>dsimp only<;>rw[h1]
  .exact h
  .intro x hx y hy e1 e2;rcases Nv hx with hx|⟨w,_,rfl⟩<;>rcases Nv hy with hy|⟨w',_,rfl⟩
   .exact h x hx y hy e1 e2
   .exact(of_by h4 x hx e1 e2).elim
   .exact(of_by h4 y hy e1.symm e2.symm).elim
   .rfl
 split
 .exact h.sub Nr
 split
 .exact h.sub Nr
 split
 .exact h.sub Nr
 split
 .exact h
 split
 .exact h
 split<;>exact h
structure LgU(t:Bool)(c n p l:Int)(R:Sd):Prop where
 un:Un R.T
 rb:Clk.Ag R.bp R.bl=true
 lg:t=true->Lg1 c n p l R
def amb{e:Ent.En}(h:Clk.Ag R.bp R.bl=true)(hw:(Ent.Bj e).2=0):Clk.Ag (Bc e R).bp (Bc e R).bl=true:=by
 unfold Bc fixF;split
 .unfold Ent.Bj at hw;split at hw
  .next hr=>
   unfold Ent.Eo at hr;simp only[cu,Ent.Ec,dh]at hr;simp only[Clk.Ag,dh];omega
  .cases hw
 repeat' split
 all_goals exact h
def LgU.follow{e:Ent.En}(h:LgU t c n p l R)(g:t=true->Gd1 c n p l e)(hw:(Ent.Bj e).2=0)(hS:Srt R.T):LgU t c n p l (Bc e R):=⟨ama h.un,amb h.rb hw,λht=>amd (g ht) hS (h.lg ht)⟩
structure EsOk(t:Bool)(c n p l:Int)(N:Nat)(es:List Ent.En):Prop where
 wr:∀e∈es,(Ent.Bj e).2=0
 ok:∀e∈es,Ent.EnOk e/\e.k<=7
 len:es.length<=N
 lg:LgU t c n p l (Rep es)
def enc(es:List Ent.En):List Bi:=es.map λe=>(Ent.Bj e).1
def EsOk.up{es:List Ent.En}(h:EsOk t c n p l N es)(hN:N<=N'):EsOk t c n p l N' es:=⟨h.wr,h.ok,ak h.len hN,h.lg⟩
def EsOk.snoc{es:List Ent.En}{e:Ent.En}(h:EsOk t c n p l N es)(g:t=true->Gd1 c n p l e)(ho:Ent.EnOk e/\e.k<=7)(hw:(Ent.Bj e).2=0):EsOk t c n p l (N+1) (es++[e]):=
 ⟨λx hx=>(bu.1 hx).elim (h.wr x) λhx=>by rw[kw.1 hx];exact hw,λx hx=>(bu.1 hx).elim (h.ok x) λhx=>by rw[kw.1 hx];exact ho,by rw[af];exact Nat.add_le_add_right h.len 1,by rw[Zu];exact h.lg.follow g hw (ati es)⟩
structure Hu(t:Bool)(c n p l:Int)(N a g G:Nat)(X:Sd)(D:Drm.Dr):Prop where
 d:D.down=false
 ok:D.Ok
 le:g<=G
 es:∃es,Lgs.Holds D a g (enc es)/\Rl X (Rep es)/\EsOk t c n p l N es
structure Hd1(t:Bool)(c n p l:Int)(N G:Nat)(D:Drm.Dr):Prop where
 d:D.down=true
 ok:D.Ok
 es:∀keep,∃es,Lgs.Yf (D.fall keep) (enc es) G/\EsOk t c n p l N es
structure Iv(t:Bool)(c n p l:Int)(N a g G:Nat)(X:Sd)(D:Drm.Dr):Prop where
 mm:t=true->Mm1 c n p l X
 dr:Hu t c n p l N a g G X D\/Hd1 t c n p l N G D
def Hu.up(h:Hu t c n p l N a g G X D)(hN:N<=N'):Hu t c n p l N' a g G X D:=⟨h.d,h.ok,h.le,h.es.imp λes h=>⟨h.1,h.2.1,h.2.2.up hN⟩⟩
def Hd1.up(h:Hd1 t c n p l N G D)(hN:N<=N'):Hd1 t c n p l N' G D:=⟨h.d,h.ok,λk=>(h.es k).imp λes h=>⟨h.1,h.2.up hN⟩⟩
def Iv.up(h:Iv t c n p l N a g G X D)(hN:N<=N'):Iv t c n p l N' a g G X D:=⟨h.mm,h.dr.imp (λh=>h.up hN) λh=>h.up hN⟩
def ajp{e:Ent.En}(h:Hu t c n p l N a g G X D)(ho:Ent.EnOk e/\e.k<=7)(gd:t=true->Gd1 c n p l e):((Az e X a D).1=0->Hu t c n p l (N+1) a g G (Bc e X) (Az e X a D).2.2/\(Az e X a D).2.1=Bc e X)/\((Az e X a D).1≠0->(Az e X a D).2.1=X/\(Hu t c n p l (N+1) a g G X (Az e X a D).2.2\/Hd1 t c n p l (N+1) G (Az e X a D).2.2)):=by
 obtain⟨hd,hO,hG,es,h1,h2,h3⟩:=h;unfold Az;split
 .next h0=>exact⟨λe=>absurd e h0,λ_=>⟨rfl,.inl ⟨hd,hO,hG,es,h1,h2,h3.up (Nat.le_succ N)⟩⟩⟩
 next h0=>
 have hw:(Ent.Bj e).2=0:=mi.1 h0;have hO':=Lgs.Uo hO a (Ent.Bj e).1;have sn:=h3.snoc gd ho hw;have h3':=h3.up (Nat.le_succ N);have en:enc (es++[e])=enc es++[(Ent.Bj e).1]:=by simp[enc]
 rcases Lgs.aek (r:=(Ent.Bj e).1) h1 hd hO hG with⟨k1,_,k3,k4,_⟩|⟨k1,k2⟩|⟨k1,_,k3,k4⟩
 .rw[ag (by rw[k1];simp)];exact⟨λ_=>⟨⟨k4,hO',hG,es++[e],by rw[en];exact k3,by rw[Zu];exact h2.follow e,sn⟩,rfl⟩,λe=>absurd rfl e⟩
 .rw[ah (by rcases k1 with⟨k,_⟩|⟨k,_⟩<;>rw[k]<;>decide)];refine⟨λe=>?_,λ_=>⟨rfl,.inl ?_⟩⟩
  .dsimp only at e;rcases k1 with⟨k,_⟩|⟨k,_⟩<;>rw[k]at e<;>cases e
  .dsimp only;rw[k2];exact⟨hd,hO,hG,es,h1,h2,h3'⟩
 .rw[ah (by rw[k1];decide)];refine⟨λe=>?_,λ_=>⟨rfl,.inr ⟨k3,hO',λkeep=>?_⟩⟩⟩
  .dsimp only at e;rw[k1]at e;cases e
  .rcases k4 keep with k|k
   .exact⟨es,k,h3'⟩
   .exact⟨es++[e],by rw[en];exact k,sn⟩
def Iv.note{e:Ent.En}(hm:t=true->Mm1 c n p l X)(h:Hu t c n p l N a g G X D)(ho:Ent.EnOk e/\e.k<=7)(gd:t=true->Gd1 c n p l e):Iv t c n p l (N+1) a g G (Az e X a D).2.1 (Az e X a D).2.2:=by
 obtain⟨h1,h2⟩:=ajp h ho gd;by_cases e0:(Az e X a D).1=0
 .obtain⟨k1,k2⟩:=h1 e0;rw[k2];exact⟨λht=>amc (gd ht) (hm ht),.inl k1⟩
 .obtain⟨k1,k2⟩:=h2 e0;rw[k1];exact⟨hm,k2⟩
end Go.Proofs.YtnfpfbehebcdpaaGreat
namespace Go.Proofs.YtnfpfbehebcdpaaGreat
variable {X:Sd}{D:Drm.Dr}{c n p l:Int}{t:Bool}{a g G N:Nat}
def Hu.clock{q m:Int}(h:Hu t c n p l N a g G X D):Hu t c n p l N a g G {X with np:=q,nl:=m} D:=by obtain⟨h1,h2,h3,es,h4,h5,h6⟩:=h;exact⟨h1,h2,h3,es,h4,h5.clock q m,h6⟩
def age{q m:Int}(hr:Clk.Ag q m=true):Clk.Ar (Clk.Be q m).1 (Clk.Be q m).2 q m=false:=by have h:=hr;simp only[Clk.Ag,dh]at h;unfold Clk.Be;rw[ah hr,Clk.F6];dsimp only;omega
def aql{q m:Int}(hp:Ts q m)(hr:Clk.Ag q m=true)(hw:Clk.Ar q m p l=false):Gd1 c n p l (Ei (Clk.Be q m).1 (Clk.Be q m).2):=by have hb:=O4 hp;have h1:=age hr;refine⟨λ_=>?_,λk=>absurd k (by show¬(1:Int)=2;omega),λk=>absurd k (by show¬((1:Int)=3\/(1:Int)=4);omega),by show(1:Int)<=7;omega⟩;show Clk.Ar ((Clk.Be q m).1.toNat:Int) ((Clk.Be q m).2.toNat:Int) p l=false;rw[Bh hb.1.1,Bh hb.2.1];rw[Clk.F6]at*;omega
def ary{q m:Int}(hp:Ts q m)(hr:Clk.Ag q m=true)(hw:t=true->Clk.Ar q m p l=false)(hm:t=true->Mm1 c n p l X)(h:Hu t c n p l N a g G X D):
  Iv t c n p l (N+1) a g G (advF q m X a D).2.1 (advF q m X a D).2.2/\((advF q m X a D).1=0->Hu t c n p l (N+1) a g G (advF q m X a D).2.1 (advF q m X a D).2.2/\(advF q m X a D).2.1.np=q/\(advF q m X a D).2.1.nl=m):=by
 have gd:t=true->Gd1 c n p l (Ei (Clk.Be q m).1 (Clk.Be q m).2):=λht=>aql hp hr (hw ht);have ho:Ent.EnOk (Ei (Clk.Be q m).1 (Clk.Be q m).2)/\(Ei (Clk.Be q m).1 (Clk.Be q m).2).k<=7:=⟨afe (O4 hp),by show(1:Int)<=7;omega⟩;obtain⟨k1,k2⟩:=ajp (a:=a) (D:=D) h ho gd;have iv:=Iv.note (a:=a) (D:=D) hm h ho gd;have hup:=h.up (Nat.le_succ N);unfold advF;split
 .split
  .next e=>exact⟨iv,λe2=>absurd e2 e⟩
  .next e=>
   have e0:=mi.1 e;obtain⟨j1,j2⟩:=k1 e0;have hu:Hu t c n p l (N+1) a g G {(Az (Ei (Clk.Be q m).1 (Clk.Be q m).2) X a D).2.1 with np:=q,nl:=m} (Az (Ei (Clk.Be q m).1 (Clk.Be q m).2) X a D).2.2:=by rw[j2];exact j1.clock
   refine⟨⟨λht=>?_,.inl hu⟩,λ_=>⟨hu,rfl,rfl⟩⟩;have:=iv.mm ht;exact⟨this.v,this.b,hw ht,this.t⟩
 .exact⟨⟨λht=>⟨(hm ht).v,(hm ht).b,hw ht,(hm ht).t⟩,.inl hup.clock⟩,λ_=>⟨hup.clock,rfl,rfl⟩⟩
def Yy{f q m:Int}(hq:Ts q m)(hX:XOk X)(hm:t=true->Mm1 c n p l X)(h:Hu t c n p l N a g G X D):
  Iv t c n p l (N+1) a g G (Ah f q m X a D).2.1 (Ah f q m X a D).2.2/\((Ah f q m X a D).1=0->Hu t c n p l (N+1) a g G (Ah f q m X a D).2.1 (Ah f q m X a D).2.2/\Clk.Ar (Ah f q m X a D).2.1.np (Ah f q m X a D).2.1.nl q m=false/\Clk.Ag (Ah f q m X a D).2.1.np (Ah f q m X a D).2.1.nl=true):=by
 unfold Ah;split
 .next e=>exact⟨⟨hm,.inl (h.up (Nat.le_succ N))⟩,λe2=>absurd e2 e⟩
 next e=>
 have e0:=mi.1 e;obtain⟨m1,m2,m3,hmm⟩:∃m1 m2 m3,Clk.Du X.np X.nl f q m=(m1,m2,m3):=⟨_,_,_,rfl⟩;have mt:=Q3 (fp:=f) hX.n hq;rw[hmm]at e0 mt|-;dsimp only at e0 mt|-;have ok:=Clk.abz _ _ _ _ _ _ _ _ hmm;have hr:Clk.Ag m1 m2=true:=by simp only[Clk.Ag,dh];omega
 have h1:Clk.Ar m1 m2 q m=false:=by rw[Clk.F6];omega
 have h2:Clk.Ar m1 m2 X.np X.nl=false:=by rw[Clk.F6];omega
 obtain⟨j1,j2⟩:=ary (a:=a) (D:=D) mt hr (λht=>by have:=(hm ht).w;rw[Clk.F6]at*;omega) hm h
 exact⟨j1,λe=>by obtain⟨i1,i2,i3⟩:=j2 e;rw[i2,i3];exact⟨i1,h1,hr⟩⟩
def IsUp.raise{T:Lat.Tb}(h:IsUp c n p l T)(ec en mp ml:Int):IsUp c n p l (Lat.rseF ec en mp ml T):=λx hx h1 h2=>by
 unfold Lat.rseF at hx;split at hx
 .obtain⟨y,hy,rfl⟩:=jb.1 hx;dsimp only at h1 h2|-;rw[(Fh _ _ _ _ y.2).1]at h1;rw[(Fh _ _ _ _ y.2).2.1]at h2;have:=h y hy h1 h2;unfold Lat.Hg;split
  .next e=>
   simp only[cu,Lat.ltT,Bool.or_eq_true,dh]at e;dsimp only;rw[Clk.Hm]at*;omega
  .exact this
 .exact h x hx h1 h2
def Iv.same{N':Nat}(hm:t=true->Mm1 c n p l X)(h:Hu t c n p l N a g G X D)(hN:N<=N'):Iv t c n p l N' a g G X D:=⟨hm,.inl (h.up hN)⟩
def aao{e:Ent.En}(h:e.k=5\/e.k=6\/e.k=7):Gd1 c n p l e:=⟨λk=>by omega,λk=>by omega,λk=>by omega,by omega⟩
def aqk{e:Ent.En}(k:e.k=3\/e.k=4)(h:(e.c:Int)=c->(e.n:Int)=n->Clk.Ar p l e.ap e.al=true):Gd1 c n p l e:=⟨λk=>by omega,λk=>by omega,λ_=>h,by omega⟩
def ad4{gc gn sp sl:Int}(hc:Ver.R32 gc/\Ver.R32 gn)(hs:Ts sp sl)(hm:t=true->Mm1 c n p l X)(h:Hu t c n p l N a g G X D):Iv t c n p l (N+1) a g G (Fz gc gn sp sl X a D).2.1 (Fz gc gn sp sl X a D).2.2:=by
 have:=Iv.note (a:=a) (D:=D) (e:=La gc gn sp sl) hm h ⟨adh hc hs,by show(5:Int)<=7;omega⟩ (λ_=>aao (.inl rfl));unfold Fz;split
 .split<;>exact this
 .exact Iv.same hm h (Nat.le_succ N)
def aka{f:Int}{q:Rq}{lo hi:Bi}(hq:Ts q.sp q.sl)(hX:XOk X)(hm:t=true->Mm1 c n p l X)(h:Hu t c n p l N a g G X D):Iv t c n p l (N+1) a g G (Cm f q lo hi X a D).2.1 (Cm f q lo hi X a D).2.2:=by
 have:=(Yy (f:=f) hq hX hm h).1;unfold Cm;split
 .exact Iv.same hm h (Nat.le_succ N)
 split<;>exact this
def arx{f:Int}{q:Rq}(hq:RqOk q)(hX:XOk X)(hf:0<=f)(I:Iv t c n p l N a g G X D):Iv t c n p l (N+3) a g G (ansF f q X a D).2.1 (ansF f q X a D).2.2:=by
 cases hr:Et q with
 |false=>unfold ansF;rw[ah hr];exact I.up (by omega)
 |true=>
 obtain⟨hm,h|h⟩:=I;rotate_left
 .unfold ansF;rw[ag (by rw[hr];simp),ah h.d];exact⟨hm,.inr (h.up (by omega))⟩
 have R:=Iv.same (N':=N+3) hm h (by omega);have hr2:=hr;unfold Et at hr2;simp only[cu,dh]at hr2;obtain⟨-,r6⟩:=hr2;have HS:=Yy (f:=f) hq.s hX hm h;have HA:=Yy (f:=f) hq.a hX hm h;have sA:=(L8 (f:=f) (a:=a) (D:=D) hq.a hX).1;have sS:=L8 (f:=f) (a:=a) (D:=D) hq.s hX;unfold ansF;rw[ag (by rw[hr];simp),ag (by rw[h.d];simp)];split
 .unfold getFn;split<;>exact(aka hq.s hX hm h).up (by omega)
 split
 .unfold Ib;split<;>exact(aka hq.s hX hm h).up (by omega)
 split
 .next k3=>
  rw[ag (by omega),ah k3,cu]at r6;unfold Oa;split
  .exact R
  split
  .exact R
  split
  .exact R
  split
  .exact R
  dsimp only;split
  .exact HS.1.up (by omega)
  next e1=>
  obtain⟨u1,u2,u3⟩:=HS.2 (mi.1 e1);obtain⟨t1,t2,t3,ht⟩:∃t1 t2 t3,Clk.Ir (Ah f q.sp q.sl X a D).2.1.np (Ah f q.sp q.sl X a D).2.1.nl f=(t1,t2,t3):=⟨_,_,_,rfl⟩;have tt:=acx sS.2.n hf;rw[ht]at tt|-;dsimp only at tt|-;split
  .exact HS.1.up (by omega)
  next e2=>
  have ok:=Clk.anp _ _ _ _ _ _ ht sS.2.n.1.1 sS.2.n.2.1;have hrt:Clk.Ag t1 t2=true:=by simp only[Clk.Ag,dh];omega
  have hup:t=true->Clk.Ar p l t1 t2=true:=λh'=>by have:=(HS.1.mm h').w;rw[Clk.F6]at this;rw[Clk.Hm];omega
  obtain⟨v1,v2⟩:=ary (a:=a) (D:=(Ah f q.sp q.sl X a D).2.2) tt hrt (λh'=>by have:=hup h';rw[Clk.Hm]at this;rw[Clk.F6];omega) HS.1.mm u1
  split
  .exact v1.up (by omega)
  next e3=>
  have N0:=Iv.note (a:=a) (e:=eLay q.c q.n q.sp q.sl t1 t2 q.key q.ws) v1.mm (v2 (mi.1 e3)).1 ⟨ahh hq.c hq.s tt r6.1 r6.2,by show(2:Int)<=7;omega⟩ (λh'=>⟨λk=>absurd k (by show¬(2:Int)=1;omega),λ_ _ _=>by show Clk.Ar p l (t1.toNat:Int) (t2.toNat:Int)=true;rw[Bh tt.1.1,Bh tt.2.1];exact hup h',λk=>absurd k (by show¬((2:Int)=3\/(2:Int)=4);omega),by show(2:Int)<=7;omega⟩)
  split<;>exact N0.up (by omega)
 split
 .unfold Oe;split
  .exact R
  split
  .exact R
  next x e3=>
  split
  .exact R
  split
  .exact R
  next e4=>
  dsimp only;split
  .exact HA.1.up (by omega)
  next e5=>
  have N0:=Iv.note (a:=a) (e:=Ie q.c q.n x.2.sp x.2.sl q.ap q.al q.pt) HA.1.mm (HA.2 (mi.1 e5)).1 ⟨Wy hq.c (hX.i x (Pj e3).1).1 hq.a hq.p,by show(3:Int)<=7;omega⟩ (λh'=>aqk (.inl rfl) λh1 h2=>by have ow:=Pj e3;have:=(hm h').t x ow.1 (ow.2.1.trans ((Bh hq.c.1.1).symm.trans h1)) (ow.2.2.trans ((Bh hq.c.2.1).symm.trans h2));show Clk.Ar p l (q.ap.toNat:Int) (q.al.toNat:Int)=true;rw[Bh hq.a.1.1,Bh hq.a.2.1];rw[uh]at e4;rw[Clk.F6]at e4;rw[Clk.Hm]at*;omega)
  split<;>exact N0.up (by omega)
 split
 .obtain⟨b,hb⟩:=arw f q X (a:Int);rw[hb X D rfl];split
  .exact R
  split
  .exact R
  next x e3=>
  split
  .exact R
  next e4=>
  dsimp only;split
  .exact HA.1.up (by omega)
  next e5=>
  have N0:=Iv.note (a:=a) (e:=I4 q.c q.n q.ap q.al) HA.1.mm (HA.2 (mi.1 e5)).1 ⟨aac hq.c hq.a,by show(4:Int)<=7;omega⟩ (λh'=>aqk (.inr rfl) λh1 h2=>by have ow:=Pj e3;have:=(hm h').t x ow.1 (ow.2.1.trans ((Bh hq.c.1.1).symm.trans h1)) (ow.2.2.trans ((Bh hq.c.2.1).symm.trans h2));show Clk.Ar p l (q.ap.toNat:Int) (q.al.toNat:Int)=true;rw[Bh hq.a.1.1,Bh hq.a.2.1];rw[Bool.or_eq_true,uo,uh,uh]at e4;have e6:=e4.2;rw[Clk.F6]at e6;rw[Clk.Hm]at*;omega)
  split<;>exact N0.up (by omega)
 split
 .unfold Nj;split
  .exact R
  .exact(ad4 hq.c hq.s hm h).up (by omega)
 split
 .unfold Kw;split
  .exact R
  split
  .exact(ad4 hq.c hq.s hm h).up (by omega)
  next x e3=>
  split
  .exact R
  split
  .exact(ad4 hq.c (hX.i x (Pj e3).1).1 hm h).up (by omega)
  split
  .exact R
  split
  .exact R
  dsimp only;split
  .exact HA.1.up (by omega)
  next e5=>
  obtain⟨u1,-⟩:=HA.2 (mi.1 e5);obtain⟨h1,h2,h3,es,h4,h5,h6⟩:=u1;exact⟨λh'=>⟨(HA.1.mm h').v,(HA.1.mm h').b,(HA.1.mm h').w,(HA.1.mm h').t.raise _ _ _ _⟩,.inl ⟨h1,h2,h3,es,h4,h5.raise _ _ _ _,h6.up (by omega)⟩⟩
 split
 .have N0:=Iv.note (a:=a) (D:=D) (e:=Lc q.ap q.al) hm h ⟨adi hq.a,by show(6:Int)<=7;omega⟩ (λ_=>aao (.inr (.inl rfl)));unfold Nq;split
  .exact R
  split<;>exact N0.up (by omega)
 .have N0:=Iv.note (a:=a) (D:=D) (e:=I7 q.c q.n) hm h ⟨adk hq.c,by show(7:Int)<=7;omega⟩ (λ_=>aao (.inr (.inr rfl)));unfold Jq;repeat' split
  all_goals first|exact R|exact N0.up (by omega)
end Go.Proofs.YtnfpfbehebcdpaaGreat
namespace Go.Proofs.YtnfpfbehebcdpaaGreat
variable {X R:Sd}{D:Drm.Dr}{c n p l:Int}{t:Bool}{a g G N:Nat}
def Yw{T U:Lat.Tb}(h:T.map stpI=U.map stpI){x:Bi×Lat.Ii}(hx:x∈T):∃y∈U,stpI y=stpI x:=by
 have:stpI x∈U.map stpI:=by rw[<-h];exact jb.2 ⟨x,hx,rfl⟩
 obtain⟨y,hy,e⟩:=jb.1 this;exact⟨y,hy,e⟩
def acz{x y:Bi×Lat.Ii}(h:stpI y=stpI x):y.1=x.1/\y.2.c=x.2.c/\y.2.n=x.2.n/\y.2.prim=x.2.prim:=
 ⟨iq (·.1) h,iq (λz=>z.2.c) h,iq (λz=>z.2.n) h,iq (λz=>z.2.prim) h⟩
def Un.stp{T U:Lat.Tb}(hu:Un U)(h:T.map stpI=U.map stpI):Un T:=λx hx y hy e1 e2=>by obtain⟨x',hx',k1⟩:=Yw h hx;obtain⟨y',hy',k2⟩:=Yw h hy;obtain⟨-,a1,a2,a3⟩:=acz k1;obtain⟨-,b1,b2,b3⟩:=acz k2;rw[<-a3,<-b3];exact hu x' hx' y' hy' (by rw[a1,b1,e1]) (by rw[a2,b2,e2])
def Yk.stp{T U:Lat.Tb}(hp:Yk c n T)(h:T.map stpI=U.map stpI):Yk c n U:=by obtain⟨y,hy,h1,h2,h3⟩:=hp;obtain⟨z,hz,k⟩:=Yw h hy;obtain⟨a0,a1,a2,a3⟩:=acz k;exact⟨z,hz,a1.trans h1,a2.trans h2,by rw[a0,a3,h3]⟩
def ae8{T:Lat.Tb}{q m:Int}(hr:Lat.Ag q m=true)(hn:∃y∈T,y.2.c=c/\y.2.n=n)(hu:Clk.Ar p l q m=true):IsUp c n p l (Lat.rseF c n q m T):=λx hx h1 h2=>by
 obtain⟨y,hy,y1,y2⟩:=hn;have hb:Lat.Wj c n q m T=true:=by unfold Lat.Wj;have:y∈Lat.byF c n T:=jh.2 ⟨hy,by simp[Lat.ofBy,y1,y2]⟩;rw[hr,decide_eq_true (List.length_pos_of_mem this)];rfl
 unfold Lat.rseF at hx;rw[ah hb]at hx;obtain⟨z,hz,rfl⟩:=jb.1 hx;dsimp only at h1 h2|-;rw[(Fh _ _ _ _ z.2).1]at h1;rw[(Fh _ _ _ _ z.2).2.1]at h2;unfold Lat.Hg;split
 .exact hu
 .next e=>
  have hz2:Lat.ofBy c n z.2=true:=by simp[Lat.ofBy,h1,h2]
  rw[hz2,Bool.true_and,uh]at e;simp only[Lat.ltT,Bool.or_eq_false_iff,yf,oh]at e;rw[Clk.Hm]at*;omega
def azq{q m:Int}(hp:Ts q m)(hr:Clk.Ag q m=true)(h0:(advF q m X a D).1=0):Clk.Ar (advF q m X a D).2.1.bp (advF q m X a D).2.1.bl q m=false:=by
 unfold advF at h0|-;split
 .next e=>
  rw[ah e]at h0;split at h0
  .next e2=>exact absurd h0 e2
  .next e2=>
   rw[ag e2];dsimp only;rw[alo (mi.1 e2),Vq];have hb:=O4 hp;dsimp only;rw[Bh hb.1.1,Bh hb.2.1];exact age hr
 .next e=>simpa using e
def au0{f q m:Int}(hq:Ts q m)(hX:XOk X)(h0:(Ah f q m X a D).1=0):Clk.Ar (Ah f q m X a D).2.1.bp (Ah f q m X a D).2.1.bl q m=false:=by
 unfold Ah at h0|-;split
 .next e=>rw[ah e]at h0;exact absurd h0 e
 next e=>
 rw[ag e]at h0;have e0:=mi.1 e;obtain⟨m1,m2,m3,hmm⟩:∃m1 m2 m3,Clk.Du X.np X.nl f q m=(m1,m2,m3):=⟨_,_,_,rfl⟩;have mt:=Q3 (fp:=f) hX.n hq;rw[hmm]at e0 mt h0|-;dsimp only at e0 mt h0|-;have ok:=Clk.abz _ _ _ _ _ _ _ _ hmm;have hr:Clk.Ag m1 m2=true:=by simp only[Clk.Ag,dh];omega
 have:=azq mt hr h0;rw[Clk.F6]at*;omega
def puQ(c n p l:Int):Rq:=⟨7,c,n,0,0,p,l,[],[],0,0,[],[]⟩
def ato{f:Int}(hq:RqOk (puQ c n p l))(hX:XOk X)(hS:Srt X.T)(hz:(p==0&&l==0)=false)(I:Iv false c n p l N a g G X D)(h8:(Hf f (puQ c n p l) X a D).1.k=8):
  Iv true c n p l (N+3) a g G (Hf f (puQ c n p l) X a D).2.1 (Hf f (puQ c n p l) X a D).2.2/\Clk.Ar p l (Hf f (puQ c n p l) X a D).1.ap (Hf f (puQ c n p l) X a D).1.al=true/\(Clk.Di p l).2.2=0:=by
 have e1:(Hf f (puQ c n p l) X a D).1.k=(ansF f (puQ c n p l) X a D).1.k:=rfl;have e2:(Hf f (puQ c n p l) X a D).2=(ansF f (puQ c n p l) X a D).2:=rfl;have e3:(Hf f (puQ c n p l) X a D).1.ap=(ansF f (puQ c n p l) X a D).1.ap:=rfl;have e4:(Hf f (puQ c n p l) X a D).1.al=(ansF f (puQ c n p l) X a D).1.al:=rfl;rw[e1]at h8;rw[e2,e3,e4];clear e1 e2 e3 e4;cases hr:Et (puQ c n p l)with
 |false=>
  rw[show ansF f (puQ c n p l) X a D=(Cb 1,X,D)from by unfold ansF;rw[ah hr]]at h8;cases h8
 |true=>
 obtain⟨-,h|h⟩:=I;rotate_left
 .rw[show ansF f (puQ c n p l) X a D=(Cb 11,X,D)from by unfold ansF;rw[ag (by rw[hr];simp),ah h.d]]at h8;cases h8
 have ha:ansF f (puQ c n p l) X a D=Kw f (puQ c n p l) X a D:=by unfold ansF;rw[ag (by rw[hr];simp),ag (by rw[h.d];simp)];rfl
 rw[ha]at h8|-;have G6:∀c n sp sl:Int,(Fz c n sp sl X a D).1.k≠8:=λc n sp sl=>by
  unfold Fz;repeat' split
  all_goals (show¬(_:Int)=8;first|(show¬(6:Int)=8;omega)|(show¬(0:Int)=8;omega))
 have HA:=Yy (t:=false) (c:=c) (n:=n) (p:=p) (l:=l) (f:=f) hq.a hX (λe=>by cases e) h;have sA:=(L8 (f:=f) (a:=a) (D:=D) hq.a hX).1;unfold Kw at h8|-;split at h8
 .next r hk=>
  exfalso;unfold Cj at hk;split at hk
  .injection hk with hk;rw[<-hk]at h8;dsimp only at h8;split at h8<;>cases h8
  .obtain⟨v,_,rfl⟩:=rq.1 hk;cases h8
 next hk=>
 (try rw[hk])
 (try dsimp only)
 split at h8
 .exact absurd h8 (G6 _ _ _ _)
 next x hx=>
 (try rw[hx])
 (try dsimp only)
 split at h8
 .cases h8
 next hpr=>
 (try rw[ag hpr])
 split at h8
 .exact absurd h8 (G6 _ _ _ _)
 next hla=>
 (try rw[ag hla])
 rw[ag (show¬((puQ c n p l).ap==0&&(puQ c n p l).al==0)=true from by rw[show((puQ c n p l).ap==0&&(puQ c n p l).al==0)=(p==0&&l==0)from rfl,hz];simp)]at h8|-;split at h8
 .cases h8
 next hnx=>
 (try rw[ag hnx])
 dsimp only at h8|-;split at h8
 .cases h8
 next hhe=>
 (try rw[ag hhe])
 have n0:(Clk.Di p l).2.2=0:=mi.1 hnx;have h0:=mi.1 hhe;obtain⟨u1,u2,u3⟩:=HA.2 h0;obtain⟨q1,q2,q3,hqn⟩:∃q1 q2 q3,Clk.Di p l=(q1,q2,q3):=⟨_,_,_,rfl⟩;have nok:=Clk.U6 _ _ _ _ _ hqn hq.a.1.1 hq.a.2.1;rw[hqn]at n0;dsimp only at n0;have hup:Clk.Ar p l q1 q2=true:=by rw[Clk.Hm];omega
 have hrq:Lat.Ag q1 q2=true:=by simp only[Lat.Ag,dh];omega
 have ow:=Pj hx;have hown:∃y∈(Ah f p l X a D).2.1.T,y.2.c=c/\y.2.n=n:=⟨x,by rw[show(Ah f p l X a D).2.1.T=X.T from sA.T];exact ow.1,ow.2⟩;have isu:IsUp c n p l (Lat.rseF c n q1 q2 (Ah f p l X a D).2.1.T):=ae8 hrq hown hup;have hbd:=au0 (f:=f) (a:=a) (D:=D) hq.a hX h0;have vs:Yj c n p l X.S:=λz hz u hu h1 h2=>by
  exfalso;unfold Cj at hk;split at hk
  .cases hk
  .have:=Option.map_eq_none_iff.1 hk;have:=List.find?_eq_none.1 this u (List.mem_flatMap.2 ⟨z,hz,hu⟩);rw[show(puQ c n p l).c=c from rfl,show(puQ c n p l).n=n from rfl,h1,h2]at this;simp at this
 obtain⟨es,k1,k2,k3⟩:=u1.es;have un:Un X.T:=by rw[<-sA.T];exact k3.lg.un.stp k2.T
 have prin:Yk c n X.T:=by
  rw[Bool.not_eq_false]at hpr;unfold Jd at hpr;split at hpr
  .next y hy=>
   simp only[cu,xh]at hpr;have hm:=(Dy hS).1 hy;refine⟨(x.2.prim,y),hm,hpr.1.trans ow.2.1,hpr.2.trans ow.2.2,?_⟩;exact(un (x.2.prim,y) hm x ow.1 hpr.1 hpr.2).symm
  .cases hpr
 have eS:(Ah f p l X a D).2.1.S=X.S:=sA.S;refine⟨⟨λ_=>⟨?_,hbd,u2,?_⟩,.inl ⟨u1.d,u1.ok,u1.le,es,k1,?_,⟨k3.wr,k3.ok,ak k3.len (by omega),k3.lg.un,k3.lg.rb,λ_=>⟨?_,?_,.inl ?_⟩⟩⟩⟩,?_,by rw[hqn];exact n0⟩
 .show Yj c n p l (Ah f p l X a D).2.1.S;rw[eS];exact vs
 .show IsUp c n p l (Lat.rseF c n (Clk.Di p l).1 (Clk.Di p l).2.1 (Ah f p l X a D).2.1.T);rw[hqn];exact isu
 .exact k2.raise _ _ _ _
 .rw[<-k2.S];show Yj c n p l (Ah f p l X a D).2.1.S;rw[eS];exact vs
 .rw[<-k2.bp,<-k2.bl];exact hbd
 .exact(by rw[<-sA.T]at prin;exact prin:Yk c n (Ah f p l X a D).2.1.T).stp k2.T
 .show Clk.Ar p l (Clk.maxF x.2.mp x.2.ml (Clk.Di p l).1 (Clk.Di p l).2.1).1 (Clk.maxF x.2.mp x.2.ml (Clk.Di p l).1 (Clk.Di p l).2.1).2=true;rw[hqn];unfold Clk.maxF;split
  .exact hup
  .next e=>
   rw[uh,Clk.F6]at e;rw[Clk.Hm]at*;dsimp only at e|-;omega
def wkT(X:Sd):Int×Int:=if(Clk.Di X.bp X.bl).2.2≠0 then(X.bp,X.bl)else((Clk.Di X.bp X.bl).1,(Clk.Di X.bp X.bl).2.1)
def wk1(q m:Int)(T:Lat.Tb)(x:Bi×Lat.Ii):Lat.Tb:=if x.1=x.2.prim then Lat.rseF x.2.c x.2.n q m T else T
def Nh(X:Sd):Sd:={X with np:=X.bp,nl:=X.bl,T:=X.T.foldl (wk1 (wkT X).1 (wkT X).2) X.T}
def aja(ec en q m:Int)(T:Lat.Tb):(Lat.rseF ec en q m T).map stpI=T.map stpI:=((Rl.refl {Sd.new with T:=T}).raise ec en q m).T
def agk(q m:Int):∀(L:Lat.Tb) (T:Lat.Tb),(L.foldl (wk1 q m) T).map stpI=T.map stpI
 |[],_=>rfl
 |x::L,T=>by
  rw[List.foldl_cons,agk q m L];unfold wk1;split
  .exact aja _ _ _ _ _
  .rfl
def anb(q m:Int):∀(L:Lat.Tb) {T:Lat.Tb},IsUp c n p l T->IsUp c n p l (L.foldl (wk1 q m) T)
 |[],_,h=>h
 |x::L,T,h=>anb q m L (by
  unfold wk1;split
  .exact h.raise _ _ _ _
  .exact h)
def awl{q m:Int}(hr:Lat.Ag q m=true)(hu:Clk.Ar p l q m=true):∀(L:Lat.Tb) {T:Lat.Tb},(∃y∈L,y.2.c=c/\y.2.n=n/\y.1=y.2.prim)->(∃y∈T,y.2.c=c/\y.2.n=n)->IsUp c n p l (L.foldl (wk1 q m) T)
 |[],_,⟨_,hy,_⟩,_=>by cases hy
 |x::L,T,⟨y,hy,h1,h2,h3⟩,hT=>by
  rw[List.foldl_cons];rcases az.1 hy with rfl|hy
  .refine anb q m L ?_;unfold wk1;rw[ah h3,h1,h2];exact ae8 hr hT hu
  .refine awl hr hu L ⟨y,hy,h1,h2,h3⟩ ?_;obtain⟨z,hz,z1,z2⟩:=hT;unfold wk1;split
   .obtain⟨z',hz',k⟩:=Yw (aja x.2.c x.2.n q m T).symm hz;obtain⟨-,a1,a2,-⟩:=acz k;exact⟨z',hz',a1.trans z1,a2.trans z2⟩
   .exact⟨z,hz,z1,z2⟩
def aio{es:List Ent.En}(h:EsOk t c n p l N es)(hx:Ts (Rep es).bp (Rep es).bl)(hn:t=true->(Clk.Di p l).2.2=0/\Ts p l){D':Drm.Dr}(hd:D'.down=false)(hO:D'.Ok)(hG:g<=G)(hH:Lgs.Holds D' a g (enc es)):Iv t c n p l N a g G (Nh (Rep es)) D':=by
 have rl:Rl (Nh (Rep es)) (Rep es):=⟨rfl,agk _ _ _ _,rfl,rfl,rfl,rfl,rfl⟩;refine⟨λht=>?_,.inl ⟨hd,hO,hG,es,hH,rl,h⟩⟩;have lg:=h.lg.lg ht;refine⟨lg.v,lg.b,lg.b,?_⟩;show IsUp c n p l ((Rep es).T.foldl (wk1 (wkT (Rep es)).1 (wkT (Rep es)).2) (Rep es).T);rcases lg.t with hp|hu
 .have hb:=lg.b;obtain⟨hn1,hn2⟩:=hn ht;obtain⟨a1,a2,a3,e1⟩:∃a1 a2 a3,Clk.Di (Rep es).bp (Rep es).bl=(a1,a2,a3):=⟨_,_,_,rfl⟩;obtain⟨b1,b2,b3,e2⟩:∃b1 b2 b3,Clk.Di p l=(b1,b2,b3):=⟨_,_,_,rfl⟩;have o1:=Clk.U6 _ _ _ _ _ e1 hx.1.1 hx.2.1;have o2:=Clk.U6 _ _ _ _ _ e2 hn2.1.1 hn2.2.1;rw[e2]at hn1;dsimp only at hn1;have hrb:=h.lg.rb;simp only[Clk.Ag,dh]at hrb;have hw:Lat.Ag (wkT (Rep es)).1 (wkT (Rep es)).2=true/\Clk.Ar p l (wkT (Rep es)).1 (wkT (Rep es)).2=true:=by
   unfold wkT;rw[e1];dsimp only;rw[Clk.F6]at hb;split
   .next e=>
    have hmax:(Rep es).bp=281474976710656/\(Rep es).bl=4095:=by
     have:=e1;unfold Clk.Di at this;rw[ah (by simp only[Clk.Ag,dh];omega)]at this;split at this
     .simp only[jl]at this;omega
     .split at this
      .simp only[jl]at this;omega
      .omega
    simp only[Lat.Ag,dh,Clk.Hm];omega
   .next e=>
    simp only[Lat.Ag,dh,Clk.Hm];omega
  obtain⟨y,hy,h1,h2,h3⟩:=hp;exact awl hw.1 hw.2 _ ⟨y,hy,h1,h2,h3⟩ ⟨y,hy,h1,h2⟩
 .exact anb _ _ _ hu
