import Derived.Test.YtnfpfbehebcdpaaGreatUba
set_option maxHeartbeats 0
set_option maxRecDepth 99999
set_option linter.all false
namespace Go.Proofs.YtnfpfbehebcdpaaGreat
variable {X:Sd}{a:Int}{D:Drm.Dr}
def Up(_:Drm.Dr):Prop:=True
def Up.app(_:Up D)(a:Int)(r:List (UInt8)):Up (Lgs.Bv D a r).2:=trivial
structure Gd(X:Sd):Prop where
 ok:XOk X
 ri:∀x∈X.T,Clk.Ag x.2.sp x.2.sl=true
 ky:∀x∈X.S,kOk x.1=true
def Gd.same{X':Sd}(h:Gd X)(s:Ik X X')(o:XOk X'):Gd X':=⟨o,by rw[s.T];exact h.ri,by rw[s.S];exact h.ky⟩
def adt{c n ap al:Int}:∀{L:Lat.Tb} {S:Sto.Sk},(∀x∈S,kOk x.1=true)->∀x∈Jh c n ap al L S,kOk x.1=true
 |[],_,h=>h
 |y::r,S,h=>adt (L:=r) (λx hx=>by
  unfold Sto.putS at hx;split at hx
  .next e=>
   split at hx
   .rcases F5 hx with rfl|hx
    .exact e
    .exact h x hx
   .exact h x hx
  .exact h x hx)
def ap5{p l:Int}{S:Sto.Sk}(h:∀x∈S,kOk x.1=true):∀x∈Sto.Ed p l S,kOk x.1=true:=λx hx=>by
 obtain⟨y,hy,e⟩:=List.mem_filterMap.1 hx;unfold Sto.Pi at e;split at e
 .cases e
 .injection e with e;subst e;exact h y hy
def ath{T U:Lat.Tb}(h:Ver.RgT (Eh T))(hs:∀x∈U,x∈T):Ver.RgT (Eh U):=λy hy=>by obtain⟨x,hx,rfl⟩:=je.1 hy;exact h _ (je.2 ⟨x,hs x hx,rfl⟩)
def as3{v x:Ver.Vd}{K:Ver.Bk}(h:x∈(Ver.setB v K).1):x=v\/x∈K:=by
 unfold Ver.setB at h;split at h
 .split at h
  .exact .inr h
  .exact Ver.adz.1 h
 .exact .inr h
def aq7{c n:Int}{x:Ver.Vd}{K:Ver.Bk}(h:x∈(Ver.I8 c n K).1):x∈K\/∃y∈K,x={y with dn:=true}:=by
 unfold Ver.I8 at h;split at h
 .split at h
  .obtain⟨y,hy,rfl⟩:=je.1 h;split
   .exact .inr ⟨y,hy,rfl⟩
   .exact .inl hy
  .exact .inl h
 .exact .inl h
def Nv{f:Wr->Lat.Ii}{x:Bi×Lat.Ii}:∀{l:List Wr} {T:Lat.Tb},x∈Lat.Gj f l T->x∈T\/∃w∈l,x=(w.key,f w)
 |[],_,h=>.inl h
 |w::l,T,h=>by
  rcases Nv (l:=l) h with h|⟨y,hy,e⟩
  .rcases F5 h with h|h
   .exact .inr ⟨w,ji ..,h⟩
   .exact .inl h
  .exact .inr ⟨y,gy _ hy,e⟩
def Nr{c n:Int}{T:Lat.Tb}:∀x∈Lat.Ee c n T,x∈T:=λ_ h=>(jh.1 h).1
def Gd.cut(h:Gd X)(c n:Int){S:Sto.Sk}{K:Ver.Bk}(hK:∀v∈K,Ver.RgV v)(hs:∀x∈S,kOk x.1=true):Gd {X with S:=S,T:=Lat.Ee c n X.T,K:=K}:=
 ⟨⟨h.ok.s,h.ok.n,h.ok.b,ath h.ok.t Nr,λx hx=>h.ok.i x (Nr x hx),hK⟩,λx hx=>h.ri x (Nr x hx),hs⟩
def Gd.book(h:Gd X){K:Ver.Bk}(hK:∀v∈K,Ver.RgV v):Gd {X with K:=K}:=⟨⟨h.ok.s,h.ok.n,h.ok.b,h.ok.t,h.ok.i,hK⟩,h.ri,h.ky⟩
def aoa{v:Ver.Vd}{K:Ver.Bk}(hv:Ver.RgV v)(hK:∀v∈K,Ver.RgV v):∀x∈(Ver.setB v K).1,Ver.RgV x:=λx hx=>by
 rcases as3 hx with rfl|h
 .exact hv
 .exact hK x h
def ace{e:Ent.En}(he:Ent.EnOk e)(hk:2<=e.k/\e.k<=7)(hT:Lat.TOk X.T)(hS:Sto.SOk X.S)(h:Gd X):Gd (Bc e X)/\(Bc e X).wt<=X.wt+16:=by
 obtain⟨r1,r2,r3,r4,r5⟩:=aom he;have hm:=he.mp;have hs:=he.sp;have hb:=Lat.akk e.c e.n X.T;unfold Bc;rw[ag (by omega)];split
 .constructor
  .refine⟨⟨h.ok.s,h.ok.n,h.ok.b,?_,?_,h.ok.k⟩,?_,h.ky⟩;all_goals
    rcases Lat.Na (Lat.Ag e.sp e.sl&&Lat.Ag e.mp e.ml&&kOk e.prim) e.c e.n e.sp e.sl e.mp e.ml e.prim e.ws X.T with⟨z,h1,_⟩|⟨h1,_,h2,_⟩<;>dsimp only<;>rw[h1]
   .exact h.ok.t
   .intro y hy;obtain⟨x,hx,rfl⟩:=je.1 hy;rcases Nv hx with hx|⟨w,_,rfl⟩
    .exact h.ok.t _ (je.2 ⟨x,hx,rfl⟩)
    .exact r4
   .exact h.ok.i
   .intro x hx;rcases Nv hx with hx|⟨w,_,rfl⟩
    .exact h.ok.i x hx
    .exact⟨⟨⟨by show(0:Int)<=(e.sp:Int);omega,by show(e.sp:Int)<_;omega⟩,by show(0:Int)<=(e.sl:Int);omega,by show(e.sl:Int)<_;omega⟩,⟨by show(0:Int)<=(e.mp:Int);omega,by show(e.mp:Int)<_;omega⟩,by show(0:Int)<=(e.ml:Int);omega,by show(e.ml:Int)<_;omega⟩
   .exact h.ri
   .intro x hx;rcases Nv hx with hx|⟨w,_,rfl⟩
    .exact h.ri x hx
    .simp only[cu]at h2;exact h2.1.1
  .have:=Lat.aul hT (Lat.Ag e.sp e.sl&&Lat.Ag e.mp e.ml&&kOk e.prim) e.c e.n e.sp e.sl e.mp e.ml e.prim e.ws;unfold Sd.wt;dsimp only;omega
 split
 .refine⟨h.cut _ _ (aoa r2 h.ok.k) (adt h.ky),?_⟩;have h1:=U5 (c:=e.c) (n:=e.n) (ap:=e.ap) (al:=e.al) (L:=Lat.byF e.c e.n X.T) hS;have h2:=Ver.ai6 ⟨e.c,e.n,e.sp,e.sl,e.ap,e.al,e.pt,false⟩ X.K;unfold Sd.wt fixF;dsimp only;omega
 split
 .refine⟨h.cut _ _ h.ok.k (adt h.ky),?_⟩;have h1:=U5 (c:=e.c) (n:=e.n) (ap:=e.ap) (al:=e.al) (L:=Lat.byF e.c e.n X.T) hS;unfold Sd.wt fixF;dsimp only;omega
 split
 .refine⟨h.cut _ _ (aoa r3 h.ok.k) h.ky,?_⟩;have h2:=Ver.ai6 ⟨e.c,e.n,e.sp,e.sl,0,0,0,false⟩ X.K;unfold Sd.wt;dsimp only;omega
 split
 .refine⟨⟨⟨⟨⟨r5.1.1,r5.1.2⟩,r5.2.1,r5.2.2⟩,h.ok.n,h.ok.b,h.ok.t,h.ok.i,λv hv=>h.ok.k v (jh.1 hv).1⟩,h.ri,ap5 h.ky⟩,?_⟩;have h1:=Sto.V3 e.ap e.al (S:=X.S) hS.all;have h2:=Ver.ajd e.ap e.al (Eh X.T) X.K;unfold Sd.wt;dsimp only;omega
 split
 .refine⟨h.book (λv hv=>?_),?_⟩
  .rcases aq7 hv with hv|⟨y,hy,rfl⟩
   .exact h.ok.k v hv
   .have:=h.ok.k y hy;exact⟨this.c,this.n,this.sp,this.sl,this.ap,this.al,this.pt⟩
  .unfold Sd.wt;dsimp only;rw[Ver.amm];omega
 .omega
def at7{e:Ent.En}(he:Ent.EnOk e)(hk:2<=e.k/\e.k<=7)(hT:Lat.TOk X.T)(hS:Sto.SOk X.S)(h:Gd X)(u:Up D):Gd (Az e X a D).2.1/\(Az e X a D).2.1.wt<=X.wt+16/\Up (Az e X a D).2.2:=by
 unfold Az;split
 .exact⟨h,by dsimp only;omega,u⟩
 split
 .exact⟨h,by dsimp only;omega,u.app _ _⟩
 .obtain⟨h1,h2⟩:=ace he hk hT hS h;exact⟨h1,h2,u.app _ _⟩
def Up.bound(u:Up D)(p l:Int):Up (Az (Ei p l) X a D).2.2:=by
 unfold Az;split
 .exact u
 split<;>exact u.app _ _
def arz{p l:Int}(hp:Ts p l)(h:Gd X)(u:Up D):Gd (advF p l X a D).2.1/\Ik X (advF p l X a D).2.1/\Up (advF p l X a D).2.2:=by
 obtain⟨h1,h2⟩:=aih (a:=a) (D:=D) hp h.ok;refine⟨h.same h1 h2,h1,?_⟩;unfold advF;split
 .split<;>exact u.bound _ _
 .exact u
def ad2{f p l:Int}(hp:Ts p l)(h:Gd X)(u:Up D):Gd (Ah f p l X a D).2.1/\Ik X (Ah f p l X a D).2.1/\Up (Ah f p l X a D).2.2:=by
 unfold Ah;split
 .exact⟨h,Ik.refl X,u⟩
 .exact arz (Q3 h.ok.n hp) h u
end Go.Proofs.YtnfpfbehebcdpaaGreat
namespace Go.Proofs.YtnfpfbehebcdpaaGreat
variable {X:Sd}{a f:Int}{D:Drm.Dr}{q:Rq}
def known_none{c n:Int}(h:Cj c n X=none):Ver.getB c n X.K=none:=by
 unfold Cj at h;cases hg:Ver.getB c n X.K with
 |none=>rfl
 |some v=>rw[hg]at h;cases h
def Pj{c n:Int}{x:Bi×Lat.Ii}(h:ownF c n X=some x):x∈X.T/\x.2.c=c/\x.2.n=n:=by have h1:=jh.1 (List.mem_of_mem_head? h);have h2:=h1.2;simp only[Lat.ofBy,cu,uq]at h2;exact⟨h1.1,h2⟩
def own_none{c n:Int}(h:ownF c n X=none):Lat.byF c n X.T=[]:=by simpa[ownF]using h
def arw(f:Int)(q:Rq)(X:Sd)(a:Int):∃b:Bool,∀(X':Sd) (D:Drm.Dr),X'.K=X.K->Lm f q X' a D=if b=true then(G9 9,X',D)else match ownF q.c q.n X' with
  |none=>(G9 9,X',D)
  |some x=>
   if Jd x.2 X'||Clk.Ar q.ap q.al x.2.mp x.2.ml then(Cb 1,X',D)else
   let h:=Ah f q.ap q.al X' a D
   if h.1≠0 then(Cb h.1,h.2)else
   let o:=Az (I4 q.c q.n q.ap q.al) h.2.1 a h.2.2
   if o.1≠0 then(Cb o.1,o.2)else(G9 9,o.2):=by
 cases hg:Ver.getB q.c q.n X.K with
 |none=>exact⟨false,λX' D e=>by unfold Lm;rw[e,hg];rfl⟩
 |some v=>exact⟨!Ver.cmB v,λX' D e=>by unfold Lm;rw[e,hg];rfl⟩
def aze(q:Rq)(X:Sd)(a:Int)(D:Drm.Dr):(Jq q X a D=(G9 9,X,D))\/((∃v,Ver.getB q.c q.n X.K=some v/\Ver.cmB v=true)/\Jq q X a D=if(Az (I7 q.c q.n) X a D).1≠0 then(Cb (Az (I7 q.c q.n) X a D).1,(Az (I7 q.c q.n) X a D).2)else(G9 9,(Az (I7 q.c q.n) X a D).2)):=by
 unfold Jq;cases hg:Ver.getB q.c q.n X.K with
 |none=>exact .inl rfl
 |some v=>
  dsimp only;by_cases hv:(Ver.cmB v&& !v.dn)=false
  .exact .inl (ah hv)
  .have hc:Ver.cmB v=true:=by
    cases h:Ver.cmB v with
    |true=>rfl
    |false=>rw[h]at hv;exact absurd rfl hv
   exact .inr ⟨⟨v,rfl,hc⟩,ag hv⟩
def Fh(c n p l:Int)(x:Lat.Ii):(Lat.Hg c n p l x).c=x.c/\(Lat.Hg c n p l x).n=x.n/\(Lat.Hg c n p l x).sp=x.sp/\(Lat.Hg c n p l x).sl=x.sl/\(Lat.Hg c n p l x).prim=x.prim:=by unfold Lat.Hg;split<;>exact⟨rfl,rfl,rfl,rfl,rfl⟩
structure Lv(X:Sd)(A:Sd×Drm.Dr):Prop where
 g:Gd A.1
 w:A.1.wt<=X.wt+16
 u:Up A.2
def Lv.refl(h:Gd X)(u:Up D):Lv X (X,D):=⟨h,Nat.le_add_right _ _,u⟩
def Lv.note{e:Ent.En}{X1:Sd}{D1:Drm.Dr}(s:Ik X X1)(he:Ent.EnOk e)(hk:2<=e.k/\e.k<=7)(hT:Lat.TOk X.T)(hS:Sto.SOk X.S)(h:Gd X1)(u:Up D1):Lv X (Az e X1 a D1).2:=by obtain⟨h1,h2,h3⟩:=at7 (a:=a) he hk (by rw[s.T];exact hT) (by rw[s.S];exact hS) h u;exact⟨h1,by rw[s.wt]at h2;exact h2,h3⟩
def adr{c n sp sl:Int}(hc:Ver.R32 c/\Ver.R32 n)(hs:Ts sp sl)(hT:Lat.TOk X.T)(hS:Sto.SOk X.S)(h:Gd X)(u:Up D):Lv X (Fz c n sp sl X a D).2:=by
 have:=Lv.note (a:=a) (Ik.refl X) (adh hc hs) (by show(2:Int)<=5/\(5:Int)<=7;omega) hT hS h u;unfold Fz;split
 .split<;>exact this
 .exact Lv.refl h u
def adq{p l:Int}(hp:Ts p l)(h:Gd X)(u:Up D):Lv X (Ah f p l X a D).2:=by obtain⟨h1,h2,h3⟩:=ad2 (f:=f) (a:=a) hp h u;exact⟨h1,by rw[h2.wt];omega,h3⟩
def aju{lo hi:Bi}(hq:RqOk q)(h:Gd X)(u:Up D):Lv X (Cm f q lo hi X a D).2:=by
 have:=adq (f:=f) (a:=a) hq.s h u;unfold Cm;split
 .exact Lv.refl h u
 split<;>exact this
def azp(hq:RqOk q)(hT:Lat.TOk X.T)(hS:Sto.SOk X.S)(h:Gd X)(u:Up D)(hf:0<=f):Lv X (ansF f q X a D).2:=by
 have R:=Lv.refl h u;have NT:∀e X1 D1,Ik X X1->Ent.EnOk e->2<=e.k/\e.k<=7->Gd X1->Up D1->Lv X (Az e X1 a D1).2:=λe X1 D1 s he hk h u=>Lv.note s he hk hT hS h u;have HS:=ad2 (f:=f) (a:=a) hq.s h u;have HA:=ad2 (f:=f) (a:=a) hq.a h u;have LS:=adq (f:=f) (a:=a) hq.s h u;have LA:=adq (f:=f) (a:=a) hq.a h u;cases hr:Et q with
 |false=>unfold ansF;rw[ah hr];exact R
 |true=>
 have hr2:=hr;unfold Et at hr2;simp only[cu,jc]at hr2;obtain⟨-,r6⟩:=hr2;unfold ansF;rw[ag (by rw[hr];simp)];split
 .exact R
 split
 .unfold getFn;split<;>exact aju hq h u
 split
 .unfold Ib;split<;>exact aju hq h u
 split
 .next k3=>
  rw[ag (by omega),ah k3,cu]at r6;unfold Oa;split
  .exact R
  split
  .exact R
  split
  .exact R
  split
  .exact R
  dsimp only;split
  .exact LS
  split
  .exact LS
  have g2:=acx HS.1.ok.n hf;have AV:=arz (a:=a) g2 HS.1 HS.2.2;split
  .exact⟨AV.1,by rw[AV.2.1.wt,HS.2.1.wt];omega,AV.2.2⟩
  split<;>exact NT _ _ _ (HS.2.1.trans AV.2.1) (ahh hq.c hq.s g2 r6.1 r6.2) (by show(2:Int)<=2/\(2:Int)<=7;omega) AV.1 AV.2.2
 split
 .unfold Oe;split
  .exact R
  split
  .exact R
  next x e3=>
  have hi:=(h.ok.i x (Pj e3).1).1;split
  .exact R
  split
  .exact R
  dsimp only;split
  .exact LA
  split<;>exact NT _ _ _ HA.2.1 (Wy hq.c hi hq.a hq.p) (by show(2:Int)<=3/\(3:Int)<=7;omega) HA.1 HA.2.2
 split
 .obtain⟨b,hb⟩:=arw f q X a;rw[hb X D rfl];split
  .exact R
  split
  .exact R
  split
  .exact R
  dsimp only;split
  .exact LA
  split<;>exact NT _ _ _ HA.2.1 (aac hq.c hq.a) (by show(2:Int)<=4/\(4:Int)<=7;omega) HA.1 HA.2.2
 split
 .unfold Nj;split
  .exact R
  .exact adr hq.c hq.s hT hS h u
 split
 .unfold Kw;split
  .exact R
  split
  .exact adr hq.c hq.s hT hS h u
  next x e3=>
  have hi:=(h.ok.i x (Pj e3).1).1;split
  .exact R
  split
  .exact adr hq.c hi hT hS h u
  split
  .exact R
  split
  .exact R
  dsimp only;split
  .exact LA
  .have hn:=Yv hq.a;have hz:∀y∈Lat.rseF q.c q.n (Clk.Di q.ap q.al).1 (Clk.Di q.ap q.al).2.1 (Ah f q.ap q.al X a D).2.1.T,∃x∈(Ah f q.ap q.al X a D).2.1.T,y=x\/y=(x.1,Lat.Hg q.c q.n (Clk.Di q.ap q.al).1 (Clk.Di q.ap q.al).2.1 x.2):=λy hy=>by
    exact bbv
   have o:=HA.1.ok;refine⟨⟨⟨o.s,o.n,o.b,?_,?_,o.k⟩,?_,HA.1.ky⟩,?_,HA.2.2⟩
   .intro z hz';exact bag
   .intro y hy;exact bbk
   .intro y hy;obtain⟨x,hx,rfl|rfl⟩:=hz y hy
    .exact HA.1.ri _ hx
    .have:=HA.1.ri x hx;dsimp only;rw[(Fh _ _ _ _ x.2).2.2.1,(Fh _ _ _ _ x.2).2.2.2.1];exact this
   .have hl:(Lat.rseF q.c q.n (Clk.Di q.ap q.al).1 (Clk.Di q.ap q.al).2.1 (Ah f q.ap q.al X a D).2.1.T).length=(Ah f q.ap q.al X a D).2.1.T.length:=by
     unfold Lat.rseF;split
     .exact Lat.al1 _ _ _ _ _
     .rfl
    have:=HA.2.1.wt;unfold Sd.wt at this|-;dsimp only;omega
 split
 .unfold Nq;split
  .exact R
  split<;>exact NT _ _ _ (Ik.refl X) (adi hq.a) (by show(2:Int)<=6/\(6:Int)<=7;omega) h u
 .rcases aze q X a D with L|⟨-,L⟩<;>rw[L]
  .exact R
  .split<;>exact NT _ _ _ (Ik.refl X) (adk hq.c) (by show(2:Int)<=7/\(7:Int)<=7;omega) h u
end Go.Proofs.YtnfpfbehebcdpaaGreat
namespace Go.Proofs.YtnfpfbehebcdpaaGreat
variable {X R:Sd}{a:Int}{D:Drm.Dr}
def Rep(es:List Ent.En):Sd:=es.foldl (λX e=>Bc e X) Sd.new
def Zu(es:List Ent.En)(e:Ent.En):Rep (es++[e])=Bc e (Rep es):=by simp[Rep,List.foldl_append]
def stpI(x:Bi×Lat.Ii):Bi×Lat.Ii:=(x.1,{x.2 with mp:=0,ml:=0})
structure Rl(X R:Sd):Prop where
 S:X.S=R.S
 T:X.T.map stpI=R.T.map stpI
 K:X.K=R.K
 sp:X.sp=R.sp
 sl:X.sl=R.sl
 bp:X.bp=R.bp
 bl:X.bl=R.bl
def Rl.refl(X:Sd):Rl X X:=⟨rfl,rfl,rfl,rfl,rfl,rfl,rfl⟩
def aau{T U:Lat.Tb}(h:T.map stpI=U.map stpI)(p:Bi×Lat.Ii->Bool)(hp:∀x,p (stpI x)=p x):(T.filter p).map stpI=(U.filter p).map stpI:=by
 have e:∀L:Lat.Tb,(L.filter p).map stpI=(L.map stpI).filter p:=λL=>by rw[List.filter_map];congr 1;refine List.filter_congr λx _=>?_;exact(hp x).symm
 rw[e,e,h]
def aif{T U:Lat.Tb}(h:T.map stpI=U.map stpI)(c n:Int):(Lat.byF c n T).map stpI=(Lat.byF c n U).map stpI:=aau h _ (λx=>rfl)
def Zt{T U:Lat.Tb}(h:T.map stpI=U.map stpI)(c n:Int):(Lat.Ee c n T).map stpI=(Lat.Ee c n U).map stpI:=aau h _ (λx=>rfl)
def Zx{c n ap al:Int}:∀{T U:Lat.Tb} {S:Sto.Sk},T.map stpI=U.map stpI->Jh c n ap al T S=Jh c n ap al U S
 |[],[],S,_=>rfl
 |[],y::U,S,h=>by cases h
 |x::T,[],S,h=>by cases h
 |x::T,y::U,S,h=>by
  simp only[jd,pg]at h;obtain⟨h1,h2⟩:=h;have e1:x.1=y.1:=iq (·.1) h1;have e2:veI c n ap al x=veI c n ap al y:=by have v:=iq (λz=>z.2.val) h1;have d:=iq (λz=>z.2.dead) h1;simp only[stpI]at v d;unfold veI;rw[v,d]
  unfold Jh;rw[e1,e2];exact Zx h2
def aqe{T U:Lat.Tb}(h:T.map stpI=U.map stpI):Eh T=Eh U:=by
 have e:∀L:Lat.Tb,Eh L=Eh (L.map stpI):=λL=>by unfold Eh;rw[List.map_map];rfl
 rw[e T,e U,h]
def au4{T U:Lat.Tb}(k:Bi)(h:T.map stpI=U.map stpI):(getF k T).isNone=(getF k U).isNone:=by
 have e:∀L:Lat.Tb,(getF k L).isNone=(getF k (L.map stpI)).isNone:=λL=>by
  induction L with
  |nil=>rfl
  |cons x L ih=>
   obtain⟨a,v⟩:=x;simp only[getF,jd,stpI];by_cases hk:(a==k)=true
   .rw[ah hk,ah hk];rfl
   .rw[ag hk,ag hk];exact ih
 rw[e T,e U,h]
def ai5(k:Bi)(v:Lat.Ii):∀{T U:Lat.Tb},T.map stpI=U.map stpI->(setF k v T).map stpI=(setF k v U).map stpI
 |[],[],_=>rfl
 |[],y::U,h=>by cases h
 |x::T,[],h=>by cases h
 |(a,u)::T,(b,w)::U,h=>by
  simp only[jd,pg]at h;obtain⟨h1,h2⟩:=h;have e1:a=b:=iq (·.1) h1;subst e1;have ih:=ai5 k v h2;unfold setF;split
  .simp only[jd,h1,ih]
  .split
   .simp only[jd,h2]
   .simp only[jd,h1,h2]
def afr(f:Wr->Lat.Ii):∀(l:List Wr) {T U:Lat.Tb},T.map stpI=U.map stpI->(Lat.Gj f l T).map stpI=(Lat.Gj f l U).map stpI
 |[],_,_,h=>h
 |w::l,_,_,h=>afr f l (ai5 _ _ h)
def aun{r:Bool}{c n sp sl mp ml:Int}{prim:Bi}{l:List Wr}{T U:Lat.Tb}(h:T.map stpI=U.map stpI):(Lat.layF r c n sp sl mp ml prim l T).1.map stpI=(Lat.layF r c n sp sl mp ml prim l U).1.map stpI:=by
 have e1:(Lat.byF c n T).isEmpty=(Lat.byF c n U).isEmpty:=by have:=iq List.isEmpty (aif h c n);simpa using this
 have e2:(l.all λw=>(getF w.key T).isNone)=(l.all λw=>(getF w.key U).isNone):=by congr 1;funext w;exact au4 w.key h
 unfold Lat.layF;rw[e1,e2];split
 .split
  .exact afr _ _ h
  .exact h
 .exact h
def Rl.follow(h:Rl X R)(e:Ent.En):Rl (Bc e X) (Bc e R):=by
 obtain⟨h1,h2,h3,h4,h5,h6,h7⟩:=h;unfold Bc fixF;split
 .exact⟨h1,h2,h3,h4,h5,rfl,rfl⟩
 split
 .exact⟨h1,aun h2,h3,h4,h5,h6,h7⟩
 split
 .exact⟨by dsimp only;rw[Zx (aif h2 _ _),h1],Zt h2 _ _,by dsimp only;rw[h3],h4,h5,h6,h7⟩
 split
 .exact⟨by dsimp only;rw[Zx (aif h2 _ _),h1],Zt h2 _ _,h3,h4,h5,h6,h7⟩
 split
 .exact⟨h1,Zt h2 _ _,by dsimp only;rw[h3],h4,h5,h6,h7⟩
 split
 .exact⟨by dsimp only;rw[h1],h2,by dsimp only;rw[h3,aqe h2],rfl,rfl,h6,h7⟩
 split
 .exact⟨h1,h2,by dsimp only;rw[h3],h4,h5,h6,h7⟩
 split
 .exact⟨by dsimp only;rw[h1],h2,h3,h4,h5,h6,h7⟩
 .exact⟨h1,h2,by dsimp only;rw[h3],h4,h5,h6,h7⟩
def Rl.raise(h:Rl X R)(c n mp ml:Int):Rl {X with T:=Lat.rseF c n mp ml X.T} R:=by
 refine⟨h.S,?_,h.K,h.sp,h.sl,h.bp,h.bl⟩;rw[<-h.T];show(Lat.rseF c n mp ml X.T).map stpI=_;unfold Lat.rseF;split
 .unfold Lat.Jv;rw[List.map_map];refine List.map_congr_left λx _=>?_;show stpI (x.1,Lat.Hg c n mp ml x.2)=stpI x;unfold Lat.Hg;split<;>rfl
 .rfl
def Rl.clock(h:Rl X R)(p l:Int):Rl {X with np:=p,nl:=l} R:=⟨h.S,h.T,h.K,h.sp,h.sl,h.bp,h.bl⟩
end Go.Proofs.YtnfpfbehebcdpaaGreat
namespace Go.Proofs.YtnfpfbehebcdpaaGreat
variable {X R:Sd}{a:Int}{D:Drm.Dr}{c n p l:Int}
def aqb{v:Sto.Ve}:∀{C d:List Sto.Ve},Sto.insF v C=some d->∀x∈d,x=v\/x∈C
 |[],d,h,x,hx=>by simp only[Sto.insF,ja]at h;subst h;exact .inl (jy.1 hx)
 |u::r,d,h,x,hx=>by
  unfold Sto.insF at h;split at h
  .obtain⟨d',h1,rfl⟩:=o8.1 h;rcases au.1 hx with rfl|hx
   .exact .inr (ji ..)
   .exact(aqb h1 x hx).imp id (gy _)
  .split at h
   .split at h
    .injection h with h;subst h;exact .inr hx
    .cases h
   .injection h with h;subst h;exact au.1 hx
def aqh{α:Type}{k:Bi}{v:α}:∀{L:Kv α},getF k L=some v->(k,v)∈L
 |(b,u)::r,h=>by
  unfold getF at h;split at h
  .next e=>
   injection h with h;subst h;rw[show b=k from by simpa using e];exact ji ..
  .exact gy _ (aqh h)
def ax7{k:Bi}{v:Sto.Ve}{S:Sto.Sk}:∀x∈(Sto.putS k v S).1,∀u∈x.2,u=v\/∃y∈S,u∈y.2:=λx hx u hu=>by
 have O:∀x∈S,∀u∈x.2,u=v\/∃y∈S,u∈y.2:=λx hx u hu=>.inr ⟨x,hx,hu⟩;have hc:∀u∈Sto.A8 k S,∃y∈S,u∈y.2:=λu hu=>by
  unfold Sto.A8 at hu;cases hg:getF k S with
  |none=>rw[hg]at hu;cases hu
  |some C=>
   rw[hg]at hu;exact⟨(k,C),(aqh hg),hu⟩
 unfold Sto.putS at hx;split at hx
 .split at hx
  .next h0=>
   rcases F5 hx with rfl|hx
   .dsimp only at hu;unfold Sto.putF at hu h0;split at hu
    .split at hu
     .cases hu
     .next d hd=>
      split at hu
      .cases hu
      .exact(aqb hd u hu).imp id (hc u)
    .cases hu
   .exact O x hx u hu
  .exact O x hx u hu
 .exact O x hx u hu
def ajh{c n ap al:Int}:∀{T:Lat.Tb} {S:Sto.Sk},∀x∈Jh c n ap al T S,∀u∈x.2,(u.c=c/\u.n=n/\u.p=ap/\u.l=al)\/∃y∈S,u∈y.2
 |[],S,x,hx,u,hu=>.inr ⟨x,hx,hu⟩
 |z::T,S,x,hx,u,hu=>by
  rcases ajh (T:=T) x hx u hu with h|⟨y,hy,h⟩
  .exact .inl h
  .rcases ax7 y hy u h with rfl|h
   .exact .inl ⟨rfl,rfl,rfl,rfl⟩
   .exact .inr h
def aoy{p l:Int}{C:List Sto.Ve}:∀u∈Sto.Dc C p l,u∈C:=λu hu=>by
 have h:∀{C:List Sto.Ve},∀u∈Sto.Jw p l C,u∈C:=λ{C}=>by
  induction C with
  |nil=>exactλu h=>h
  |cons x C ih=>
   intro u hu;unfold Sto.Jw at hu;split at hu
   .exact(au.1 hu).elim (λe=>e▸ji ..) λe=>gy _ (ih u e)
   .split at hu
    .cases hu
    .rw[jy.1 hu];exact ji ..
 unfold Sto.Dc at hu;split at hu
 .exact h u hu
 .cases hu
def of_by{ec en:Int}{T:Lat.Tb}(h:Lat.byF ec en T=[]):∀x∈T,x.2.c=ec->x.2.n=en->False:=λx hx h1 h2=>by have:x∈Lat.byF ec en T:=jh.2 ⟨hx,by simp[Lat.ofBy,h1,h2]⟩;rw[h]at this;cases this
