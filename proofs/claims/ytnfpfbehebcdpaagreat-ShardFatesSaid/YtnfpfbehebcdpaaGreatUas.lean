import Derived.Test.YtnfpfbehebcdpaaGreatUah
import Derived.Test.YtnfpfbehebcdpaaGreatUal
import Derived.Test.YtnfpfbehebcdpaaGreatUar
import Derived.Test.YtnfpfbehebcdpaaGreatUap
import Derived.Test.YtnfpfbehebcdpaaGreatUaq
import Derived.Test.YtnfpfbehebcdpaaGreatUad
set_option maxHeartbeats 0
set_option maxRecDepth 99999
set_option linter.all false
namespace Go.Proofs.YtnfpfbehebcdpaaGreat
structure Sd where
 S:Sto.Sk
 T:Lat.Tb
 K:Ver.Bk
 sp:Int
 sl:Int
 np:Int
 nl:Int
 bp:Int
 bl:Int
def Sd.new:Sd:=⟨[],[],[],0,0,0,0,0,0⟩
def Sd.wt(X:Sd):Nat:=Sto.totS X.S+X.T.length+X.K.length
def veI(c n ap al:Int)(x:Bi×Lat.Ii):Sto.Ve:=⟨ap,al,c,n,x.2.val,x.2.dead⟩
def Jh(c n ap al:Int):Lat.Tb->Sto.Sk->Sto.Sk
 |[],S=>S
 |x::r,S=>Jh c n ap al r (Sto.putS x.1 (veI c n ap al x) S).1
def fixF(c n ap al:Int)(X:Sd):Sd:={X with S:=Jh c n ap al (Lat.byF c n X.T) X.S,T:=Lat.Ee c n X.T}
def Eh(T:Lat.Tb):List (Int×Int):=T.map λx=>(x.2.c,x.2.n)
def Bc(e:Ent.En)(X:Sd):Sd:=
 if e.k=1 then{X with bp:=e.ap,bl:=e.al}
 else if e.k=2 then{X with T:=(Lat.layF (Lat.Ag e.sp e.sl&&Lat.Ag e.mp e.ml&&kOk e.prim) e.c e.n e.sp e.sl e.mp e.ml e.prim e.ws X.T).1}
 else if e.k=3 then{fixF e.c e.n e.ap e.al X with K:=(Ver.setB ⟨e.c,e.n,e.sp,e.sl,e.ap,e.al,e.pt,false⟩ X.K).1}
 else if e.k=4 then fixF e.c e.n e.ap e.al X
 else if e.k=5 then{X with T:=Lat.Ee e.c e.n X.T,K:=(Ver.setB ⟨e.c,e.n,e.sp,e.sl,0,0,0,false⟩ X.K).1}
 else if e.k=6 then{X with sp:=e.ap,sl:=e.al,S:=Sto.Ed e.ap e.al X.S,K:=Ver.retB e.ap e.al (Eh X.T) X.K}
 else if e.k=7 then{X with K:=(Ver.I8 e.c e.n X.K).1}
 else if e.k=8 then{X with S:=(Sto.putS (e.ws.headD ⟨[],[],false⟩).key ⟨e.ap,e.al,e.c,e.n,(e.ws.headD ⟨[],[],false⟩).val,(e.ws.headD ⟨[],[],false⟩).dead⟩ X.S).1}
 else{X with K:=(Ver.setB ⟨e.c,e.n,e.sp,e.sl,e.ap,e.al,e.pt,e.dn⟩ X.K).1}
def Az(e:Ent.En)(X:Sd)(a:Int)(D:Drm.Dr):Int×Sd×Drm.Dr:=
 if(Ent.Bj e).2≠0 then((Ent.Bj e).2,X,D)
 else if(Lgs.Bv D a (Ent.Bj e).1).1≠0 then((Lgs.Bv D a (Ent.Bj e).1).1,X,(Lgs.Bv D a (Ent.Bj e).1).2)
 else(0,Bc e X,(Lgs.Bv D a (Ent.Bj e).1).2)
def Ei(p l:Int):Ent.En:=⟨1,0,0,0,0,p.toNat,l.toNat,0,0,[],0,false,[]⟩
def eLay(c n sp sl mp ml:Int)(prim:Bi)(ws:List Wr):Ent.En:=⟨2,c.toNat,n.toNat,sp.toNat,sl.toNat,0,0,mp.toNat,ml.toNat,prim,0,false,ws⟩
def Ie(c n sp sl ap al pt:Int):Ent.En:=⟨3,c.toNat,n.toNat,sp.toNat,sl.toNat,ap.toNat,al.toNat,0,0,[],pt.toNat,false,[]⟩
def I4(c n ap al:Int):Ent.En:=⟨4,c.toNat,n.toNat,0,0,ap.toNat,al.toNat,0,0,[],0,false,[]⟩
def La(c n sp sl:Int):Ent.En:=⟨5,c.toNat,n.toNat,sp.toNat,sl.toNat,0,0,0,0,[],0,false,[]⟩
def Lc(p l:Int):Ent.En:=⟨6,0,0,0,0,p.toNat,l.toNat,0,0,[],0,false,[]⟩
def I7(c n:Int):Ent.En:=⟨7,c.toNat,n.toNat,0,0,0,0,0,0,[],0,false,[]⟩
def advF(p l:Int)(X:Sd)(a:Int)(D:Drm.Dr):Int×Sd×Drm.Dr:=
 if Clk.Ar X.bp X.bl p l then
  (if(Az (Ei (Clk.Be p l).1 (Clk.Be p l).2) X a D).1≠0 then Az (Ei (Clk.Be p l).1 (Clk.Be p l).2) X a D
  else(0,{(Az (Ei (Clk.Be p l).1 (Clk.Be p l).2) X a D).2.1 with np:=p,nl:=l},(Az (Ei (Clk.Be p l).1 (Clk.Be p l).2) X a D).2.2))
 else(0,{X with np:=p,nl:=l},D)
def Ah(f p l:Int)(X:Sd)(a:Int)(D:Drm.Dr):Int×Sd×Drm.Dr:=
 if(Clk.Du X.np X.nl f p l).2.2≠0 then((Clk.Du X.np X.nl f p l).2.2,X,D)
 else advF (Clk.Du X.np X.nl f p l).1 (Clk.Du X.np X.nl f p l).2.1 X a D
structure Rq where
 k:Int
 c:Int
 n:Int
 sp:Int
 sl:Int
 ap:Int
 al:Int
 key:Bi
 hi:Bi
 lim:Int
 pt:Int
 ws:List Wr
 sk:List (Int×Int)
structure Rp where
 k:Int
 err:Int
 found:Bool
 val:Bi
 prs:List (Bi×Bi)
 c:Int
 n:Int
 sp:Int
 sl:Int
 ap:Int
 al:Int
 prim:Bi
 np:Int
 nl:Int
def Rp.zero:Rp:=⟨0,0,false,[],[],0,0,0,0,0,0,[],0,0⟩
def Cb(e:Int):Rp:={Rp.zero with err:=e}
def G9(k:Int):Rp:={Rp.zero with k:=k}
def Fv(k p l:Int):Rp:={Rp.zero with k:=k,ap:=p,al:=l}
def Tz(x:Lat.Ii):Rp:={Rp.zero with k:=3,c:=x.c,n:=x.n,sp:=x.sp,sl:=x.sl,prim:=x.prim}
def Et(q:Rq):Bool:=
 decide (1<=q.k)&&decide (q.k<=9)&&Clk.Ag q.sp q.sl&&Clk.Ag q.ap q.al&&decide (q.sk.length<=16)&&
 (if q.k=1 then kOk q.key else if q.k=3 then kOk q.key&&Bf q.ws else if q.k=4\/q.k=5 then !(q.ap==0&&q.al==0)else true)
def verF(c n:Int)(S:Sto.Sk):Option Sto.Ve:=(S.flatMap (·.2)).find? λv=>v.c==c&&v.n==n
def Cj(c n:Int)(X:Sd):Option Rp:=
 match Ver.getB c n X.K with
 |some v=>some (if Ver.cmB v then Fv 5 v.ap v.al else G9 6)
 |none=>(verF c n X.S).map λv=>Fv 5 v.p v.l
def ownF(c n:Int)(X:Sd):Option (Bi×Lat.Ii):=(Lat.byF c n X.T).head?
def Jd(x:Lat.Ii)(X:Sd):Bool:=match getF x.prim X.T with
 |some y=>y.c==x.c&&y.n==x.n
 |none=>false
def Fz(c n sp sl:Int)(X:Sd)(a:Int)(D:Drm.Dr):Rp×Sd×Drm.Dr:=
 if(ownF c n X).isSome|| !Clk.Ar sp sl X.sp X.sl then
  (if(Az (La c n sp sl) X a D).1≠0 then(Cb (Az (La c n sp sl) X a D).1,(Az (La c n sp sl) X a D).2)else(G9 6,(Az (La c n sp sl) X a D).2))
 else(G9 6,X,D)
def Cm(f:Int)(q:Rq)(lo hi:Bi)(X:Sd)(a:Int)(D:Drm.Dr):Option Rp×Sd×Drm.Dr:=
 if Clk.Ar q.sp q.sl X.sp X.sl then(some (Cb 30),X,D)
 else if(Ah f q.sp q.sl X a D).1≠0 then(some (Cb (Ah f q.sp q.sl X a D).1),(Ah f q.sp q.sl X a D).2)
 else((Lat.Oj lo hi q.sp q.sl ((q.c,q.n)::q.sk) (Ah f q.sp q.sl X a D).2.1.T).map (λx=>Tz x.2),(Ah f q.sp q.sl X a D).2)
def getFn(f:Int)(q:Rq)(X:Sd)(a:Int)(D:Drm.Dr):Rp×Sd×Drm.Dr:=
 match (Cm f q q.key (q.key++[0]) X a D).1 with
 |some r=>(r,(Cm f q q.key (q.key++[0]) X a D).2)
 |none=>({Rp.zero with k:=1,found:=(Sto.getV (Sto.seeF (Sto.A8 q.key (Cm f q q.key (q.key++[0]) X a D).2.1.S) q.sp q.sl)).2,val:=(Sto.getV (Sto.seeF (Sto.A8 q.key (Cm f q q.key (q.key++[0]) X a D).2.1.S) q.sp q.sl)).1},(Cm f q q.key (q.key++[0]) X a D).2)
def Ib(f:Int)(q:Rq)(X:Sd)(a:Int)(D:Drm.Dr):Rp×Sd×Drm.Dr:=
 match (Cm f q q.key q.hi X a D).1 with
 |some r=>(r,(Cm f q q.key q.hi X a D).2)
 |none=>({Rp.zero with k:=2,prs:=Sto.Np q.key q.hi q.sp q.sl q.lim (Cm f q q.key q.hi X a D).2.1.S},(Cm f q q.key q.hi X a D).2)
def Ij(k:Bi)(sp sl:Int)(X:Sd):Option Rp:=
 match getF k X.T with
 |some x=>some (Tz x)
 |none=>if Clk.Ar sp sl (Sto.newF (Sto.A8 k X.S)).1 (Sto.newF (Sto.A8 k X.S)).2 then some (G9 10)else if 1000<=(Sto.A8 k X.S).length then some (Cb 3)else none
def Oa(f:Int)(q:Rq)(X:Sd)(a:Int)(D:Drm.Dr):Rp×Sd×Drm.Dr:=
 if Clk.Ar q.sp q.sl X.sp X.sl then(Cb 30,X,D)
 else match Cj q.c q.n X with
 |some r=>(r,X,D)
 |none=>match ownF q.c q.n X with
  |some x=>(Fv 4 x.2.mp x.2.ml,X,D)
  |none=>match q.ws.findSome? (λw=>Ij w.key q.sp q.sl X)with
   |some r=>(r,X,D)
   |none=>
    let h:=Ah f q.sp q.sl X a D
    if h.1≠0 then(Cb h.1,h.2)else
    let t:=Clk.Ir h.2.1.np h.2.1.nl f
    if t.2.2≠0 then(Cb t.2.2,h.2)else
    let v:=advF t.1 t.2.1 h.2.1 a h.2.2
    if v.1≠0 then(Cb v.1,v.2)else
    let o:=Az (eLay q.c q.n q.sp q.sl t.1 t.2.1 q.key q.ws) v.2.1 a v.2.2
    if o.1≠0 then(Cb o.1,o.2)else(Fv 4 t.1 t.2.1,o.2)
def Oe(f:Int)(q:Rq)(X:Sd)(a:Int)(D:Drm.Dr):Rp×Sd×Drm.Dr:=
 match Cj q.c q.n X with
 |some r=>(r,X,D)
 |none=>match ownF q.c q.n X with
  |none=>(G9 6,X,D)
  |some x=>
   if Jd x.2 X=false then(Cb 1,X,D)
   else if Clk.Ar q.ap q.al x.2.mp x.2.ml then(Fv 7 x.2.mp x.2.ml,X,D)else
   let h:=Ah f q.ap q.al X a D
   if h.1≠0 then(Cb h.1,h.2)else
   let o:=Az (Ie q.c q.n x.2.sp x.2.sl q.ap q.al q.pt) h.2.1 a h.2.2
   if o.1≠0 then(Cb o.1,o.2)else(Fv 5 q.ap q.al,o.2)
def Lm(f:Int)(q:Rq)(X:Sd)(a:Int)(D:Drm.Dr):Rp×Sd×Drm.Dr:=
 if(match Ver.getB q.c q.n X.K with|some v=> !Ver.cmB v|none=>false)then(G9 9,X,D)
 else match ownF q.c q.n X with
  |none=>(G9 9,X,D)
  |some x=>
   if Jd x.2 X||Clk.Ar q.ap q.al x.2.mp x.2.ml then(Cb 1,X,D)else
   let h:=Ah f q.ap q.al X a D
   if h.1≠0 then(Cb h.1,h.2)else
   let o:=Az (I4 q.c q.n q.ap q.al) h.2.1 a h.2.2
   if o.1≠0 then(Cb o.1,o.2)else(G9 9,o.2)
def Nj(q:Rq)(X:Sd)(a:Int)(D:Drm.Dr):Rp×Sd×Drm.Dr:=
 match Cj q.c q.n X with
 |some r=>(r,X,D)
 |none=>Fz q.c q.n q.sp q.sl X a D
def Kw(f:Int)(q:Rq)(X:Sd)(a:Int)(D:Drm.Dr):Rp×Sd×Drm.Dr:=
 match Cj q.c q.n X with
 |some r=>(r,X,D)
 |none=>match ownF q.c q.n X with
  |none=>Fz q.c q.n q.sp q.sl X a D
  |some x=>
   if Jd x.2 X=false then(Cb 1,X,D)
   else if Clk.afq x.2.sp f then Fz q.c q.n x.2.sp x.2.sl X a D
   else if q.ap==0&&q.al==0 then(Fv 8 x.2.mp x.2.ml,X,D)
   else if(Clk.Di q.ap q.al).2.2≠0 then(Cb (Clk.Di q.ap q.al).2.2,X,D)else
   let h:=Ah f q.ap q.al X a D
   if h.1≠0 then(Cb h.1,h.2)else
   (Fv 8 (Clk.maxF x.2.mp x.2.ml (Clk.Di q.ap q.al).1 (Clk.Di q.ap q.al).2.1).1 (Clk.maxF x.2.mp x.2.ml (Clk.Di q.ap q.al).1 (Clk.Di q.ap q.al).2.1).2,{h.2.1 with T:=Lat.rseF q.c q.n (Clk.Di q.ap q.al).1 (Clk.Di q.ap q.al).2.1 h.2.1.T},h.2.2)
def Nq(q:Rq)(X:Sd)(a:Int)(D:Drm.Dr):Rp×Sd×Drm.Dr:=
 if Clk.Ar X.sp X.sl q.ap q.al=false then(Fv 9 X.sp X.sl,X,D)
 else if(Az (Lc q.ap q.al) X a D).1≠0 then(Cb (Az (Lc q.ap q.al) X a D).1,(Az (Lc q.ap q.al) X a D).2)else(Fv 9 q.ap q.al,(Az (Lc q.ap q.al) X a D).2)
def Jq(q:Rq)(X:Sd)(a:Int)(D:Drm.Dr):Rp×Sd×Drm.Dr:=
 if(match Ver.getB q.c q.n X.K with|some v=>Ver.cmB v&& !v.dn|none=>false)=false then(G9 9,X,D)
 else if(Az (I7 q.c q.n) X a D).1≠0 then(Cb (Az (I7 q.c q.n) X a D).1,(Az (I7 q.c q.n) X a D).2)else(G9 9,(Az (I7 q.c q.n) X a D).2)
def ansF(f:Int)(q:Rq)(X:Sd)(a:Int)(D:Drm.Dr):Rp×Sd×Drm.Dr:=
 if Et q=false then(Cb 1,X,D)else if D.down then(Cb 11,X,D)
 else if q.k=1 then getFn f q X a D else if q.k=2 then Ib f q X a D else if q.k=3 then Oa f q X a D else if q.k=4 then Oe f q X a D else if q.k=5 then Lm f q X a D
 else if q.k=6 then Nj q X a D else if q.k=7 then Kw f q X a D else if q.k=8 then Nq q X a D else Jq q X a D
def Hf(f:Int)(q:Rq)(X:Sd)(a:Int)(D:Drm.Dr):Rp×Sd×Drm.Dr:=({(ansF f q X a D).1 with np:=(ansF f q X a D).2.1.np,nl:=(ansF f q X a D).2.1.nl},(ansF f q X a D).2)
