import Derived.Test.YtdplfgcoaddbdaaGreatXag
import Derived.Test.YtdplfgcoaddbdaaGreatXam
import Derived.Test.YtdplfgcoaddbdaaGreatXas
import Derived.Test.YtdplfgcoaddbdaaGreatXaq
import Derived.Test.YtdplfgcoaddbdaaGreatXar
import Derived.Test.YtdplfgcoaddbdaaGreatXab
set_option maxHeartbeats 4000000
set_option maxRecDepth 100000
set_option linter.unusedVariables false
set_option linter.unusedSimpArgs false
namespace Go.Proofs.YtdplfgcoaddbdaaGreat
structure Sd where
 S:Sto.Sk
 T:Lat.Tb
 K:Ver.Bk
 sp:Int
 sl:Int
 np:Int
 nl:Int
 bp:Int
 bl:Int
def Sd.new:Sd:=⟨[],[],[],0,0,0,0,0,0⟩
def Sd.wt(X:Sd):Nat:=Sto.totS X.S+X.T.length+X.K.length
def veI(c n ap al:Int)(x:List UInt8×Lat.Ii):Sto.Ve:=⟨ap,al,c,n,x.2.val,x.2.dead⟩
def putsF(c n ap al:Int):Lat.Tb->Sto.Sk->Sto.Sk
 |[],S=>S
 |x::r,S=>putsF c n ap al r (Sto.putS x.1 (veI c n ap al x) S).1
def fixF(c n ap al:Int)(X:Sd):Sd:={X with S:=putsF c n ap al (Lat.byF c n X.T) X.S,T:=Lat.restF c n X.T}
def holdF(T:Lat.Tb):List (Int×Int):=T.map fun x=>(x.2.c,x.2.n)
def followF(e:Ent.En)(X:Sd):Sd:=
 if e.k=1 then{X with bp:=e.ap,bl:=e.al}
 else if e.k=2 then{X with T:=(Lat.layF (Lat.rightB e.sp e.sl&&Lat.rightB e.mp e.ml&&kOk e.prim) e.c e.n e.sp e.sl e.mp e.ml e.prim e.ws X.T).1}
 else if e.k=3 then{fixF e.c e.n e.ap e.al X with K:=(Ver.setB ⟨e.c,e.n,e.sp,e.sl,e.ap,e.al,e.pt,false⟩ X.K).1}
 else if e.k=4 then fixF e.c e.n e.ap e.al X
 else if e.k=5 then{X with T:=Lat.restF e.c e.n X.T,K:=(Ver.setB ⟨e.c,e.n,e.sp,e.sl,0,0,0,false⟩ X.K).1}
 else if e.k=6 then{X with sp:=e.ap,sl:=e.al,S:=Sto.pruneS e.ap e.al X.S,K:=Ver.retB e.ap e.al (holdF X.T) X.K}
 else if e.k=7 then{X with K:=(Ver.doneB e.c e.n X.K).1}
 else if e.k=8 then{X with S:=(Sto.putS (e.ws.headD ⟨[],[],false⟩).key ⟨e.ap,e.al,e.c,e.n,(e.ws.headD ⟨[],[],false⟩).val,(e.ws.headD ⟨[],[],false⟩).dead⟩ X.S).1}
 else{X with K:=(Ver.setB ⟨e.c,e.n,e.sp,e.sl,e.ap,e.al,e.pt,e.dn⟩ X.K).1}
def noteF(e:Ent.En)(X:Sd)(a:Int)(D:Drm.Dr):Int×Sd×Drm.Dr:=
 if(Ent.writeE e).2≠0 then((Ent.writeE e).2,X,D)
 else if(Lgs.appendF D a (Ent.writeE e).1).1≠0 then((Lgs.appendF D a (Ent.writeE e).1).1,X,(Lgs.appendF D a (Ent.writeE e).1).2)
 else(0,followF e X,(Lgs.appendF D a (Ent.writeE e).1).2)
def eBound(p l:Int):Ent.En:=⟨1,0,0,0,0,p.toNat,l.toNat,0,0,[],0,false,[]⟩
def eLay(c n sp sl mp ml:Int)(prim:List UInt8)(ws:List Wr):Ent.En:=⟨2,c.toNat,n.toNat,sp.toNat,sl.toNat,0,0,mp.toNat,ml.toNat,prim,0,false,ws⟩
def eCommit(c n sp sl ap al pt:Int):Ent.En:=⟨3,c.toNat,n.toNat,sp.toNat,sl.toNat,ap.toNat,al.toNat,0,0,[],pt.toNat,false,[]⟩
def eApply(c n ap al:Int):Ent.En:=⟨4,c.toNat,n.toNat,0,0,ap.toNat,al.toNat,0,0,[],0,false,[]⟩
def eUndo(c n sp sl:Int):Ent.En:=⟨5,c.toNat,n.toNat,sp.toNat,sl.toNat,0,0,0,0,[],0,false,[]⟩
def eSafe(p l:Int):Ent.En:=⟨6,0,0,0,0,p.toNat,l.toNat,0,0,[],0,false,[]⟩
def eDone(c n:Int):Ent.En:=⟨7,c.toNat,n.toNat,0,0,0,0,0,0,[],0,false,[]⟩
def advF(p l:Int)(X:Sd)(a:Int)(D:Drm.Dr):Int×Sd×Drm.Dr:=
 if Clk.lessB X.bp X.bl p l then
  (if(noteF (eBound (Clk.boundF p l).1 (Clk.boundF p l).2) X a D).1≠0 then noteF (eBound (Clk.boundF p l).1 (Clk.boundF p l).2) X a D
  else(0,{(noteF (eBound (Clk.boundF p l).1 (Clk.boundF p l).2) X a D).2.1 with np:=p,nl:=l},(noteF (eBound (Clk.boundF p l).1 (Clk.boundF p l).2) X a D).2.2))
 else(0,{X with np:=p,nl:=l},D)
def hearF(f p l:Int)(X:Sd)(a:Int)(D:Drm.Dr):Int×Sd×Drm.Dr:=
 if(Clk.mergeF X.np X.nl f p l).2.2≠0 then((Clk.mergeF X.np X.nl f p l).2.2,X,D)
 else advF (Clk.mergeF X.np X.nl f p l).1 (Clk.mergeF X.np X.nl f p l).2.1 X a D
structure Rq where
 k:Int
 c:Int
 n:Int
 sp:Int
 sl:Int
 ap:Int
 al:Int
 key:List UInt8
 hi:List UInt8
 lim:Int
 pt:Int
 ws:List Wr
 sk:List (Int×Int)
structure Rp where
 k:Int
 err:Int
 found:Bool
 val:List UInt8
 prs:List (List UInt8×List UInt8)
 c:Int
 n:Int
 sp:Int
 sl:Int
 ap:Int
 al:Int
 prim:List UInt8
 np:Int
 nl:Int
def Rp.zero:Rp:=⟨0,0,false,[],[],0,0,0,0,0,0,[],0,0⟩
def refR(e:Int):Rp:={Rp.zero with err:=e}
def kinR(k:Int):Rp:={Rp.zero with k:=k}
def saidR(k p l:Int):Rp:={Rp.zero with k:=k,ap:=p,al:=l}
def lockR(x:Lat.Ii):Rp:={Rp.zero with k:=3,c:=x.c,n:=x.n,sp:=x.sp,sl:=x.sl,prim:=x.prim}
def rightQ(q:Rq):Bool:=
 decide (1<=q.k)&&decide (q.k<=9)&&Clk.rightB q.sp q.sl&&Clk.rightB q.ap q.al&&decide (q.sk.length<=16)&&
 (if q.k=1 then kOk q.key else if q.k=3 then kOk q.key&&rightW q.ws else if q.k=4\/q.k=5 then !(q.ap==0&&q.al==0)else true)
def verF(c n:Int)(S:Sto.Sk):Option Sto.Ve:=(S.flatMap (·.2)).find? fun v=>v.c==c&&v.n==n
def knownF(c n:Int)(X:Sd):Option Rp:=
 match Ver.getB c n X.K with
 |some v=>some (if Ver.cmB v then saidR 5 v.ap v.al else kinR 6)
 |none=>(verF c n X.S).map fun v=>saidR 5 v.p v.l
def ownF(c n:Int)(X:Sd):Option (List UInt8×Lat.Ii):=(Lat.byF c n X.T).head?
def primF(x:Lat.Ii)(X:Sd):Bool:=match getF x.prim X.T with
 |some y=>y.c==x.c&&y.n==x.n
 |none=>false
def giveF(c n sp sl:Int)(X:Sd)(a:Int)(D:Drm.Dr):Rp×Sd×Drm.Dr:=
 if(ownF c n X).isSome|| !Clk.lessB sp sl X.sp X.sl then
  (if(noteF (eUndo c n sp sl) X a D).1≠0 then(refR (noteF (eUndo c n sp sl) X a D).1,(noteF (eUndo c n sp sl) X a D).2)else(kinR 6,(noteF (eUndo c n sp sl) X a D).2))
 else(kinR 6,X,D)
def hindF(f:Int)(q:Rq)(lo hi:List UInt8)(X:Sd)(a:Int)(D:Drm.Dr):Option Rp×Sd×Drm.Dr:=
 if Clk.lessB q.sp q.sl X.sp X.sl then(some (refR 30),X,D)
 else if(hearF f q.sp q.sl X a D).1≠0 then(some (refR (hearF f q.sp q.sl X a D).1),(hearF f q.sp q.sl X a D).2)
 else((Lat.firstF lo hi q.sp q.sl ((q.c,q.n)::q.sk) (hearF f q.sp q.sl X a D).2.1.T).map (fun x=>lockR x.2),(hearF f q.sp q.sl X a D).2)
def getFn(f:Int)(q:Rq)(X:Sd)(a:Int)(D:Drm.Dr):Rp×Sd×Drm.Dr:=
 match (hindF f q q.key (q.key++[0]) X a D).1 with
 |some r=>(r,(hindF f q q.key (q.key++[0]) X a D).2)
 |none=>({Rp.zero with k:=1,found:=(Sto.getV (Sto.seeF (Sto.chainF q.key (hindF f q q.key (q.key++[0]) X a D).2.1.S) q.sp q.sl)).2,val:=(Sto.getV (Sto.seeF (Sto.chainF q.key (hindF f q q.key (q.key++[0]) X a D).2.1.S) q.sp q.sl)).1},(hindF f q q.key (q.key++[0]) X a D).2)
def scanFn(f:Int)(q:Rq)(X:Sd)(a:Int)(D:Drm.Dr):Rp×Sd×Drm.Dr:=
 match (hindF f q q.key q.hi X a D).1 with
 |some r=>(r,(hindF f q q.key q.hi X a D).2)
 |none=>({Rp.zero with k:=2,prs:=Sto.scanS q.key q.hi q.sp q.sl q.lim (hindF f q q.key q.hi X a D).2.1.S},(hindF f q q.key q.hi X a D).2)
def contF(k:List UInt8)(sp sl:Int)(X:Sd):Option Rp:=
 match getF k X.T with
 |some x=>some (lockR x)
 |none=>if Clk.lessB sp sl (Sto.newF (Sto.chainF k X.S)).1 (Sto.newF (Sto.chainF k X.S)).2 then some (kinR 10)else if 1000<=(Sto.chainF k X.S).length then some (refR 3)else none
def layFn(f:Int)(q:Rq)(X:Sd)(a:Int)(D:Drm.Dr):Rp×Sd×Drm.Dr:=
 if Clk.lessB q.sp q.sl X.sp X.sl then(refR 30,X,D)
 else match knownF q.c q.n X with
 |some r=>(r,X,D)
 |none=>match ownF q.c q.n X with
  |some x=>(saidR 4 x.2.mp x.2.ml,X,D)
  |none=>match q.ws.findSome? (fun w=>contF w.key q.sp q.sl X)with
   |some r=>(r,X,D)
   |none=>
    let h:=hearF f q.sp q.sl X a D
    if h.1≠0 then(refR h.1,h.2)else
    let t:=Clk.tickF h.2.1.np h.2.1.nl f
    if t.2.2≠0 then(refR t.2.2,h.2)else
    let v:=advF t.1 t.2.1 h.2.1 a h.2.2
    if v.1≠0 then(refR v.1,v.2)else
    let o:=noteF (eLay q.c q.n q.sp q.sl t.1 t.2.1 q.key q.ws) v.2.1 a v.2.2
    if o.1≠0 then(refR o.1,o.2)else(saidR 4 t.1 t.2.1,o.2)
def decFn(f:Int)(q:Rq)(X:Sd)(a:Int)(D:Drm.Dr):Rp×Sd×Drm.Dr:=
 match knownF q.c q.n X with
 |some r=>(r,X,D)
 |none=>match ownF q.c q.n X with
  |none=>(kinR 6,X,D)
  |some x=>
   if primF x.2 X=false then(refR 1,X,D)
   else if Clk.lessB q.ap q.al x.2.mp x.2.ml then(saidR 7 x.2.mp x.2.ml,X,D)else
   let h:=hearF f q.ap q.al X a D
   if h.1≠0 then(refR h.1,h.2)else
   let o:=noteF (eCommit q.c q.n x.2.sp x.2.sl q.ap q.al q.pt) h.2.1 a h.2.2
   if o.1≠0 then(refR o.1,o.2)else(saidR 5 q.ap q.al,o.2)
def appFn(f:Int)(q:Rq)(X:Sd)(a:Int)(D:Drm.Dr):Rp×Sd×Drm.Dr:=
 if(match Ver.getB q.c q.n X.K with|some v=> !Ver.cmB v|none=>false)then(kinR 9,X,D)
 else match ownF q.c q.n X with
  |none=>(kinR 9,X,D)
  |some x=>
   if primF x.2 X||Clk.lessB q.ap q.al x.2.mp x.2.ml then(refR 1,X,D)else
   let h:=hearF f q.ap q.al X a D
   if h.1≠0 then(refR h.1,h.2)else
   let o:=noteF (eApply q.c q.n q.ap q.al) h.2.1 a h.2.2
   if o.1≠0 then(refR o.1,o.2)else(kinR 9,o.2)
def undFn(q:Rq)(X:Sd)(a:Int)(D:Drm.Dr):Rp×Sd×Drm.Dr:=
 match knownF q.c q.n X with
 |some r=>(r,X,D)
 |none=>giveF q.c q.n q.sp q.sl X a D
def pusFn(f:Int)(q:Rq)(X:Sd)(a:Int)(D:Drm.Dr):Rp×Sd×Drm.Dr:=
 match knownF q.c q.n X with
 |some r=>(r,X,D)
 |none=>match ownF q.c q.n X with
  |none=>giveF q.c q.n q.sp q.sl X a D
  |some x=>
   if primF x.2 X=false then(refR 1,X,D)
   else if Clk.lateB x.2.sp f then giveF q.c q.n x.2.sp x.2.sl X a D
   else if q.ap==0&&q.al==0 then(saidR 8 x.2.mp x.2.ml,X,D)
   else if(Clk.nextF q.ap q.al).2.2≠0 then(refR (Clk.nextF q.ap q.al).2.2,X,D)else
   let h:=hearF f q.ap q.al X a D
   if h.1≠0 then(refR h.1,h.2)else
   (saidR 8 (Clk.maxF x.2.mp x.2.ml (Clk.nextF q.ap q.al).1 (Clk.nextF q.ap q.al).2.1).1 (Clk.maxF x.2.mp x.2.ml (Clk.nextF q.ap q.al).1 (Clk.nextF q.ap q.al).2.1).2,{h.2.1 with T:=Lat.rseF q.c q.n (Clk.nextF q.ap q.al).1 (Clk.nextF q.ap q.al).2.1 h.2.1.T},h.2.2)
def safFn(q:Rq)(X:Sd)(a:Int)(D:Drm.Dr):Rp×Sd×Drm.Dr:=
 if Clk.lessB X.sp X.sl q.ap q.al=false then(saidR 9 X.sp X.sl,X,D)
 else if(noteF (eSafe q.ap q.al) X a D).1≠0 then(refR (noteF (eSafe q.ap q.al) X a D).1,(noteF (eSafe q.ap q.al) X a D).2)else(saidR 9 q.ap q.al,(noteF (eSafe q.ap q.al) X a D).2)
def donFn(q:Rq)(X:Sd)(a:Int)(D:Drm.Dr):Rp×Sd×Drm.Dr:=
 if(match Ver.getB q.c q.n X.K with|some v=>Ver.cmB v&& !v.dn|none=>false)=false then(kinR 9,X,D)
 else if(noteF (eDone q.c q.n) X a D).1≠0 then(refR (noteF (eDone q.c q.n) X a D).1,(noteF (eDone q.c q.n) X a D).2)else(kinR 9,(noteF (eDone q.c q.n) X a D).2)
def ansF(f:Int)(q:Rq)(X:Sd)(a:Int)(D:Drm.Dr):Rp×Sd×Drm.Dr:=
 if rightQ q=false then(refR 1,X,D)else if D.down then(refR 11,X,D)
 else if q.k=1 then getFn f q X a D else if q.k=2 then scanFn f q X a D else if q.k=3 then layFn f q X a D else if q.k=4 then decFn f q X a D else if q.k=5 then appFn f q X a D
 else if q.k=6 then undFn q X a D else if q.k=7 then pusFn f q X a D else if q.k=8 then safFn q X a D else donFn q X a D
def handF(f:Int)(q:Rq)(X:Sd)(a:Int)(D:Drm.Dr):Rp×Sd×Drm.Dr:=({(ansF f q X a D).1 with np:=(ansF f q X a D).2.1.np,nl:=(ansF f q X a D).2.1.nl},(ansF f q X a D).2)
end Go.Proofs.YtdplfgcoaddbdaaGreat
