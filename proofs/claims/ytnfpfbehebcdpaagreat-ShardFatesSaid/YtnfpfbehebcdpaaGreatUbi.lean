import Derived.Laws.Tables
import Derived.Laws.IdiomCopy
import Derived.KernelRfl
import Derived.Test.YtnfpfbehebcdpaaGreatUbh
set_option maxHeartbeats 0
set_option maxRecDepth 99999
set_option linter.all false
namespace Go.Proofs.YtnfpfbehebcdpaaGreat
open Go.RowKit
variable {SA:TyS}{TA:TyT}{BA:TyB}
variable {f:Fp}{M:Nat->Prop}{X:Sd}{a:Int}{g:Nat}{D:Drm.Dr}{w W W':World}{Lo:List (Nat×Obj)}
def acb(ph:Int)(q:Rq)(lo hi:Bi)(X:Sd)(a:Int)(D:Drm.Dr)(hs:Ts q.sp q.sl)(hX:XOk X):(Cm ph q lo hi X a D).2.1.wt=X.wt:=by
 unfold Cm;have hhe:=L8 (f:=ph) (a:=a) (D:=D) hs hX;repeat' split
 .rfl
 .exact hhe.1.wt
 .exact hhe.1.wt
def at6(k:Bi):(bs k)++(⟨#[0]⟩:ByteArray)=bs (k++[0]):=by apply ByteArray.ext;simp[bs]
def get92(E:Env SA TA BA)(ph:Int)(q:Rq)(wa:Option Addr)(wc:Nat)(sa:Option Addr)(sc:Nat)(h:ShAt SA TA BA f M X a g D w)(ht:X.wt<8900)(hX:XOk X)(hph:0<=ph)(hq:RqOk q)(hk:q.key.length<=32)(hsk:q.sk.length<=16)(hsi:TAt w.heap.size (.slice sa q.sk.length sc) q.sk w)(hsn:0<q.sk.length->∀k,(Value.slice sa q.sk.length sc).ownBlock=some k->¬M k/\k<w.heap.size):
  cpr 62 #[pz f.sb,uw ph,.agg (rqC q.k q wa wc sa sc)] w λe w'=>e=.returned (rpV (getFn ph q X a D).1 sy)/\ShTo SA TA BA f M w (getFn ph q X a D).2.1 a g (getFn ph q X a D).2.2 w':=by
 have HL0:getFn ph q X a D=match (Cm ph q q.key (q.key++[0]) X a D).1 with
  |some r=>(r,(Cm ph q q.key (q.key++[0]) X a D).2)
  |none=>({Rp.zero with k:=1,found:=(Sto.getV (Sto.seeF (Sto.A8 q.key (Cm ph q q.key (q.key++[0]) X a D).2.1.S) q.sp q.sl)).2,val:=(Sto.getV (Sto.seeF (Sto.A8 q.key (Cm ph q q.key (q.key++[0]) X a D).2.1.S) q.sp q.sl)).1},(Cm ph q q.key (q.key++[0]) X a D).2):=rfl
 obtain⟨b1,Lo,hb1,hLo,H0,SP,HR,ON,NW,CR,CS⟩:=V7 E h q.k q wa wc sa sc;have SB:=setb H0 hLo;obtain⟨kr,kz,hkv,hkz,hkr⟩:=Nw (Cm ph q q.key (q.key++[0]) X a D).1;have CK:Hid (∀W,Cx SA TA BA f M w X a g D Lo W->cpr 134 #[pz f.sb,uw ph,.agg (rqC q.k q wa wc sa sc),sd q.key,.string (bs (q.key++[0]))] W λe w'=>e=.returned (.tuple #[.agg (rpD kr none 0 0),.bool kz])/\Cx SA TA BA f M w (Cm ph q q.key (q.key++[0]) X a D).2.1 a g (Cm ph q q.key (q.key++[0]) X a D).2.2 Lo w'):=λW hW=>by
  obtain⟨M9,h9,h8,h7⟩:=hW.sh;have:=akb E ph q q.key (q.key++[0]) wa wc sa sc h9 (by omega) hX hph hq hsk (SkIn.kept hsi (λh0 k hk=>(hsn h0 k hk).1) hW.kp) (λh0 k hk hm=>by
   rcases h8 k hm with e1|e1
   .exact(hsn h0 k hk).1 e1
   .have:=(hsn h0 k hk).2;omega)
  rw[hkv]at this;exact bc8
 have hwt:=acb ph q q.key (q.key++[0]) X a D hq.s hX;obtain⟨gv,gb,hgv⟩:∃gv gb,(Sto.getV (Sto.seeF (Sto.A8 q.key (Cm ph q q.key (q.key++[0]) X a D).2.1.S) q.sp q.sl))=(gv,gb):=⟨_,_,rfl⟩;have CG:Hid (∀W,Cx SA TA BA f M w (Cm ph q q.key (q.key++[0]) X a D).2.1 a g (Cm ph q q.key (q.key++[0]) X a D).2.2 Lo W->cpr 135 #[pz f.st,sd q.key,.agg #[uw q.sp,ui q.sl]] W λe w'=>e=.returned (.tuple #[sd gv,.bool gb])/\Cx SA TA BA f M w (Cm ph q q.key (q.key++[0]) X a D).2.1 a g (Cm ph q q.key (q.key++[0]) X a D).2.2 Lo w'):=λW hW=>by obtain⟨M9,h9,-,-⟩:=hW.sh;have:=axr E q.key q.sp q.sl h9 (aep (by omega));rw[hgv]at this;exact this.mono λr w' h=>⟨h.1,hW.on E h.2⟩
 have SH:Hid (∀(X:Sd) (D:Drm.Dr) W,Cx SA TA BA f M w X a g D Lo W->ce W f.sb 2 (pz f.st)/\ce W w.heap.size 7 (sd q.key)/\ce W w.heap.size 3 (uw q.sp)/\ce W w.heap.size 4 (ui q.sl)):=λX D W hW=>by obtain⟨-,-,-,c3,c4,-,-,c7,-⟩:=SB.out _ _ _ hW;exact⟨hW.ptrs.2.2.1,c7,c3,c4⟩
 have DW:Hid (∀(X:Sd) (D:Drm.Dr) W,Cx SA TA BA f M w X a g D Lo W->Cx SA TA BA f M w X a g D Lo W.drew):=λX D W hW=>hW.drew E;have nul:(bs q.key).size<=9223372036854775806:=by rw[Bq];omega
 have NC:Hid ((bs q.key)++(⟨#[0]⟩:ByteArray)=bs (q.key++[0])):=at6 q.key;have HKz:Hid (kz=(Cm ph q q.key (q.key++[0]) X a D).1.isSome/\∀x,(Cm ph q q.key (q.key++[0]) X a D).1=some x->kr=x):=⟨hkz,hkr⟩;rw[hgv]at HL0;have HL:Hid _:=HL0;generalize getFn ph q X a D=Y at*;generalize (Cm ph q q.key (q.key++[0]) X a D)=H at*;obtain⟨ho,Xh,Dh⟩:=H;dsimp only at CK CG HL HKz;clear hLo h ht hX hph hq hsk hsi hsn hk E HL0 hkv hkz hkr hwt hgv;obtain⟨W2,hW2⟩:=xj ((w.alloc (.cells (rqC q.k q wa wc sa sc) 42)).alloc (.cells (zC 0 0 0 0) 48));rw[hW2]at H0;obtain⟨c0,c1,c2,c3,c4,c5,c6,c7,c8,c9,c10,c11,c12⟩:=SB.out _ _ _ H0.out;go_enter Tryz.func62,Tryz.ntmps62;go_wp2_with fail;rw[<-hb1,NC.out];clear hW2 hb1 NC;refine(CK.out _ H0.out).mono ?_;rintro e w3 ⟨rfl,hq⟩;have H3:Hid _:=hq;clear hq CK c0 c1 c2 c3 c4 c5 c6 c7 c8 c9 c10 c11 c12 nul H0;have hob:(w3.alloc (.cells (rpD kr none 0 0) 48)).heap[w3.heap.size]?=some (.cells (rpD kr none 0 0) 48 (0,0)):=ae w3 _;have H4:Hid (Cx SA TA BA f M w Xh a g Dh Lo (w3.alloc (.cells (rpD kr none 0 0) 48))):=ON.out _ _ _ _ H3.out (al _);go_upto_region 2 with fail
 obtain⟨W4,hW4⟩:=xj (w3.alloc (.cells (rpD kr none 0 0) 48));rw[hW4]at hob H4|-;clear hW4 H3;cases kz
 case true=>
  have HE:Hid (Y=(kr,Xh,Dh)):=by
   show _=_;rw[HL.out];cases ho with
   |none=>have:=HKz.out.1;cases this
   |some r=>rw[HKz.out.2 r rfl]
  obtain⟨i0,i1,i2,i3,i4,i5,i6,i7,i8,i9,i10,i11,i12,i13,-⟩:=Ep hob;clear hob CG SH DW;have K:=H4;exact re5
 case false=>
  have HE:Hid (Y=({Rp.zero with k:=1,found:=gb,val:=gv},Xh,Dh)):=by
   show _=_;rw[HL.out];cases ho with
   |none=>rfl
   |some r=>have:=HKz.out.1;cases this
  clear hob HKz HL;go_wp2_with fail;go_region_held3 (λW=>ce W f.sb 2 (pz f.st)/\ce W w.heap.size 7 (sd q.key)/\ce W w.heap.size 3 (uw q.sp)/\ce W w.heap.size 4 (ui q.sl)) (first|exact SH.out _ _ _ H4.out|exact SH.out _ _ _ (DW.out _ _ _ H4.out)|exact SH.out _ _ _ H5.out) (first
   |(go_at_call 135;refine(CG.out _ (DW.out _ _ _ H4.out)).mono ?_;rintro e w5 ⟨rfl,hq⟩;have H5:Hid _:=hq;clear hq))
  rename_i hHeld;clear hHeld CG SH DW H4;have K:=H5;exact re5
end Go.Proofs.YtnfpfbehebcdpaaGreat
namespace Go.Proofs.YtnfpfbehebcdpaaGreat
variable {X:Sd}{a:Int}{D:Drm.Dr}
def al5{ph:Int}{q:Rq}{lo hi:Bi}{r:Rp}(h:(Cm ph q lo hi X a D).1=some r):r.prs=[]:=by
 exact bbh
def adv{c n:Int}{r:Rp}(h:Cj c n X=some r):r.prs=[]:=by
 unfold Cj at h;split at h
 .injection h with h;rw[<-h];split<;>rfl
 .obtain⟨v,-,e⟩:=o8.1 h;rw[<-e];rfl
def ari{k:Bi}{sp sl:Int}{r:Rp}(h:Ij k sp sl X=some r):r.prs=[]:=by
 unfold Ij at h;repeat' split at h
 all_goals first|(injection h with h;rw[<-h];rfl)|cases h
def afw(c n sp sl:Int):(Fz c n sp sl X a D).1.prs=[]:=by
 unfold Fz;repeat' split
 all_goals rfl
def au5(ph:Int)(q:Rq):(getFn ph q X a D).1.prs=[]:=by
 unfold getFn;split
 .rename_i h;exact al5 h
 .rfl
def auo(ph:Int)(q:Rq):(Oa ph q X a D).1.prs=[]:=by
 rw[ab4];split
 .rfl
 .split
  .rename_i h;exact adv h
  .split
   .rfl
   .split
    .rename_i h;obtain⟨x,-,e⟩:=List.exists_of_findSome?_eq_some h;exact ari e
    .dsimp only;repeat' split
     all_goals rfl
def avh(ph:Int)(q:Rq):(Oe ph q X a D).1.prs=[]:=by
 rw[acg];split
 .rename_i h;exact adv h
 .repeat' split
  all_goals rfl
def av2(ph:Int)(q:Rq):(Lm ph q X a D).1.prs=[]:=by
 obtain⟨y,z,hv,hz,hy⟩:=Ry (Ver.getB q.c q.n X.K);rw[acm ph q X a D hz hy];repeat' split
 all_goals rfl
def asc(q:Rq):(Nj q X a D).1.prs=[]:=by
 unfold Nj;split
 .rename_i h;exact adv h
 .exact afw _ _ _ _
def atp(ph:Int)(q:Rq):(Kw ph q X a D).1.prs=[]:=by
 rw[abt ph q X a D rfl];split
 .rename_i h;exact adv h
 .repeat' split
  all_goals first|rfl|exact afw _ _ _ _
def as9(q:Rq):(Nq q X a D).1.prs=[]:=by
 unfold Nq;repeat' split
 all_goals rfl
def avg(q:Rq):(Jq q X a D).1.prs=[]:=by
 unfold Jq;repeat' split
 all_goals rfl
end Go.Proofs.YtnfpfbehebcdpaaGreat
namespace Go.Proofs.YtnfpfbehebcdpaaGreat
open Go.RowKit
variable {SA:TyS}{TA:TyT}{BA:TyB}
variable {f:Fp}{M:Nat->Prop}{X:Sd}{a:Int}{g:Nat}{D:Drm.Dr}{w W W':World}{Lo:List (Nat×Obj)}
def PrO(B:Nat)(sv:Value)(L:List (Bi×Bi))(w:World):Prop:=w.ownsRow B 323 2 sv L.length (Sto.prc L)
def PrO.nil(B:Nat)(w:World):PrO B sy [] w:=Lat.Ip _ _ _ _
def aa5(SA:TyS)(TA:TyT)(BA:TyB):Prop:=
 ∀{f:Fp} {M:Nat->Prop} {X:Sd} {a:Int} {g:Nat} {D:Drm.Dr} {w:World} (ph:Int) (q:Rq) (wa:Option Addr) (wc:Nat) (sa:Option Addr) (sc:Nat),ShAt SA TA BA f M X a g D w->X.wt<8900->XOk X->0<=ph->RqOk q->q.sk.length<=16->TAt w.heap.size (.slice sa q.sk.length sc) q.sk w->(0<q.sk.length->∀k,(Value.slice sa q.sk.length sc).ownBlock=some k->¬M k/\k<w.heap.size)->cpr 63 #[pz f.sb,uw ph,.agg (rqC q.k q wa wc sa sc)] w λe w'=>∃ao n cap,e=.returned (rpV (Ib ph q X a D).1 (.slice ao n cap))/\PrO w.heap.size (.slice ao n cap) (Ib ph q X a D).1.prs w'/\ShTo SA TA BA f M w (Ib ph q X a D).2.1 a g (Ib ph q X a D).2.2 w'
def ac0{v:Value}{n:Nat}{M':Nat->Prop}(h:0<n->∀k,v.ownBlock=some k->¬M k/\k<w.heap.size)(h8:∀i,M' i->M i\/w.heap.size<=i)(hs:w.heap.size<=W.heap.size):0<n->∀k,v.ownBlock=some k->¬M' k/\k<W.heap.size:=λh0 k hk=>by
 have h1:=h h0 k hk;refine⟨λhm=>?_,by omega⟩;rcases h8 k hm with e1|e1
 .exact h1.1 e1
 .omega
def aim{L:List Wr}{ao:Option Addr}{cp:Nat}{M':Nat->Prop}(h:WsIn M w ao cp L)(h8:∀i,M' i->M i\/w.heap.size<=i)(hk:Kept M w W):WsIn M' W ao cp L:=⟨h.kept hk,λh1 k hk hm=>by
 rcases h8 k hm with e1|e1
 .exact h.not h1 k hk e1
 .have:=h.lt h1 hk;omega⟩
def awf(E:Env SA TA BA)(S:aa5 SA TA BA)(ph:Int)(q:Rq)(wa:Option Addr)(wc:Nat)(sa:Option Addr)(sc:Nat)(h:ShAt SA TA BA f M X a g D w)(ht:X.wt<8900)(hX:XOk X)(hph:0<=ph)(hph2:ph<=18446744073709551615)(hq:RqOk q)(hi:WsIn M w wa wc q.ws)(hsi:TAt w.heap.size (.slice sa q.sk.length sc) q.sk w)(hsn:0<q.sk.length->∀k,(Value.slice sa q.sk.length sc).ownBlock=some k->¬M k/\k<w.heap.size)(hr:¬Et q=true):
  cpr 27 #[pz f.sb,uw ph,.agg (rqC q.k q wa wc sa sc)] w λe w'=>∃ao n cap,e=.returned (rpV (ansF ph q X a D).1 (.slice ao n cap))/\PrO w.heap.size (.slice ao n cap) (ansF ph q X a D).1.prs w'/\ShTo SA TA BA f M w (ansF ph q X a D).2.1 a g (ansF ph q X a D).2.2 w':=by
 have HL0:ansF ph q X a D=if Et q=false then(Cb 1,X,D)else if D.down then(Cb 11,X,D)else if q.k=1 then getFn ph q X a D else if q.k=2 then Ib ph q X a D else if q.k=3 then Oa ph q X a D else if q.k=4 then Oe ph q X a D else if q.k=5 then Lm ph q X a D else if q.k=6 then Nj q X a D else if q.k=7 then Kw ph q X a D else if q.k=8 then Nq q X a D else Jq q X a D:=rfl;obtain⟨b1,Lo,hb1,hLo,H0,SP,HR,ON,NW,CR,CS⟩:=V7 E h q.k q wa wc sa sc;have SB:Hid (∀(X:Sd) (D:Drm.Dr) W,Cx SA TA BA f M w X a g D Lo W->W.cell? ⟨w.heap.size,0,none⟩=some (iw q.k)/\W.cell? ⟨w.heap.size,1,none⟩=some (ui q.c)/\W.cell? ⟨w.heap.size,2,none⟩=some (ui q.n)/\W.cell? ⟨w.heap.size,3,none⟩=some (uw q.sp)/\W.cell? ⟨w.heap.size,4,none⟩=some (ui q.sl)/\W.cell? ⟨w.heap.size,5,none⟩=some (uw q.ap)/\W.cell? ⟨w.heap.size,6,none⟩=some (ui q.al)/\W.cell? ⟨w.heap.size,7,none⟩=some (sd q.key)/\W.cell? ⟨w.heap.size,8,none⟩=some (sd q.hi)/\W.cell? ⟨w.heap.size,9,none⟩=some (iw q.lim)/\W.cell? ⟨w.heap.size,10,none⟩=some (ub q.pt)/\W.cell? ⟨w.heap.size,11,none⟩=some (.slice wa q.ws.length wc)/\W.cell? ⟨w.heap.size,12,none⟩=some (.slice sa q.sk.length sc)):=λX D W hW=>by subst hLo;exact⟨hW.has.cell tq1 rfl,hW.has.cell tq1 rfl,hW.has.cell tq1 rfl,hW.has.cell tq1 rfl,hW.has.cell tq1 rfl,hW.has.cell tq1 rfl,hW.has.cell tq1 rfl,hW.has.cell tq1 rfl,hW.has.cell tq1 rfl,hW.has.cell tq1 rfl,hW.has.cell tq1 rfl,hW.has.cell tq1 rfl,hW.has.cell tq1 rfl⟩
 have CR1:Hid (∀W,Cx SA TA BA f M w X a g D Lo W->cpr 60 #[.agg (rqC q.k q wa wc sa sc)] W λe w'=>e=.returned (.bool (Et q))/\Cx SA TA BA f M w X a g D Lo w'):=λW hW=>(ajb q wa wc sa sc (hi.kept hW.kp)).mono λr w' h=>⟨h.1,hW.on E h.2⟩;have CD:Hid (∀W,Cx SA TA BA f M w X a g D Lo W->cpr 61 #[pz f.pb] W λe w'=>e=.returned (.bool D.down)/\Cx SA TA BA f M w X a g D Lo w'):=λW hW=>by obtain⟨M9,h9,-,-⟩:=hW.sh;refine(ac1 h9).mono ?_;rintro r w' ⟨rfl,rfl⟩;exact⟨rfl,hW⟩
 have PT:Hid (∀W,Cx SA TA BA f M w X a g D Lo W->W.cell? ⟨f.sb,0,none⟩=some (pz f.pb)):=λW hW=>hW.ptrs.1;have OS:Hid (∀(X:Sd) (D:Drm.Dr) W0 W v' L (v0 v1 v2 v3 v4 v5 v6 v7 v8 v9 v10 v11 v12 v13:Value),Cx SA TA BA f M w X a g D Lo W0->PrO W0.heap.size v' L W->PrO w.heap.size v' L (s14 W b1 v0 v1 v2 v3 v4 v5 v6 v7 v8 v9 v10 v11 v12 v13)):=λX D W0 W v' L v0 v1 v2 v3 v4 v5 v6 v7 v8 v9 v10 v11 v12 v13 h0 ho=>by have hk:Kept (λk=>k=b1) W (s14 W b1 v0 v1 v2 v3 v4 v5 v6 v7 v8 v9 v10 v11 v12 v13):=Xf;have hlt:b1<W0.heap.size:=gp (SP.out _ _ _ h0);refine Gt (Lj ho (by omega)) hk (λk hk' e=>?_);have:=(jm ho k hk').1;omega
 have hr':Et q=false:=by simpa using hr
 have HE:Hid (ansF ph q X a D=(Cb 1,X,D)):=by show _=_;rw[HL0,ah hr']
 rw[hr']at CR1;generalize ansF ph q X a D=Y at*;clear hLo h ht hX hph hph2 hq hi hsi hsn E S HL0 hr hr';obtain⟨W2,hW2⟩:=xj ((w.alloc (.cells (rqC q.k q wa wc sa sc) 42)).alloc (.cells (zC 0 0 0 0) 48));rw[hW2]at H0;have zc0:=SB.out _ _ _ H0.out;go_enter Tryz.func27,Tryz.ntmps27;go_wp2_with fail;rw[<-hb1];clear hW2 hb1;refine(CR1.out _ H0.out).mono ?_;rintro e w3 ⟨rfl,hq⟩;have H3:Hid _:=hq;clear hq CR1 H0 zc0;go_wp2_with fail;refine(CR.out _ _).mono ?_;rintro e w4 ⟨rfl,hb⟩;have H4:Hid _:=ON.out _ _ _ _ H3.out hb;clear hb;have zz0:=Ep (SP.out _ _ _ H4.out);go_wp2_with fail;refine az (Tt rfl rfl rfl (Jg (SP.out _ _ _ H4.out))) rfl ?_;rw[HE.out];exact⟨none,0,0,rfl,PrO.nil _ _,HR.out _ _ _ _ _ _ _ _ _ _ _ _ _ _ _ _ _ H4.out⟩
def AnsP(SA:TyS)(TA:TyT)(BA:TyB)(f:Fp)(M:Nat->Prop)(X:Sd)(a:Int)(g:Nat)(D:Drm.Dr)(w:World)(ph:Int)(q:Rq)(wa:Option Addr)(wc:Nat)(sa:Option Addr)(sc:Nat):Prop:=
  cpr 27 #[pz f.sb,uw ph,.agg (rqC q.k q wa wc sa sc)] w λe w'=>∃ao n cap,e=.returned (rpV (ansF ph q X a D).1 (.slice ao n cap))/\PrO w.heap.size (.slice ao n cap) (ansF ph q X a D).1.prs w'/\ShTo SA TA BA f M w (ansF ph q X a D).2.1 a g (ansF ph q X a D).2.2 w'
abbrev CgP(SA:TyS)(TA:TyT)(BA:TyB)(f:Fp)(M:Nat->Prop)(X:Sd)(a:Int)(g:Nat)(D:Drm.Dr)(w:World)(fn:Nat)(xs:Array Value)(H:Rp×Sd×Drm.Dr):Prop:=
 ∀Lo W,Cx SA TA BA f M w X a g D Lo W->cpr fn xs W λe w'=>∃ao n cap,e=.returned (rpV H.1 (.slice ao n cap))/\Cx SA TA BA f M w H.2.1 a g H.2.2 Lo w'/\PrO W.heap.size (.slice ao n cap) H.1.prs w'
def Ql(ph:Int)(q:Rq)(X:Sd)(a:Int)(D:Drm.Dr):ansF ph q X a D=if Et q=false then(Cb 1,X,D)else if D.down then(Cb 11,X,D)
  else if q.k=1 then getFn ph q X a D else if q.k=2 then Ib ph q X a D else if q.k=3 then Oa ph q X a D else if q.k=4 then Oe ph q X a D else if q.k=5 then Lm ph q X a D
  else if q.k=6 then Nj q X a D else if q.k=7 then Kw ph q X a D else if q.k=8 then Nq q X a D else Jq q X a D:=rfl
def rhT{P:Prop}(z:P:=by
 unfold AnsP;obtain⟨b1,Lo,hb1,hLo,H0,SP,HR,ON,NW,CR,CS⟩:=V7 E h q.k q wa wc sa sc;have SB:Hid (∀(X:Sd) (D:Drm.Dr) W,Cx SA TA BA f M w X a g D Lo W->W.cell? ⟨w.heap.size,0,none⟩=some (iw q.k)/\W.cell? ⟨w.heap.size,1,none⟩=some (ui q.c)/\W.cell? ⟨w.heap.size,2,none⟩=some (ui q.n)/\W.cell? ⟨w.heap.size,3,none⟩=some (uw q.sp)/\W.cell? ⟨w.heap.size,4,none⟩=some (ui q.sl)/\W.cell? ⟨w.heap.size,5,none⟩=some (uw q.ap)/\W.cell? ⟨w.heap.size,6,none⟩=some (ui q.al)/\W.cell? ⟨w.heap.size,7,none⟩=some (sd q.key)/\W.cell? ⟨w.heap.size,8,none⟩=some (sd q.hi)/\W.cell? ⟨w.heap.size,9,none⟩=some (iw q.lim)/\W.cell? ⟨w.heap.size,10,none⟩=some (ub q.pt)/\W.cell? ⟨w.heap.size,11,none⟩=some (.slice wa q.ws.length wc)/\W.cell? ⟨w.heap.size,12,none⟩=some (.slice sa q.sk.length sc)):=λX D W hW=>by subst hLo;exact⟨hW.has.cell tq1 rfl,hW.has.cell tq1 rfl,hW.has.cell tq1 rfl,hW.has.cell tq1 rfl,hW.has.cell tq1 rfl,hW.has.cell tq1 rfl,hW.has.cell tq1 rfl,hW.has.cell tq1 rfl,hW.has.cell tq1 rfl,hW.has.cell tq1 rfl,hW.has.cell tq1 rfl,hW.has.cell tq1 rfl,hW.has.cell tq1 rfl⟩
 have CR1:Hid (∀W,Cx SA TA BA f M w X a g D Lo W->cpr 60 #[.agg (rqC q.k q wa wc sa sc)] W λe w'=>e=.returned (.bool (Et q))/\Cx SA TA BA f M w X a g D Lo w'):=λW hW=>(ajb q wa wc sa sc (hi.kept hW.kp)).mono λr w' h=>⟨h.1,hW.on E h.2⟩;have CD:Hid (∀W,Cx SA TA BA f M w X a g D Lo W->cpr 61 #[pz f.pb] W λe w'=>e=.returned (.bool D.down)/\Cx SA TA BA f M w X a g D Lo w'):=λW hW=>by obtain⟨M9,h9,-,-⟩:=hW.sh;refine(ac1 h9).mono ?_;rintro r w' ⟨rfl,rfl⟩;exact⟨rfl,hW⟩
 have PT:Hid (∀W,Cx SA TA BA f M w X a g D Lo W->W.cell? ⟨f.sb,0,none⟩=some (pz f.pb)):=λW hW=>hW.ptrs.1;have OS:Hid (∀(X:Sd) (D:Drm.Dr) W0 W v' L (v0 v1 v2 v3 v4 v5 v6 v7 v8 v9 v10 v11 v12 v13:Value),Cx SA TA BA f M w X a g D Lo W0->PrO W0.heap.size v' L W->PrO w.heap.size v' L (s14 W b1 v0 v1 v2 v3 v4 v5 v6 v7 v8 v9 v10 v11 v12 v13)):=λX D W0 W v' L v0 v1 v2 v3 v4 v5 v6 v7 v8 v9 v10 v11 v12 v13 h0 ho=>by have hk:Kept (λk=>k=b1) W (s14 W b1 v0 v1 v2 v3 v4 v5 v6 v7 v8 v9 v10 v11 v12 v13):=Xf;have hlt:b1<W0.heap.size:=gp (SP.out _ _ _ h0);refine Gt (Lj ho (by omega)) hk (λk hk' e=>?_);have:=(jm ho k hk').1;omega
 rw[hr]at CR1;have HL1:Hid _:=HL;have CG1:Hid _:=CG;clear HL CG;generalize ansF ph q X a D=Y at*;obtain⟨hr9,Xh,Dh⟩:=H;dsimp only[CgP]at CG1;obtain⟨D0,hD0⟩:=xj D.down;rw[hD0]at CD HL1;generalize q.k=kk at*;obtain⟨W2,hW2⟩:=xj ((w.alloc (.cells (rqC kk q wa wc sa sc) 42)).alloc (.cells (zC 0 0 0 0) 48));rw[hW2]at H0;clear hLo h ht hX hph hph2 hq hi hsi hsn E S hr hD0;subst hk;have zc0:=SB.out _ _ _ H0.out;go_enter Tryz.func27,Tryz.ntmps27;go_wp2_with fail;rw[<-hb1];clear hW2 hb1;refine(CR1.out _ H0.out).mono ?_;rintro e w3 ⟨rfl,hq⟩;have H3:Hid _:=hq;clear hq CR1 H0 zc0;have p0:=PT.out _ H3.out;go_wp2_with fail;refine(CD.out _ H3.out).mono ?_;rintro e w4 ⟨rfl,hq⟩;have H4:Hid _:=hq;clear hq CD PT p0 H3;cases D0
 case true=>
  have HE:Hid (Y=(Cb 11,X,D)):=HL1.out;clear CG1;go_wp2_with fail;refine(CR.out _ _).mono ?_;rintro e w5 ⟨rfl,hb⟩;have H5:Hid _:=ON.out _ _ _ _ H4.out hb;clear hb;have zz0:=Ep (SP.out _ _ _ H5.out);go_wp2_with fail;refine az (Tt rfl rfl rfl (Jg (SP.out _ _ _ H5.out))) rfl ?_;rw[HE.out];exact⟨none,0,0,rfl,PrO.nil _ _,HR.out _ _ _ _ _ _ _ _ _ _ _ _ _ _ _ _ _ H5.out⟩
 case false=>
  have HE:Hid (Y=(hr9,Xh,Dh)):=HL1.out;have zc0:=SB.out _ _ _ H4.out;go_wp2_with fail;refine(CG1.out _ _ H4.out).mono ?_;rintro e w5 ⟨ao,n,cap,rfl,hq,ho⟩;have H5:Hid _:=hq;have HO5:Hid _:=ho;clear hq ho CG1 zc0;unfold rpV;have zz0:=Ep (SP.out _ _ _ H5.out);go_wp2_with fail;refine az (Tt rfl rfl rfl (Jg (SP.out _ _ _ H5.out))) rfl ?_;rw[HE.out];exact⟨_,_,_,rfl,OS.out _ _ _ _ _ _ _ _ _ _ _ _ _ _ _ _ _ _ _ _ H4.out HO5.out,HR.out _ _ _ _ _ _ _ _ _ _ _ _ _ _ _ _ _ H5.out⟩):P:=z
def aeo(SA:TyS)(TA:TyT)(BA:TyB)(f:Fp)(M:Nat->Prop)(X:Sd)(a:Int)(g:Nat)(D:Drm.Dr)(w:World)(ph:Int)(q:Rq)(wa:Option Addr)(wc:Nat)(sa:Option Addr)(sc:Nat)(kk:Int):Prop:=
 ∀(E:Env SA TA BA) (S:aa5 SA TA BA) (h:ShAt SA TA BA f M X a g D w) (ht:X.wt<8900) (hX:XOk X) (hph:0<=ph) (hph2:ph<=18446744073709551615) (hq:RqOk q) (hi:WsIn M w wa wc q.ws) (hsi:TAt w.heap.size (.slice sa q.sk.length sc) q.sk w) (hsn:0<q.sk.length->∀k,(Value.slice sa q.sk.length sc).ownBlock=some k->¬M k/\k<w.heap.size) (hr:Et q=true),q.k=kk->AnsP SA TA BA f M X a g D w ph q wa wc sa sc
def awe(ph:Int)(q:Rq)(wa:Option Addr)(wc:Nat)(sa:Option Addr)(sc:Nat):aeo SA TA BA f M X a g D w ph q wa wc sa sc 1:=λE S h ht hX hph hph2 hq hi hsi hsn hr hk=>by
 have hr0:=hr;unfold Et at hr0;have hsk:q.sk.length<=16:=by simp at hr0;omega
 have hkk:kOk q.key=true:=by have:=hr0;rw[hk]at this;simp at this;simp[this]
 have hkey:q.key.length<=32:=by have:=hkk;simp[kOk]at this;omega
 have CG:CgP SA TA BA f M X a g D w 62 #[pz f.sb,uw ph,.agg (rqC q.k q wa wc sa sc)] (getFn ph q X a D):=λLo W hW=>by obtain⟨M9,hM,h8,h7⟩:=hW.sh;refine(get92 E ph q wa wc sa sc hM (by omega) hX hph hq hkey hsk (SkIn.kept hsi (λh0 k hk=>(hsn h0 k hk).1) hW.kp) (ac0 hsn h8 hW.kp.size)).mono ?_;rintro e w' ⟨rfl,hs⟩;exact⟨none,0,0,rfl,hW.next h8 h7 hs,by rw[au5 ph q];exact PrO.nil _ _⟩
 have HL:ansF ph q X a D=if D.down then(Cb 11,X,D)else(getFn ph q X a D):=by rw[Ql,hr,hk];rfl
 generalize (getFn ph q X a D)=H at*;clear hr0 hsk hkk hkey;exact rhT
def awd(ph:Int)(q:Rq)(wa:Option Addr)(wc:Nat)(sa:Option Addr)(sc:Nat):aeo SA TA BA f M X a g D w ph q wa wc sa sc 2:=λE S h ht hX hph hph2 hq hi hsi hsn hr hk=>by
 have hr0:=hr;unfold Et at hr0;have hsk:q.sk.length<=16:=by simp at hr0;omega
 have CG:CgP SA TA BA f M X a g D w 63 #[pz f.sb,uw ph,.agg (rqC q.k q wa wc sa sc)] (Ib ph q X a D):=λLo W hW=>by obtain⟨M9,hM,h8,h7⟩:=hW.sh;refine(S ph q wa wc sa sc hM (by omega) hX hph hq hsk (SkIn.kept hsi (λh0 k hk=>(hsn h0 k hk).1) hW.kp) (ac0 hsn h8 hW.kp.size)).mono ?_;rintro e w' ⟨ao,n,cap,rfl,ho,hs⟩;exact⟨ao,n,cap,rfl,hW.next h8 h7 hs,ho⟩
 have HL:ansF ph q X a D=if D.down then(Cb 11,X,D)else(Ib ph q X a D):=by rw[Ql,hr,hk];rfl
 generalize (Ib ph q X a D)=H at*;clear hr0 hsk;exact rhT
def awc(ph:Int)(q:Rq)(wa:Option Addr)(wc:Nat)(sa:Option Addr)(sc:Nat):aeo SA TA BA f M X a g D w ph q wa wc sa sc 3:=λE S h ht hX hph hph2 hq hi hsi hsn hr hk=>by
 have hr0:=hr;unfold Et at hr0;have hsk:q.sk.length<=16:=by simp at hr0;omega
 have hkk:kOk q.key=true:=by have:=hr0;rw[hk]at this;simp at this;simp[this]
 have hww:Bf q.ws=true:=by have:=hr0;rw[hk]at this;simp at this;simp[this]
 have CG:CgP SA TA BA f M X a g D w 64 #[pz f.sb,uw ph,.agg (rqC q.k q wa wc sa sc)] (Oa ph q X a D):=λLo W hW=>by obtain⟨M9,hM,h8,h7⟩:=hW.sh;refine(lay94 E ph q wa wc sa sc hM (by omega) hX hph hq hkk hww (aim hi h8 hW.kp)).mono ?_;rintro e w' ⟨rfl,hs⟩;exact⟨none,0,0,rfl,hW.next h8 h7 hs,by rw[auo ph q];exact PrO.nil _ _⟩
 have HL:ansF ph q X a D=if D.down then(Cb 11,X,D)else(Oa ph q X a D):=by rw[Ql,hr,hk];rfl
 generalize (Oa ph q X a D)=H at*;clear hr0 hsk hkk hww;exact rhT
def av9(ph:Int)(q:Rq)(wa:Option Addr)(wc:Nat)(sa:Option Addr)(sc:Nat):aeo SA TA BA f M X a g D w ph q wa wc sa sc 4:=λE S h ht hX hph hph2 hq hi hsi hsn hr hk=>by
 have hr0:=hr;unfold Et at hr0;have hsk:q.sk.length<=16:=by simp at hr0;omega
 have CG:CgP SA TA BA f M X a g D w 65 #[pz f.sb,uw ph,.agg (rqC q.k q wa wc sa sc)] (Oe ph q X a D):=λLo W hW=>by obtain⟨M9,hM,h8,h7⟩:=hW.sh;refine(dec95 E ph q wa wc sa sc hM (by omega) hX hph hq).mono ?_;rintro e w' ⟨rfl,hs⟩;exact⟨none,0,0,rfl,hW.next h8 h7 hs,by rw[avh ph q];exact PrO.nil _ _⟩
 have HL:ansF ph q X a D=if D.down then(Cb 11,X,D)else(Oe ph q X a D):=by rw[Ql,hr,hk];rfl
 generalize (Oe ph q X a D)=H at*;clear hr0 hsk;exact rhT
def av8(ph:Int)(q:Rq)(wa:Option Addr)(wc:Nat)(sa:Option Addr)(sc:Nat):aeo SA TA BA f M X a g D w ph q wa wc sa sc 5:=λE S h ht hX hph hph2 hq hi hsi hsn hr hk=>by
 have hr0:=hr;unfold Et at hr0;have hsk:q.sk.length<=16:=by simp at hr0;omega
 have CG:CgP SA TA BA f M X a g D w 66 #[pz f.sb,uw ph,.agg (rqC q.k q wa wc sa sc)] (Lm ph q X a D):=λLo W hW=>by obtain⟨M9,hM,h8,h7⟩:=hW.sh;refine(app96 E ph q wa wc sa sc hM (by omega) hX hph hq).mono ?_;rintro e w' ⟨rfl,hs⟩;exact⟨none,0,0,rfl,hW.next h8 h7 hs,by rw[av2 ph q];exact PrO.nil _ _⟩
 have HL:ansF ph q X a D=if D.down then(Cb 11,X,D)else(Lm ph q X a D):=by rw[Ql,hr,hk];rfl
 generalize (Lm ph q X a D)=H at*;clear hr0 hsk;exact rhT
def av7(ph:Int)(q:Rq)(wa:Option Addr)(wc:Nat)(sa:Option Addr)(sc:Nat):aeo SA TA BA f M X a g D w ph q wa wc sa sc 6:=λE S h ht hX hph hph2 hq hi hsi hsn hr hk=>by
 have hr0:=hr;unfold Et at hr0;have hsk:q.sk.length<=16:=by simp at hr0;omega
 have CG:CgP SA TA BA f M X a g D w 67 #[pz f.sb,.agg (rqC q.k q wa wc sa sc)] (Nj q X a D):=λLo W hW=>by obtain⟨M9,hM,h8,h7⟩:=hW.sh;refine(axc E q wa wc sa sc hM (by omega) hX hq).mono ?_;rintro e w' ⟨rfl,hs⟩;exact⟨none,0,0,rfl,hW.next h8 h7 hs,by rw[asc q];exact PrO.nil _ _⟩
 have HL:ansF ph q X a D=if D.down then(Cb 11,X,D)else(Nj q X a D):=by rw[Ql,hr,hk];rfl
 generalize (Nj q X a D)=H at*;clear hr0 hsk;exact rhT
def av6(ph:Int)(q:Rq)(wa:Option Addr)(wc:Nat)(sa:Option Addr)(sc:Nat):aeo SA TA BA f M X a g D w ph q wa wc sa sc 7:=λE S h ht hX hph hph2 hq hi hsi hsn hr hk=>by
 have hr0:=hr;unfold Et at hr0;have hsk:q.sk.length<=16:=by simp at hr0;omega
 have CG:CgP SA TA BA f M X a g D w 68 #[pz f.sb,uw ph,.agg (rqC q.k q wa wc sa sc)] (Kw ph q X a D):=λLo W hW=>by obtain⟨M9,hM,h8,h7⟩:=hW.sh;refine(ax8 E ph q wa wc sa sc hM (by omega) hX hph hph2 hq).mono ?_;rintro e w' ⟨rfl,hs⟩;exact⟨none,0,0,rfl,hW.next h8 h7 hs,by rw[atp ph q];exact PrO.nil _ _⟩
 have HL:ansF ph q X a D=if D.down then(Cb 11,X,D)else(Kw ph q X a D):=by rw[Ql,hr,hk];rfl
 generalize (Kw ph q X a D)=H at*;clear hr0 hsk;exact rhT
def av5(ph:Int)(q:Rq)(wa:Option Addr)(wc:Nat)(sa:Option Addr)(sc:Nat):aeo SA TA BA f M X a g D w ph q wa wc sa sc 8:=λE S h ht hX hph hph2 hq hi hsi hsn hr hk=>by
 have hr0:=hr;unfold Et at hr0;have hsk:q.sk.length<=16:=by simp at hr0;omega
 have CG:CgP SA TA BA f M X a g D w 69 #[pz f.sb,.agg (rqC q.k q wa wc sa sc)] (Nq q X a D):=λLo W hW=>by obtain⟨M9,hM,h8,h7⟩:=hW.sh;refine(axx E q wa wc sa sc hM (by omega) hX hq).mono ?_;rintro e w' ⟨rfl,hs⟩;exact⟨none,0,0,rfl,hW.next h8 h7 hs,by rw[as9 q];exact PrO.nil _ _⟩
 have HL:ansF ph q X a D=if D.down then(Cb 11,X,D)else(Nq q X a D):=by rw[Ql,hr,hk];rfl
 generalize (Nq q X a D)=H at*;clear hr0 hsk;exact rhT
def av4(ph:Int)(q:Rq)(wa:Option Addr)(wc:Nat)(sa:Option Addr)(sc:Nat):aeo SA TA BA f M X a g D w ph q wa wc sa sc 9:=λE S h ht hX hph hph2 hq hi hsi hsn hr hk=>by
 have hr0:=hr;unfold Et at hr0;have hsk:q.sk.length<=16:=by simp at hr0;omega
 have CG:CgP SA TA BA f M X a g D w 70 #[pz f.sb,.agg (rqC q.k q wa wc sa sc)] (Jq q X a D):=λLo W hW=>by obtain⟨M9,hM,h8,h7⟩:=hW.sh;refine(avf E q wa wc sa sc hM (by omega) hX hq).mono ?_;rintro e w' ⟨rfl,hs⟩;exact⟨none,0,0,rfl,hW.next h8 h7 hs,by rw[avg q];exact PrO.nil _ _⟩
 have HL:ansF ph q X a D=if D.down then(Cb 11,X,D)else(Jq q X a D):=by rw[Ql,hr,hk];rfl
 generalize (Jq q X a D)=H at*;clear hr0 hsk;exact rhT
def ans47(E:Env SA TA BA)(S:aa5 SA TA BA)(ph:Int)(q:Rq)(wa:Option Addr)(wc:Nat)(sa:Option Addr)(sc:Nat)(h:ShAt SA TA BA f M X a g D w)(ht:X.wt<8900)(hX:XOk X)(hph:0<=ph)(hph2:ph<=18446744073709551615)(hq:RqOk q)(hi:WsIn M w wa wc q.ws)(hsi:TAt w.heap.size (.slice sa q.sk.length sc) q.sk w)(hsn:0<q.sk.length->∀k,(Value.slice sa q.sk.length sc).ownBlock=some k->¬M k/\k<w.heap.size):
  cpr 27 #[pz f.sb,uw ph,.agg (rqC q.k q wa wc sa sc)] w λe w'=>∃ao n cap,e=.returned (rpV (ansF ph q X a D).1 (.slice ao n cap))/\PrO w.heap.size (.slice ao n cap) (ansF ph q X a D).1.prs w'/\ShTo SA TA BA f M w (ansF ph q X a D).2.1 a g (ansF ph q X a D).2.2 w':=by
 by_cases hr:Et q=true
 case neg=>exact awf E S ph q wa wc sa sc h ht hX hph hph2 hq hi hsi hsn hr
 case pos=>
  have hr0:=hr;unfold Et at hr0;have hk0:q.k=1\/q.k=2\/q.k=3\/q.k=4\/q.k=5\/q.k=6\/q.k=7\/q.k=8\/q.k=9:=by simp at hr0;omega
  rcases hk0 with hk|hk|hk|hk|hk|hk|hk|hk|hk
  .exact awe ph q wa wc sa sc E S h ht hX hph hph2 hq hi hsi hsn hr hk
  .exact awd ph q wa wc sa sc E S h ht hX hph hph2 hq hi hsi hsn hr hk
  .exact awc ph q wa wc sa sc E S h ht hX hph hph2 hq hi hsi hsn hr hk
  .exact av9 ph q wa wc sa sc E S h ht hX hph hph2 hq hi hsi hsn hr hk
  .exact av8 ph q wa wc sa sc E S h ht hX hph hph2 hq hi hsi hsn hr hk
  .exact av7 ph q wa wc sa sc E S h ht hX hph hph2 hq hi hsi hsn hr hk
  .exact av6 ph q wa wc sa sc E S h ht hX hph hph2 hq hi hsi hsn hr hk
  .exact av5 ph q wa wc sa sc E S h ht hX hph hph2 hq hi hsi hsn hr hk
  .exact av4 ph q wa wc sa sc E S h ht hX hph hph2 hq hi hsi hsn hr hk
def aqf{ph:Int}{q:Rq}{lo hi:Bi}{r:Rp}(h:(Cm ph q lo hi X a D).1=some r):r.prs=[]:=by
 exact bbh
def asy(E:Env SA TA BA)(lo hi:Bi)(t u limit:Int)(h:ShAt SA TA BA f M X a g D w)(ht:Sto.totS X.S<10000):cpr 136 #[pz f.st,sd lo,sd hi,.agg #[uw t,ui u],iw limit] w λe w'=>∃v',e=.returned v'/\w'.ownsRow w.heap.size 323 2 v' (Sto.Np lo hi t u limit X.S).length (Sto.prc (Sto.Np lo hi t u limit X.S))/\Bw w w':=by obtain⟨M1,M2,M3,h,rfl⟩:=h;exact E.I.scan lo hi t u limit h.s ht
def as7(E:Env SA TA BA)(ph:Int)(q:Rq)(wa:Option Addr)(wc:Nat)(sa:Option Addr)(sc:Nat)(h:ShAt SA TA BA f M X a g D w)(ht:X.wt<8900)(hX:XOk X)(hph:0<=ph)(hq:RqOk q)(hsk:q.sk.length<=16)(hsi:TAt w.heap.size (.slice sa q.sk.length sc) q.sk w)(hsn:0<q.sk.length->∀k,(Value.slice sa q.sk.length sc).ownBlock=some k->¬M k/\k<w.heap.size):
  cpr 63 #[pz f.sb,uw ph,.agg (rqC q.k q wa wc sa sc)] w λe w'=>∃sv,e=.returned (rpV (Ib ph q X a D).1 sv)/\PrO w.heap.size sv (Ib ph q X a D).1.prs w'/\ShTo SA TA BA f M w (Ib ph q X a D).2.1 a g (Ib ph q X a D).2.2 w':=by
 have HL0:Ib ph q X a D=match (Cm ph q q.key q.hi X a D).1 with
  |some r=>(r,(Cm ph q q.key q.hi X a D).2)
  |none=>({Rp.zero with k:=2,prs:=(Sto.Np q.key q.hi q.sp q.sl q.lim (Cm ph q q.key q.hi X a D).2.1.S)},(Cm ph q q.key q.hi X a D).2):=rfl
 have HP0:∀r,(Cm ph q q.key q.hi X a D).1=some r->r.prs=[]:=λr hr=>aqf hr;obtain⟨b1,Lo,hb1,hLo,H0,SP,HR,ON,NW,CR,CS⟩:=V7 E h q.k q wa wc sa sc;have SB:=setb H0 hLo;obtain⟨kr,kz,hkv,hkz,hkr⟩:=Nw (Cm ph q q.key q.hi X a D).1;have CK:Hid (∀W,Cx SA TA BA f M w X a g D Lo W->cpr 134 #[pz f.sb,uw ph,.agg (rqC q.k q wa wc sa sc),sd q.key,sd q.hi] W λe w'=>e=.returned (.tuple #[.agg (rpD kr none 0 0),.bool kz])/\Cx SA TA BA f M w (Cm ph q q.key q.hi X a D).2.1 a g (Cm ph q q.key q.hi X a D).2.2 Lo w'):=λW hW=>by
  obtain⟨M9,h9,h8,h7⟩:=hW.sh;have:=akb E ph q q.key q.hi wa wc sa sc h9 (by omega) hX hph hq hsk (SkIn.kept hsi (λh0 k hk=>(hsn h0 k hk).1) hW.kp) (λh0 k hk hm=>by
   rcases h8 k hm with e1|e1
   .exact(hsn h0 k hk).1 e1
   .have:=(hsn h0 k hk).2;omega)
  rw[hkv]at this;exact bc8
 have hwt:=acb ph q q.key q.hi X a D hq.s hX;obtain⟨sc9,hsc⟩:=xj (Sto.Np q.key q.hi q.sp q.sl q.lim (Cm ph q q.key q.hi X a D).2.1.S);have CG:Hid (∀W,Cx SA TA BA f M w (Cm ph q q.key q.hi X a D).2.1 a g (Cm ph q q.key q.hi X a D).2.2 Lo W->cpr 136 #[pz f.st,sd q.key,sd q.hi,.agg #[uw q.sp,ui q.sl],iw q.lim] W λe w'=>∃ao cap,e=.returned (.slice ao sc9.length cap)/\Cx SA TA BA f M w (Cm ph q q.key q.hi X a D).2.1 a g (Cm ph q q.key q.hi X a D).2.2 Lo w'/\PrO W.heap.size (.slice ao sc9.length cap) sc9 w'):=λW hW=>by obtain⟨M9,h9,-,-⟩:=hW.sh;have:=asy E q.key q.hi q.sp q.sl q.lim h9 (aep (by omega));rw[hsc]at this;refine this.mono ?_;rintro r w' ⟨v',rfl,ho,hb⟩;obtain⟨ao,cap,rfl,-⟩:=Bl ho;exact⟨ao,cap,rfl,hW.on E hb,ho⟩
 have SH:Hid (∀(X:Sd) (D:Drm.Dr) W,Cx SA TA BA f M w X a g D Lo W->ce W f.sb 2 (pz f.st)/\ce W w.heap.size 7 (sd q.key)/\ce W w.heap.size 8 (sd q.hi)/\ce W w.heap.size 3 (uw q.sp)/\ce W w.heap.size 4 (ui q.sl)/\ce W w.heap.size 9 (iw q.lim)):=λX D W hW=>by obtain⟨-,-,-,c3,c4,-,-,c7,c8,c9,-⟩:=SB.out _ _ _ hW;exact⟨hW.ptrs.2.2.1,c7,c8,c3,c4,c9⟩
 have SHS:Hid (∀(X:Sd) (D:Drm.Dr) W (v0 v1 v2 v3 v4 v5 v6 v7 v8 v9 v10 v11 v12 v13:Value),Cx SA TA BA f M w X a g D Lo W->(s14 W b1 v0 v1 v2 v3 v4 v5 v6 v7 v8 v9 v10 v11 v12 v13).cell? ⟨f.sb,2,none⟩=some (pz f.st)/\(s14 W b1 v0 v1 v2 v3 v4 v5 v6 v7 v8 v9 v10 v11 v12 v13).cell? ⟨w.heap.size,7,none⟩=some (sd q.key)/\(s14 W b1 v0 v1 v2 v3 v4 v5 v6 v7 v8 v9 v10 v11 v12 v13).cell? ⟨w.heap.size,8,none⟩=some (sd q.hi)/\(s14 W b1 v0 v1 v2 v3 v4 v5 v6 v7 v8 v9 v10 v11 v12 v13).cell? ⟨w.heap.size,3,none⟩=some (uw q.sp)/\(s14 W b1 v0 v1 v2 v3 v4 v5 v6 v7 v8 v9 v10 v11 v12 v13).cell? ⟨w.heap.size,4,none⟩=some (ui q.sl)/\(s14 W b1 v0 v1 v2 v3 v4 v5 v6 v7 v8 v9 v10 v11 v12 v13).cell? ⟨w.heap.size,9,none⟩=some (iw q.lim)):=λX D W v0 v1 v2 v3 v4 v5 v6 v7 v8 v9 v10 v11 v12 v13 hW=>by
  have hk:Kept (λk=>k=b1) W (s14 W b1 v0 v1 v2 v3 v4 v5 v6 v7 v8 v9 v10 v11 v12 v13):=Xf;obtain⟨a1,a2,a3,a4,a5,a6⟩:=SH.out _ _ _ hW;have n1:¬f.sb=b1:=by have:f.sb<w.heap.size:=ed _ _ h.cells.1;omega
  have n2:¬w.heap.size=b1:=by omega
  exact⟨hk.cell a1 n1,hk.cell a2 n2,hk.cell a3 n2,hk.cell a4 n2,hk.cell a5 n2,hk.cell a6 n2⟩
 have OS:Hid (∀(X:Sd) (D:Drm.Dr) W0 W v' (v0 v1 v2 v3 v4 v5 v6 v7 v8 v9 v10 v11 v12 v13:Value),Cx SA TA BA f M w X a g D Lo W0->Cx SA TA BA f M w X a g D Lo W->PrO W0.heap.size v' sc9 W->PrO w.heap.size v' sc9 (s14 W b1 v0 v1 v2 v3 v4 v5 v6 v7 v8 v9 v10 v11 v12 v13)):=λX D W0 W v' v0 v1 v2 v3 v4 v5 v6 v7 v8 v9 v10 v11 v12 v13 h0 hW ho=>by have hk:Kept (λk=>k=b1) W (s14 W b1 v0 v1 v2 v3 v4 v5 v6 v7 v8 v9 v10 v11 v12 v13):=Xf;have hlt:b1<W0.heap.size:=gp (SP.out _ _ _ h0);refine Gt (Lj ho (ak (by omega) (og hlt))) hk (λk hk' e=>?_);have:=(jm ho k hk').1;omega
 have DW:Hid (∀(X:Sd) (D:Drm.Dr) W,Cx SA TA BA f M w X a g D Lo W->Cx SA TA BA f M w X a g D Lo W.drew):=λX D W hW=>hW.drew E;have HKz:Hid (kz=(Cm ph q q.key q.hi X a D).1.isSome/\∀x,(Cm ph q q.key q.hi X a D).1=some x->kr=x):=⟨hkz,hkr⟩;have HP:Hid (∀r,(Cm ph q q.key q.hi X a D).1=some r->r.prs=[]):=HP0;rw[hsc]at HL0;have HL:Hid _:=HL0;generalize Ib ph q X a D=Y at*;generalize (Cm ph q q.key q.hi X a D)=H at*;obtain⟨ho,Xh,Dh⟩:=H;dsimp only at CK CG HL HKz HP;clear hLo h ht hX hph hq hsk hsi hsn E HL0 hkv hkz hkr hwt hsc HP0;obtain⟨W2,hW2⟩:=xj ((w.alloc (.cells (rqC q.k q wa wc sa sc) 42)).alloc (.cells (zC 0 0 0 0) 48));rw[hW2]at H0;obtain⟨c0,c1,c2,c3,c4,c5,c6,c7,c8,c9,c10,c11,c12⟩:=SB.out _ _ _ H0.out;go_enter Tryz.func63,Tryz.ntmps63;go_wp2_with fail;rw[<-hb1];clear hW2 hb1;refine(CK.out _ H0.out).mono ?_;rintro e w3 ⟨rfl,hq⟩;have H3:Hid _:=hq;clear hq CK c0 c1 c2 c3 c4 c5 c6 c7 c8 c9 c10 c11 c12 H0;have hob:(w3.alloc (.cells (rpD kr none 0 0) 48)).heap[w3.heap.size]?=some (.cells (rpD kr none 0 0) 48 (0,0)):=ae w3 _;have H4:Hid (Cx SA TA BA f M w Xh a g Dh Lo (w3.alloc (.cells (rpD kr none 0 0) 48))):=ON.out _ _ _ _ H3.out (al _);go_upto_region 2 with fail
 obtain⟨W4,hW4⟩:=xj (w3.alloc (.cells (rpD kr none 0 0) 48));rw[hW4]at hob H4|-;clear hW4 H3;cases kz
 case true=>
  have HE:Hid (Y=(kr,Xh,Dh)/\kr.prs=[]):=by
   cases ho with
   |none=>have:=HKz.out.1;cases this
   |some r=>
    have e:=HKz.out.2 r rfl;subst e;exact⟨HL.out,HP.out _ rfl⟩
  obtain⟨i0,i1,i2,i3,i4,i5,i6,i7,i8,i9,i10,i11,i12,i13,-⟩:=Ep hob;clear hob CG SH SHS OS DW HP;obtain⟨z0,z1,z2,z3,z4,z5,z6,z7,z8,z9,z10,z11,z12,z13,g0,g1,g2,g3,g4,g5,g6,g7,g8,g9,g10,g11,g12,g13⟩:=Ep (SP.out _ _ _ H4.out);go_wp2_with fail;refine az (Tt rfl rfl rfl (Jg (SP.out _ _ _ H4.out))) rfl ?_;rw[HE.out.1];refine⟨_,rfl,?_,HR.out _ _ _ _ _ _ _ _ _ _ _ _ _ _ _ _ _ H4.out⟩;show PrO _ _ kr.prs _;rw[HE.out.2];exact PrO.nil _ _
 case false=>
  have HE:Hid (Y=({Rp.zero with k:=2,prs:=sc9},Xh,Dh)):=by
   show _=_;rw[HL.out];cases ho with
   |none=>rfl
   |some r=>have:=HKz.out.1;cases this
  clear hob HKz HL HP;go_wp2_with fail;have HD4:Hid _:=DW.out _ _ _ H4.out;go_region_held3 (λW=>ce W f.sb 2 (pz f.st)/\ce W w.heap.size 7 (sd q.key)/\ce W w.heap.size 8 (sd q.hi)/\ce W w.heap.size 3 (uw q.sp)/\ce W w.heap.size 4 (ui q.sl)/\ce W w.heap.size 9 (iw q.lim)) (first|with_reducible exact SH.out _ _ _ H4.out|with_reducible exact SH.out _ _ _ HD4.out|with_reducible exact SH.out _ _ _ H5.out|with_reducible exact HZ5.out) (first
   |(go_at_call 136;refine(CG.out _ HD4.out).mono ?_;rintro e w5 ⟨ao,cap,rfl,hq,ho⟩;have H5:Hid _:=hq;have HO5:Hid _:=ho;clear hq ho;obtain⟨z0,z1,z2,z3,z4,z5,z6,z7,z8,z9,z10,z11,z12,z13,g0,g1,g2,g3,g4,g5,g6,g7,g8,g9,g10,g11,g12,g13⟩:=Ep (SP.out _ _ _ H5.out);obtain⟨z5,hz5⟩:∃z,(s14 w5 b1 (iw 2) (iw 0) (.bool false) su (.slice ao sc9.length cap) (ui 0) (ui 0) (uw 0) (ui 0) (uw 0) (ui 0) su (uw 0) (ui 0))=z:=⟨_,rfl⟩;have HZ5:Hid (ce z5 f.sb 2 (pz f.st)/\ce z5 w.heap.size 7 (sd q.key)/\ce z5 w.heap.size 8 (sd q.hi)/\ce z5 w.heap.size 3 (uw q.sp)/\ce z5 w.heap.size 4 (ui q.sl)/\ce z5 w.heap.size 9 (iw q.lim)):=by(rw[<-hz5];exact SHS.out _ _ _ _ _ _ _ _ _ _ _ _ _ _ _ _ _ H5.out)))
  rename_i hHeld;clear hHeld;clear CG SH;go_wp2_with fail;refine az (Tt rfl rfl rfl (by rw[<-hz5];exact Jg (SP.out _ _ _ H5.out))) rfl ?_;rw[HE.out,<-hz5];exact⟨_,rfl,OS.out _ _ _ _ _ _ _ _ _ _ _ _ _ _ _ _ _ _ _ HD4.out H5.out HO5.out,HR.out _ _ _ _ _ _ _ _ _ _ _ _ _ _ _ _ _ H5.out⟩
def ac8(E:Env SA TA BA):aa5 SA TA BA:=λph q wa wc sa sc h ht hX hph hq hsk hsi hsn=>(as7 E ph q wa wc sa sc h ht hX hph hq hsk hsi hsn).mono λr w' hh=>by obtain⟨sv,e,ho,hs⟩:=hh;obtain⟨ao,cap,e2,-⟩:=Bl ho;subst e2;exact⟨ao,_,cap,e,ho,hs⟩
def Vk(E:Env SA TA BA)(S:aa5 SA TA BA)(ph:Int)(q:Rq)(wa:Option Addr)(wc:Nat)(sa:Option Addr)(sc:Nat)(h:ShAt SA TA BA f M X a g D w)(ht:X.wt<8900)(hX:XOk X)(hph:0<=ph)(hph2:ph<=18446744073709551615)(hq:RqOk q)(hi:WsIn M w wa wc q.ws)(hsi:TAt w.heap.size (.slice sa q.sk.length sc) q.sk w)(hsn:0<q.sk.length->∀k,(Value.slice sa q.sk.length sc).ownBlock=some k->¬M k/\k<w.heap.size):
  cpr 10 #[pz f.sb,uw ph,.agg (rqC q.k q wa wc sa sc)] w λe w'=>∃ao n cap,e=.returned (rpV (Hf ph q X a D).1 (.slice ao n cap))/\PrO w.heap.size (.slice ao n cap) (Hf ph q X a D).1.prs w'/\ShTo SA TA BA f M w (Hf ph q X a D).2.1 a g (Hf ph q X a D).2.2 w':=by
 have HL0:Hf ph q X a D=({(ansF ph q X a D).1 with np:=(ansF ph q X a D).2.1.np,nl:=(ansF ph q X a D).2.1.nl},(ansF ph q X a D).2):=rfl;obtain⟨b1,Lo,hb1,hLo,H0,SP,HR,ON,NW,-⟩:=V7 E h q.k q wa wc sa sc;have SB:=setb H0 hLo;have CA:Hid (∀W,Cx SA TA BA f M w X a g D Lo W->cpr 27 #[pz f.sb,uw ph,.agg (rqC q.k q wa wc sa sc)] W λe w'=>∃ao n cap,e=.returned (rpV (ansF ph q X a D).1 (.slice ao n cap))/\Cx SA TA BA f M w (ansF ph q X a D).2.1 a g (ansF ph q X a D).2.2 Lo w'/\PrO W.heap.size (.slice ao n cap) (ansF ph q X a D).1.prs w'):=λW hW=>by obtain⟨M9,hM,h8,h7⟩:=hW.sh;refine(ans47 E S ph q wa wc sa sc hM ht hX hph hph2 hq (aim hi h8 hW.kp) (SkIn.kept hsi (λh0 k hk=>(hsn h0 k hk).1) hW.kp) (ac0 hsn h8 hW.kp.size)).mono ?_;rintro e w' ⟨ao,n,cap,rfl,ho,hs⟩;exact⟨ao,n,cap,rfl,hW.next h8 h7 hs,ho⟩
 have OS:Hid (∀(X:Sd) (D:Drm.Dr) W0 W v' L (v0 v1 v2 v3 v4 v5 v6 v7 v8 v9 v10 v11 v12 v13:Value),Cx SA TA BA f M w X a g D Lo W0->PrO W0.heap.size v' L W->PrO w.heap.size v' L (s14 W b1 v0 v1 v2 v3 v4 v5 v6 v7 v8 v9 v10 v11 v12 v13)):=λX D W0 W v' L v0 v1 v2 v3 v4 v5 v6 v7 v8 v9 v10 v11 v12 v13 h0 ho=>by have hk:Kept (λk=>k=b1) W (s14 W b1 v0 v1 v2 v3 v4 v5 v6 v7 v8 v9 v10 v11 v12 v13):=Xf;have hlt:b1<W0.heap.size:=gp (SP.out _ _ _ h0);refine Gt (Lj ho (by omega)) hk (λk hk' e=>?_);have:=(jm ho k hk').1;omega
 have SN:Hid (∀(X:Sd) (D:Drm.Dr) W,Cx SA TA BA f M w X a g D Lo W->ce W f.sb 7 (uw X.np)/\ce W f.sb 8 (ui X.nl)):=λX D W hW=>⟨hW.nums.2.2.1,hW.nums.2.2.2.1⟩;have HL:Hid _:=HL0;generalize Hf ph q X a D=Y at*;generalize (ansF ph q X a D)=H at*;obtain⟨hr9,Xh,Dh⟩:=H;dsimp only at CA HL;clear hLo h ht hX hph hph2 hq hi hsi hsn E S HL0;obtain⟨W2,hW2⟩:=xj ((w.alloc (.cells (rqC q.k q wa wc sa sc) 42)).alloc (.cells (zC 0 0 0 0) 48));rw[hW2]at H0;have zc0:=SB.out _ _ _ H0.out;go_enter Tryz.func10,Tryz.ntmps10;go_wp2_with fail;rw[<-hb1];clear hW2 hb1;refine(CA.out _ H0.out).mono ?_;rintro e w3 ⟨ao,n,cap,rfl,hq,ho⟩;have H3:Hid _:=hq;have HO3:Hid _:=ho;clear hq ho CA zc0;unfold rpV;have hob4:(w3.alloc (.cells (rpD hr9 ao n cap) 48)).heap[w3.heap.size]?=some (.cells (rpD hr9 ao n cap) 48 (0,0)):=ae w3 _;have B4:Hid (Bz w3 (w3.alloc (.cells (rpD hr9 ao n cap) 48))):=al _;go_upto_region 4 with fail
 obtain⟨W4,hW4⟩:=xj (w3.alloc (.cells (rpD hr9 ao n cap) 48));obtain⟨b7,hb7⟩:=xj w3.heap.size;have HB7:Hid (w3.heap.size<=b7):=by rw[hb7];exact ai _
 rw[hW4,hb7]at hob4;rw[hW4]at B4;rw[hW4,hb7];clear hW4 hb7;have H4:Hid _:=ON.out _ _ _ _ H3.out B4.out;obtain⟨n7,n8⟩:=SN.out _ _ _ H4.out;obtain⟨i0,i1,i2,i3,i4,i5,i6,i7,i8,i9,i10,i11,i12,i13,f0,f1,f2,f3,f4,f5,f6,f7,f8,f9,f10,f11,f12,f13⟩:=Ep hob4;have hob5:((W4.setCell ⟨b7,12,none⟩ (uw Xh.np)).setCell ⟨b7,13,none⟩ (ui Xh.nl)).heap[b7]?=some (.cells #[iw hr9.k,iw hr9.err,.bool hr9.found,sd hr9.val,.slice ao n cap,ui hr9.c,ui hr9.n,uw hr9.sp,ui hr9.sl,uw hr9.ap,ui hr9.al,sd hr9.prim,uw Xh.np,ui Xh.nl] 48 (0,0)):=Drm.Aq (Drm.Aq hob4);have B5:Hid (Bz w3 ((W4.setCell ⟨b7,12,none⟩ (uw Xh.np)).setCell ⟨b7,13,none⟩ (ui Xh.nl))):=Bz.st (Bz.st B4.out HB7.out _ _) HB7.out _ _;clear hob4;go_upto_region 5 with fail
 obtain⟨W5,hW5⟩:=xj ((W4.setCell ⟨b7,12,none⟩ (uw Xh.np)).setCell ⟨b7,13,none⟩ (ui Xh.nl));rw[hW5]at hob5 B5|-;clear hW5 i0 i1 i2 i3 i4 i5 i6 i7 i8 i9 i10 i11 i12 i13 f0 f1 f2 f3 f4 f5 f6 f7 f8 f9 f10 f11 f12 f13 n7 n8;have H5:Hid _:=ON.out _ _ _ _ H3.out B5.out;have HO5:Hid (PrO W2.heap.size (.slice ao n cap) hr9.prs W5):=Jy HO3.out B5.out;obtain⟨i0,i1,i2,i3,i4,i5,i6,i7,i8,i9,i10,i11,i12,i13,-⟩:=Ep hob5;clear hob5 H4;have zz0:=Ep (SP.out _ _ _ H5.out);go_wp2_with fail;refine az (Tt rfl rfl rfl (Jg (SP.out _ _ _ H5.out))) rfl ?_;rw[HL.out];exact⟨_,_,_,rfl,OS.out _ _ _ _ _ _ _ _ _ _ _ _ _ _ _ _ _ _ _ _ H0.out HO5.out,HR.out _ _ _ _ _ _ _ _ _ _ _ _ _ _ _ _ _ H5.out⟩
def qA:Rq:=⟨3,1,0,5,0,0,0,[97],[],0,0,[⟨[97],[118],false⟩],[]⟩
def qB:Rq:=⟨4,1,0,0,0,5,1,[],[],0,1,[],[]⟩
def qC:Rq:=⟨1,0,0,5,1,0,0,[97],[],0,0,[],[]⟩
def XA:Sd:=⟨[],[([97],⟨1,0,5,0,5,1,[97],[118],false⟩)],[],0,0,5,1,69,4095⟩
def XB:Sd:=⟨[([97],[⟨5,1,1,0,[118],false⟩])],[],[⟨1,0,5,0,5,1,1,false⟩],0,0,5,1,69,4095⟩
def rA:Rp:=⟨4,0,false,[],[],0,0,0,0,5,1,[],5,1⟩
def rB:Rp:=⟨5,0,false,[],[],0,0,0,0,5,1,[],5,1⟩
def rC:Rp:=⟨1,0,true,[118],[],0,0,0,0,0,0,[],5,1⟩
def DO:Drm.Dr:=(Lgs.layF (Drm.Dr.new 10000) 0 1 []).2
def DA:Drm.Dr:=(Hf 5 qA Sd.new 0 DO).2.2
def DB:Drm.Dr:=(Hf 5 qB XA 0 DA).2.2
def rA_is:(Hf 5 qA Sd.new 0 DO).1=rA:=by kernel_rfl
def XA_is:(Hf 5 qA Sd.new 0 DO).2.1=XA:=by kernel_rfl
def rB_is:(Hf 5 qB XA 0 DA).1=rB:=by kernel_rfl
def XB_is:(Hf 5 qB XA 0 DA).2.1=XB:=by kernel_rfl
def rC_is:(Hf 5 qC XB 0 DB).1=rC:=by kernel_rfl
def ap2{D:Drm.Dr}(h:D.Ok)(a:Int)(g:Nat)(R:List Bi):(Lgs.layF D a g R).2.Ok:=by
 unfold Lgs.layF;split
 .exact h.lay a
 .exact Lgs.Yp (h.lay a) _ _
def DO_ok:DO.Ok:=ap2 (Drm.Dr.Ok.new 10000 (by decide) (by decide)) _ _ _
def Cx.grow(E:Env SA TA BA)(h:Cx SA TA BA f M w X a g D Lo W)(hb:Bw W W'){b:Nat}(hlt:W.heap.size<=b){cs:Array Value}{ty:TypeId}(ho:W'.heap[b]?=some (.cells cs ty (0,0)))(ht:ty≠5):Cx SA TA BA f M w X a g D ((b,.cells cs ty (0,0))::Lo) W':=by
 obtain⟨⟨M',h1,h2,h3⟩,h4,h5⟩:=h;have hl:∀k,M' k->k<W.heap.size:=λk hk=>h1.lt E hk;obtain⟨M1,M2,M3,hc,rfl⟩:=h1;refine⟨⟨_,⟨M1,M2,M3,hc.on E hb,rfl⟩,λi hi=>?_,λp hp hi=>?_⟩,h4.trans (Kept.of_below (F:=λ_=>False) hb) (λ_ e=>e.elim),λp hp=>?_⟩
 .exact az2
 .rcases au.1 hp with rfl|hp
  .dsimp only at hi;rcases hi with e|e|e|e|e|e|⟨-,cs',fz,e⟩
   .have:=hl _ (.inl e);omega
   .have:=hl _ (.inr (.inl e));omega
   .have:=hl _ (.inr (.inr (.inl e)));omega
   .have:=hl _ (.inr (.inr (.inr (.inl e))));omega
   .have:=hl _ (.inr (.inr (.inr (.inr (.inl e)))));omega
   .have:=hl _ (.inr (.inr (.inr (.inr (.inr (.inl e))))));omega
   .rw[ho]at e;exact bcc
  .exact az3
 .rcases au.1 hp with rfl|hp
  .exact ho
  .exact(h5.on hb) p hp
def E5{p l:Int}(h0:0<=p)(h1:p<100)(h2:0<=l)(h3:l<5000):Ts p l:=⟨⟨h0,by omega⟩,h2,by omega⟩
def ayd:XOk Sd.new:=⟨E5 (by decide) (by decide) (by decide) (by decide),E5 (by decide) (by decide) (by decide) (by decide),E5 (by decide) (by decide) (by decide) (by decide),λ_ h=>by simp[Eh,Sd.new]at h,λ_ h=>by simp[Sd.new]at h,λ_ h=>by simp[Sd.new]at h⟩
def ok_A:XOk XA:=⟨E5 (by decide) (by decide) (by decide) (by decide),E5 (by decide) (by decide) (by decide) (by decide),E5 (by decide) (by decide) (by decide) (by decide),λx h=>by
  simp[Eh,XA]at h;subst h;exact⟨⟨by decide,by decide⟩,⟨by decide,by decide⟩⟩,λx h=>by
  simp[XA]at h;subst h;exact⟨E5 (by decide) (by decide) (by decide) (by decide),E5 (by decide) (by decide) (by decide) (by decide)⟩,λ_ h=>by simp[XA]at h⟩
def ok_B:XOk XB:=⟨E5 (by decide) (by decide) (by decide) (by decide),E5 (by decide) (by decide) (by decide) (by decide),E5 (by decide) (by decide) (by decide) (by decide),λ_ h=>by simp[Eh,XB]at h,λ_ h=>by simp[XB]at h,λv h=>by simp[XB]at h;subst h;exact⟨⟨by decide,by decide⟩,⟨by decide,by decide⟩,⟨by decide,by decide⟩,⟨by decide,by decide⟩,⟨by decide,by decide⟩,⟨by decide,by decide⟩,⟨by decide,by decide⟩⟩⟩
def ok_q(q:Rq)(hc:Ver.R32 q.c/\Ver.R32 q.n)(hs:Ts q.sp q.sl)(ha:Ts q.ap q.al)(hp:Ver.R8 q.pt):RqOk q:=⟨hc,hs,ha,hp⟩
def third(w:World)(A B C:Obj):(((w.alloc A).alloc B).alloc C).heap[w.heap.size+1]?=some B/\(((w.alloc A).alloc B).alloc C).heap[w.heap.size+1+1]?=some C/\Bw w (((w.alloc A).alloc B).alloc C):=by
 refine⟨?_,?_,(((aj _ _).alloc (ai _) A).alloc (by simp) B).alloc (by simp;omega) C⟩
 .rw[(al (W:=(w.alloc A).alloc B) C).block _ (by simp)];have:=ae (w.alloc A) B;simpa using this
 .have:=ae ((w.alloc A).alloc B) C;simpa using this
def ap3(w:World):cpr 18 #[.agg #[ui 1,ui 0],uw 5,.string ⟨#[97]⟩] w λe w'=>∃b,e=.returned (.agg #[iw 3,ui 1,ui 0,uw 5,ui 0,uw 0,ui 0,.string ⟨#[97]⟩,su,iw 0,ub 0,.slice (some ⟨b,0,none⟩) 1 1,sy])/\w.heap.size<=b/\w'.heap[b]?=some (.cells #[.string ⟨#[97]⟩,.string ⟨#[118]⟩,.bool false] 106 (0,0))/\Bw w w':=by go_enter Tryz.func18,Tryz.ntmps18;go_wp2_with fail;obtain⟨h1,h2,h3⟩:=third w (.cells #[ui 1,ui 0] 36) (.cells #[iw 3,ui 1,ui 0,uw 5,ui 0,uw 0,ui 0,.string ⟨#[97]⟩,su,iw 0,ub 0,.slice (some ⟨w.heap.size+1+1,0,none⟩) 1 1,sy] 42) (.cells #[.string ⟨#[97]⟩,.string ⟨#[118]⟩,.bool false] 106);refine az (results_cell_row rfl _ _ (w.heap.size+1) 42 _ (0,0) _ rfl h1 Tryz.underlying42 rfl (by kernel_rfl)) rfl ?_;exact⟨_,rfl,by omega,h2,h3⟩
