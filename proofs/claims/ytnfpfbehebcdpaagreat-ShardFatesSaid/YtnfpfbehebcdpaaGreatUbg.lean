import Derived.Test.YtnfpfbehebcdpaaGreatUaz
import Derived.Test.YtnfpfbehebcdpaaGreatUba
set_option maxHeartbeats 0
set_option maxRecDepth 99999
set_option linter.all false
namespace Go.Proofs.YtnfpfbehebcdpaaGreat
open Go.RowKit
variable {SA:TyS}{TA:TyT}{BA:TyB}
variable {f:Fp}{M:Nat->Prop}{X:Sd}{a:Int}{g:Nat}{D:Drm.Dr}{w W W':World}{Lo:List (Nat×Obj)}
def au7{α β:Type}{L:List α}{d:α}{m:Nat}(P:α->Option β)(h:m<L.length)(h1:(L.take m).findSome? P=none)(h2:P (L.getD m d)=none):(L.take (m+1)).findSome? P=none:=by rw[jk h,List.findSome?_append,h1];rw[List.getD,bf h]at h2;simpa using h2
def fs_at{α β:Type}{L:List α}{d:α}{m:Nat}{r:β}(P:α->Option β)(h:m<L.length)(h1:(L.take m).findSome? P=none)(h2:P (L.getD m d)=some r):L.findSome? P=some r:=by
 have e2:L.findSome? P=(L.take m++L.drop m).findSome? P:=by rw[jg]
 rw[List.getD,bf h]at h2;rw[e2,List.findSome?_append,h1,ng h,List.findSome?_cons,show P L[m]=some r from h2];rfl
def ab4(ph:Int)(q:Rq)(X:Sd)(a:Int)(D:Drm.Dr):Oa ph q X a D=if Clk.Ar q.sp q.sl X.sp X.sl then(Cb 30,X,D)else
  match Cj q.c q.n X with
  |some r=>(r,X,D)
  |none=>match ownF q.c q.n X with
   |some x=>(Fv 4 x.2.mp x.2.ml,X,D)
   |none=>match q.ws.findSome? (λw=>Ij w.key q.sp q.sl X)with
    |some r=>(r,X,D)
    |none=>if(Ah ph q.sp q.sl X a D).1≠0 then(Cb (Ah ph q.sp q.sl X a D).1,(Ah ph q.sp q.sl X a D).2)else
     if(Clk.Ir (Ah ph q.sp q.sl X a D).2.1.np (Ah ph q.sp q.sl X a D).2.1.nl ph).2.2≠0 then(Cb (Clk.Ir (Ah ph q.sp q.sl X a D).2.1.np (Ah ph q.sp q.sl X a D).2.1.nl ph).2.2,(Ah ph q.sp q.sl X a D).2)else
     let t:=Clk.Ir (Ah ph q.sp q.sl X a D).2.1.np (Ah ph q.sp q.sl X a D).2.1.nl ph
     let v:=advF t.1 t.2.1 (Ah ph q.sp q.sl X a D).2.1 a (Ah ph q.sp q.sl X a D).2.2
     if v.1≠0 then(Cb v.1,v.2)else
     let o:=Az (eLay q.c q.n q.sp q.sl t.1 t.2.1 q.key q.ws) v.2.1 a v.2.2
     if o.1≠0 then(Cb o.1,o.2)else(Fv 4 t.1 t.2.1,o.2):=rfl
def lay94(E:Env SA TA BA)(ph:Int)(q:Rq)(wa:Option Addr)(wc:Nat)(sa:Option Addr)(sc:Nat)(h:ShAt SA TA BA f M X a g D w)(ht:X.wt<8900)(hX:XOk X)(hph:0<=ph)(hq:RqOk q)(hk:kOk q.key=true)(hw:Bf q.ws=true)(hi:WsIn M w wa wc q.ws):
  cpr 64 #[pz f.sb,uw ph,.agg (rqC q.k q wa wc sa sc)] w λe w'=>e=.returned (rpV (Oa ph q X a D).1 sy)/\ShTo SA TA BA f M w (Oa ph q X a D).2.1 a g (Oa ph q X a D).2.2 w':=by
 have HL0:=ab4 ph q X a D;obtain⟨b1,Lo,hb1,hLo,H0,SP,HR,ON,NW,CR,CS⟩:=V7 E h q.k q wa wc sa sc;have SB:Hid (∀(X:Sd) (D:Drm.Dr) W,Cx SA TA BA f M w X a g D Lo W->ce W w.heap.size 1 (ui q.c)/\ce W w.heap.size 2 (ui q.n)/\ce W w.heap.size 3 (uw q.sp)/\ce W w.heap.size 4 (ui q.sl)/\ce W w.heap.size 7 (sd q.key)/\ce W w.heap.size 11 (.slice wa q.ws.length wc)):=λX D W hW=>by subst hLo;exact⟨hW.has.cell tq1 rfl,hW.has.cell tq1 rfl,hW.has.cell tq1 rfl,hW.has.cell tq1 rfl,hW.has.cell tq1 rfl,hW.has.cell tq1 rfl⟩
 obtain⟨kr,kz,hkv,hkz,hkr⟩:=Nw (Cj q.c q.n X);have CK:Hid (∀W,Cx SA TA BA f M w X a g D Lo W->cpr 137 #[pz f.sb,.agg #[ui q.c,ui q.n]] W λe w'=>e=.returned (.tuple #[.agg (rpD kr none 0 0),.bool kz])/\Cx SA TA BA f M w X a g D Lo w'):=λW hW=>by obtain⟨M9,h9,-,-⟩:=hW.sh;have:=Vb E q.c q.n h9 (by omega) hq.c;rw[hkv]at this;exact this.mono λe w' h=>⟨h.1,hW.on E h.2⟩
 obtain⟨⟨ok,ox⟩,oz,hov,hoz,hox⟩:=Oz (ownF q.c q.n X);have CW:Hid (∀W,Cx SA TA BA f M w X a g D Lo W->cpr 138 #[pz f.sb,.agg #[ui q.c,ui q.n]] W λe w'=>e=.returned (.tuple #[.agg (inC ok ox),.bool oz])/\Cx SA TA BA f M w X a g D Lo w'):=λW hW=>by obtain⟨M9,h9,-,-⟩:=hW.sh;have:=Z8 E q.c q.n h9 (by omega);rw[hov]at this;exact this.mono λe w' h=>⟨h.1,hW.on E h.2⟩
 have SN:Hid (∀W,Cx SA TA BA f M w X a g D Lo W->ce W w.heap.size 3 (uw q.sp)/\ce W w.heap.size 4 (ui q.sl)/\ce W f.sb 5 (uw X.sp)/\ce W f.sb 6 (ui X.sl)):=λW hW=>⟨(SB.out _ _ _ hW).2.2.1,(SB.out _ _ _ hW).2.2.2.1,hW.nums.1,hW.nums.2.1⟩;have CL:Hid (∀W,Cx SA TA BA f M w X a g D Lo W->cpr 84 #[.agg #[uw q.sp,ui q.sl],.agg #[uw X.sp,ui X.sl]] W λr w'=>r=.returned (.bool (Clk.Ar q.sp q.sl X.sp X.sl))/\Cx SA TA BA f M w X a g D Lo w'):=λW hW=>(Clk.Oi q.sp q.sl X.sp X.sl W).mono λr w' h=>⟨h.1,hW.on E h.2⟩;have DW:Hid (∀W,Cx SA TA BA f M w X a g D Lo W->Cx SA TA BA f M w X a g D Lo W.drew):=λW hW=>hW.drew E;have CC:Hid (∀(k:Bi) W,Cx SA TA BA f M w X a g D Lo W->cpr 140 #[pz f.sb,sd k,.agg #[uw q.sp,ui q.sl]] W λe w'=>∃cr cz,e=.returned (.tuple #[.agg (rpD cr none 0 0),.bool cz])/\Cx SA TA BA f M w X a g D Lo w'/\Hid (cz=(Ij k q.sp q.sl X).isSome/\∀x,Ij k q.sp q.sl X=some x->cr=x)):=λk W hW=>by obtain⟨M9,h9,-,-⟩:=hW.sh;obtain⟨cr,cz,hcv,hcz,hcr⟩:=Nw (Ij k q.sp q.sl X);have:=aic E k q.sp q.sl h9 (by omega);rw[hcv]at this;exact this.mono λe w' h=>⟨cr,cz,h.1,hW.on E h.2,hcz,hcr⟩
 have RW:Hid (∀(m:Nat) W,m<q.ws.length->Cx SA TA BA f M w X a g D Lo W->∃b off,wa=some ⟨b,off,none⟩/\ce W b (off+m*3) (.string (bs (q.ws.getD m ⟨[],[],false⟩).key))/\ce W b (off+m*3+1) (.string (bs (q.ws.getD m ⟨[],[],false⟩).val))/\ce W b (off+m*3+2) (.bool (q.ws.getD m ⟨[],[],false⟩).dead)):=λm W hm hW=>by obtain⟨b,off,e,hc⟩:=O6 (vc:=Lat.wrc) (sz:=3) (λ_=>rfl) ⟨[],[],false⟩ (by omega) rfl (hi.kept hW.kp) hm;exact⟨b,off,e,hc 0 _ (by omega) rfl,hc 1 _ (by omega) rfl,hc 2 _ (by omega) rfl⟩
 have hhe:=L8 (f:=ph) (a:=a) (D:=D) hq.s hX;have CH:Hid (∀W,Cx SA TA BA f M w X a g D Lo W->cpr 141 #[pz f.sb,uw ph,.agg #[uw q.sp,ui q.sl]] W λr w'=>r=.returned (iw (Ah ph q.sp q.sl X a D).1)/\Cx SA TA BA f M w (Ah ph q.sp q.sl X a D).2.1 a g (Ah ph q.sp q.sl X a D).2.2 Lo w'):=λW hW=>hW.calls λM' hM=>Vj E ph q.sp q.sl hM (by omega) hX hph hq.s;obtain⟨t1,t2,t3,hti⟩:∃t1 t2 t3,Clk.Ir (Ah ph q.sp q.sl X a D).2.1.np (Ah ph q.sp q.sl X a D).2.1.nl ph=(t1,t2,t3):=⟨_,_,_,rfl⟩;have htt:=acx (f:=ph) hhe.2.n hph;rw[hti]at HL0 htt;dsimp only at HL0 htt;have CT:Hid (∀W,cpr 142 #[.agg #[uw (Ah ph q.sp q.sl X a D).2.1.np,ui (Ah ph q.sp q.sl X a D).2.1.nl],uw ph] W λe w'=>e=.returned (.tuple #[.agg #[uw t1,ui t2],iw t3])/\Bw W w'):=λW=>by have:=Clk.tick9 (Ah ph q.sp q.sl X a D).2.1.np (Ah ph q.sp q.sl X a D).2.1.nl ph W hhe.2.n.1.1 hhe.2.n.2.1 hph;rw[hti]at this;exact this
 have hav:=aih (a:=a) (D:=(Ah ph q.sp q.sl X a D).2.2) htt hhe.2;have CV:Hid (∀W Lo,Cx SA TA BA f M w (Ah ph q.sp q.sl X a D).2.1 a g (Ah ph q.sp q.sl X a D).2.2 Lo W->cpr 143 #[pz f.sb,.agg #[uw t1,ui t2]] W λr w'=>r=.returned (iw (advF t1 t2 (Ah ph q.sp q.sl X a D).2.1 a (Ah ph q.sp q.sl X a D).2.2).1)/\Cx SA TA BA f M w (advF t1 t2 (Ah ph q.sp q.sl X a D).2.1 a (Ah ph q.sp q.sl X a D).2.2).2.1 a g (advF t1 t2 (Ah ph q.sp q.sl X a D).2.1 a (Ah ph q.sp q.sl X a D).2.2).2.2 Lo w'):=λW Lo hW=>hW.calls λM' hM=>aa3 E t1 t2 hM (by rw[hhe.1.wt];omega) hhe.2.t htt;have CN:Hid (∀W Lo,Cx SA TA BA f M w (advF t1 t2 (Ah ph q.sp q.sl X a D).2.1 a (Ah ph q.sp q.sl X a D).2.2).2.1 a g (advF t1 t2 (Ah ph q.sp q.sl X a D).2.1 a (Ah ph q.sp q.sl X a D).2.2).2.2 Lo W->cpr 144 #[pz f.sb,.agg #[iw 2,ui q.c,ui q.n,uw q.sp,ui q.sl,uw 0,ui 0,uw t1,ui t2,sd q.key,ub 0,.bool false,.slice wa q.ws.length wc]] W λr w'=>r=.returned (iw (Az (eLay q.c q.n q.sp q.sl t1 t2 q.key q.ws) (advF t1 t2 (Ah ph q.sp q.sl X a D).2.1 a (Ah ph q.sp q.sl X a D).2.2).2.1 a (advF t1 t2 (Ah ph q.sp q.sl X a D).2.1 a (Ah ph q.sp q.sl X a D).2.2).2.2).1)/\Cx SA TA BA f M w (Az (eLay q.c q.n q.sp q.sl t1 t2 q.key q.ws) (advF t1 t2 (Ah ph q.sp q.sl X a D).2.1 a (Ah ph q.sp q.sl X a D).2.2).2.1 a (advF t1 t2 (Ah ph q.sp q.sl X a D).2.1 a (Ah ph q.sp q.sl X a D).2.2).2.2).2.1 a g (Az (eLay q.c q.n q.sp q.sl t1 t2 q.key q.ws) (advF t1 t2 (Ah ph q.sp q.sl X a D).2.1 a (Ah ph q.sp q.sl X a D).2.2).2.1 a (advF t1 t2 (Ah ph q.sp q.sl X a D).2.1 a (Ah ph q.sp q.sl X a D).2.2).2.2).2.2 Lo w'):=λW Lo hW=>by
  obtain⟨M9,h9,h8,h7⟩:=hW.sh;have:=Pq E (eLay q.c q.n q.sp q.sl t1 t2 q.key q.ws) wa wc h9 (by rw[hav.1.wt,hhe.1.wt];omega) hav.2.t (ahh hq.c hq.s htt hk hw) (by have:=(Lat.Jc hw).2.2.2;show q.ws.length<=100;omega) ⟨hi.kept hW.kp,λh1 k hk hm=>by
   rcases h8 k hm with e1|e1
   .exact hi.not h1 k hk e1
   .have:=hi.lt h1 hk;omega⟩
  rw[ave hq.c hq.s htt]at this;exact bc8
 have LS:Hid (∀(X:Sd) (D:Drm.Dr) W p,Cx SA TA BA f M w X a g D (p::Lo) W->Cx SA TA BA f M w X a g D Lo W):=λX D W p hW=>hW.less (λx hx=>.tail _ hx);have ONL:Hid (∀(X:Sd) (D:Drm.Dr) W W' Lo,Cx SA TA BA f M w X a g D Lo W->Bz W W'->Cx SA TA BA f M w X a g D Lo W'):=λX D W W' Lo hW hb=>hW.on E hb;have SQ:Hid (∀(X:Sd) (D:Drm.Dr) W bl,Cx SA TA BA f M w X a g D ((bl,.cells #[uw t1,ui t2] 38 (0,0))::Lo) W->ce W bl 0 (uw t1)/\ce W bl 1 (ui t2)):=λX D W bl hW=>⟨hW.has.cell tq0 rfl,hW.has.cell tq0 rfl⟩;have SH:Hid (∀(X:Sd) (D:Drm.Dr) W,Cx SA TA BA f M w X a g D Lo W->ce W f.sb 7 (uw X.np)/\ce W f.sb 8 (ui X.nl)):=λX D W hW=>⟨hW.nums.2.2.1,hW.nums.2.2.2.1⟩;have HWl:Hid (q.ws.length<=16):=(Lat.Jc hw).2.2.2;have hw9:q.ws.length<9223372036854775808:=by have:=HWl.out;omega
 have HL:Hid _:=HL0;generalize Oa ph q X a D=Y at*;generalize Az (eLay q.c q.n q.sp q.sl t1 t2 q.key q.ws) (advF t1 t2 (Ah ph q.sp q.sl X a D).2.1 a (Ah ph q.sp q.sl X a D).2.2).2.1 a (advF t1 t2 (Ah ph q.sp q.sl X a D).2.1 a (Ah ph q.sp q.sl X a D).2.2).2.2=N at*;generalize advF t1 t2 (Ah ph q.sp q.sl X a D).2.1 a (Ah ph q.sp q.sl X a D).2.2=V at*;generalize Ah ph q.sp q.sl X a D=H at*;obtain⟨n0,Xn,Dn⟩:=N;obtain⟨v0,Xv,Dv⟩:=V;obtain⟨h0,Xh,Dh⟩:=H;dsimp only at CH CT CV CN HL;have HKz:Hid (kz=(Cj q.c q.n X).isSome/\∀x,Cj q.c q.n X=some x->kr=x):=⟨hkz,hkr⟩;have HOz:Hid (oz=(ownF q.c q.n X).isSome/\∀x,ownF q.c q.n X=some x->(ok,ox)=x):=⟨hoz,hox⟩;clear hLo h ht hX hph hq hk hw hi E HL0 hhe htt hti hav hkv hkz hkr hov hoz hox;generalize hlb:Clk.Ar q.sp q.sl X.sp X.sl=lb at*;clear hlb;obtain⟨W2,hW2⟩:=xj ((w.alloc (.cells (rqC q.k q wa wc sa sc) 42)).alloc (.cells (zC 0 0 0 0) 48));rw[hW2]at H0;go_enter Tryz.func64,Tryz.ntmps64;go_wp2_with fail;rw[<-hb1];clear hW2 hb1;go_region_held3 (λW=>ce W w.heap.size 3 (uw q.sp)/\ce W w.heap.size 4 (ui q.sl)/\ce W f.sb 5 (uw X.sp)/\ce W f.sb 6 (ui X.sl)) (first|exact SN.out _ H0.out|exact SN.out _ (DW.out _ H0.out)|exact SN.out _ H2.out) (first
  |(go_at_call 84;refine(CL.out _ (DW.out _ H0.out)).mono ?_;rintro e w2 ⟨rfl,hq⟩;have H2:Hid _:=hq;clear hq))
 rename_i hHeld;clear hHeld CL DW SN H0;cases lb
 case true=>
  have HE:Hid (Y=(Cb 30,X,D)):=HL.out;go_wp2_with fail;refine(CR.out _ _).mono ?_;rintro e w3 ⟨rfl,hb⟩;have H3:Hid _:=ON.out _ _ _ _ H2.out hb;clear hb;have K:=H3;exact re5
 case false=>
  obtain⟨c1,c2,-,-,-,-⟩:=SB.out _ _ _ H2.out;go_wp2_with fail;refine(CK.out _ H2.out).mono ?_;rintro e w3 ⟨rfl,hq⟩;have H3:Hid _:=hq;clear hq CK c1 c2 H2;have hob:(w3.alloc (.cells (rpD kr none 0 0) 48)).heap[w3.heap.size]?=some (.cells (rpD kr none 0 0) 48 (0,0)):=ae w3 _;have H4:Hid (Cx SA TA BA f M w X a g D Lo (w3.alloc (.cells (rpD kr none 0 0) 48))):=ON.out _ _ _ _ H3.out (al _);obtain⟨W4,hW4⟩:=xj (w3.alloc (.cells (rpD kr none 0 0) 48));rw[hW4]at hob H4;cases kz
  case true=>
   have HE:Hid (Y=(kr,X,D)):=by
    show _=_;rw[HL.out];cases hkn:Cj q.c q.n X with
    |none=>have:=HKz.out.1;rw[hkn]at this;cases this
    |some r=>rw[HKz.out.2 r hkn];rfl
   obtain⟨i0,i1,i2,i3,i4,i5,i6,i7,i8,i9,i10,i11,i12,i13,-⟩:=Ep hob;clear hob CW CC CH CT CV CN RW;have K:=H4;exact re5
  case false=>
   have hkn:Cj q.c q.n X=none:=by
    exact ba4
   rw[hkn]at HL;clear hob HKz hkn;obtain⟨c1,c2,-,-,-,-⟩:=SB.out _ _ _ H4.out;go_wp2_with fail;refine(CW.out _ H4.out).mono ?_;rintro e w5 ⟨rfl,hq⟩;have H5:Hid _:=hq;clear hq CW c1 c2 H4 hW4 H3;have hob:(w5.alloc (.cells (inC ok ox) 155)).heap[w5.heap.size]?=some (.cells (inC ok ox) 155 (0,0)):=ae w5 _;have H6:Hid (Cx SA TA BA f M w X a g D Lo (w5.alloc (.cells (inC ok ox) 155))):=ON.out _ _ _ _ H5.out (al _);obtain⟨W6,hW6⟩:=xj (w5.alloc (.cells (inC ok ox) 155));rw[hW6]at hob H6;cases oz
   case true=>
    have HE:Hid (Y=(Fv 4 ox.mp ox.ml,X,D)):=by
     show _=_;rw[HL.out];cases hkn:ownF q.c q.n X with
     |none=>have:=HOz.out.1;rw[hkn]at this;cases this
     |some r=>rw[<-HOz.out.2 r hkn];rfl
    have i4:=Drm.Ae (k:=4) (u:=uw ox.mp) hob rfl;have i5:=Drm.Ae (k:=5) (u:=ui ox.ml) hob rfl;clear hob CC CH CT CV CN RW;go_wp2_with fail;refine(CS.out _ _ _ _).mono ?_;rintro e w7 ⟨rfl,hb⟩;have H7:Hid _:=ON.out _ _ _ _ H6.out hb;clear hb i4 i5;have K:=H7;exact re5
   case false=>
    have hkn:ownF q.c q.n X=none:=by
     exact azq
    rw[hkn]at HL;clear hob HOz hkn;obtain⟨-,-,-,-,-,c11⟩:=SB.out _ _ _ H6.out;go_wp2_with fail;clear hW6;go_loopw [52] (λi wr=>∃m:Nat,m<=q.ws.length/\i=iw m/\(q.ws.take m).findSome? (λw=>Ij w.key q.sp q.sl X)=none/\Cx SA TA BA f M w X a g D Lo wr) (λi _=>q.ws.length-(intOf i).toNat)
    case atStart=>exact⟨0,eu _,rfl,rfl,H6.out⟩
    case round=>
     obtain⟨m,hm,rfl,hno,hcx⟩:=hrel;have HC:Hid _:=hcx;have HNo:Hid _:=hno;clear hcx hno c11 H6 H5;by_cases hml:m<q.ws.length
     .obtain⟨b,off,rfl,e0,e1,e2⟩:=RW.out m wr hml HC.out;have hml':(m:Int)<q.ws.length:=by omega
      have HA:Hid (∀r,Ij (q.ws.getD m ⟨[],[],false⟩).key q.sp q.sl X=some r->q.ws.findSome? (λw=>Ij w.key q.sp q.sl X)=some r):=λr hr=>fs_at _ hml HNo.out hr;have HT:Hid (Ij (q.ws.getD m ⟨[],[],false⟩).key q.sp q.sl X=none->(q.ws.take (m+1)).findSome? (λw=>Ij w.key q.sp q.sl X)=none):=λhr=>au7 (d:=⟨[],[],false⟩) _ hml HNo.out hr;have HQ:Hid (m+1<=q.ws.length):=hml;generalize q.ws.getD m ⟨[],[],false⟩=x at*;have hob:(wr.alloc (.cells #[sd x.key,sd x.val,.bool x.dead] 106)).heap[wr.heap.size]?=some (.cells #[sd x.key,sd x.val,.bool x.dead] 106 (0,0)):=ae wr _;have H7:Hid (Cx SA TA BA f M w X a g D Lo (wr.alloc (.cells #[sd x.key,sd x.val,.bool x.dead] 106))):=ON.out _ _ _ _ HC.out (al _);obtain⟨W7,hW7⟩:=xj (wr.alloc (.cells #[sd x.key,sd x.val,.bool x.dead] 106));rw[hW7]at hob H7;have i0:=Drm.Ae (k:=0) (u:=sd x.key) hob rfl;obtain⟨-,-,c3,c4,-,-⟩:=SB.out _ _ _ H7.out;clear hob;go_wp2_with fail;refine(CC.out x.key _ H7.out).mono ?_;rintro e w8 ⟨cr,cz,rfl,hq,hp⟩;have H8:Hid _:=hq;have HP8:Hid _:=hp.out;clear hq hp i0 c3 c4 e0 e1 e2 hW7 H7;have hob:(w8.alloc (.cells (rpD cr none 0 0) 48)).heap[w8.heap.size]?=some (.cells (rpD cr none 0 0) 48 (0,0)):=ae w8 _;have H9:Hid (Cx SA TA BA f M w X a g D Lo (w8.alloc (.cells (rpD cr none 0 0) 48))):=ON.out _ _ _ _ H8.out (al _);obtain⟨W9,hW9⟩:=xj (w8.alloc (.cells (rpD cr none 0 0) 48));rw[hW9]at hob H9;cases cz
      case true=>
       have HE:Hid (Y=(cr,X,D)):=by
        show _=_;rw[HL.out];cases hkn:Ij x.key q.sp q.sl X with
        |none=>have:=HP8.out.1;rw[hkn]at this;cases this
        |some r=>rw[HA.out r hkn,HP8.out.2 r hkn];rfl
       obtain⟨i0,i1,i2,i3,i4,i5,i6,i7,i8,i9,i10,i11,i12,i13,-⟩:=Ep hob;clear hob CC CH CT CV CN RW;have K:=H9;exact re5
      case false=>
       have HT9:Hid _:=HT.out (by
        cases hkn:Ij x.key q.sp q.sl X with
        |none=>rfl
        |some r=>have:=HP8.out.1;rw[hkn]at this;cases this)
       clear hob;go_wp2_with fail;go_roundw
       case rel=>exact⟨m+1,HQ.out,by go_num,HT9.out,H9.out⟩
       case measure=>simp[intOf];omega
     .have hml':¬(m:Int)<q.ws.length:=by omega
      have hfs:q.ws.findSome? (λw=>Ij w.key q.sp q.sl X)=none:=by have:=HNo.out;rw[ay (by omega)]at this;exact this
      rw[hfs]at HL;clear hfs HNo hm CC RW;obtain⟨-,-,c3,c4,-,-⟩:=SB.out _ _ _ HC.out;go_wp2_with fail;refine(CH.out _ HC.out).mono ?_;rintro e w7 ⟨rfl,hq⟩;have H7:Hid _:=hq;clear hq CH c3 c4 HC;by_cases hh:h0=0
      case neg=>
       have hh':(h0 != 0)=true:=by simp[hh]
       have HE:Hid (Y=(Cb h0,Xh,Dh)):=by show _=_;rw[HL.out,ah hh];try rfl
       clear hh;go_wp2_with fail;refine(CR.out _ _).mono ?_;rintro e w8 ⟨rfl,hb⟩;have H8:Hid _:=ON.out _ _ _ _ H7.out hb;clear hb;have K:=H8;exact re5
      case pos=>
       subst hh;obtain⟨c7,c8⟩:=SH.out _ _ _ H7.out;go_wp2_with fail;refine(CT.out _).mono ?_;rintro e w8 ⟨rfl,hb⟩;have H8:Hid _:=ON.out _ _ _ _ H7.out hb;clear hb CT c7 c8 H7;have H9:Hid _:=NW.out _ _ _ #[uw t1,ui t2] H8.out;obtain⟨W9,hW9⟩:=xj (w8.alloc (.cells #[uw t1,ui t2] 38));rw[hW9]at H9;obtain⟨bl,hbl⟩:=xj w8.heap.size;rw[hbl]at H9;by_cases hh:t3=0
       case neg=>
        have hh':(t3 != 0)=true:=by simp[hh]
        have HE:Hid (Y=(Cb t3,Xh,Dh)):=by show _=_;rw[HL.out,ag (by decide),ah hh];try rfl
        exact bao
       case pos=>
        subst hh;obtain⟨l0,l1⟩:=SQ.out _ _ _ _ H9.out;go_wp2_with fail;clear hW9 hbl;refine(CV.out _ _ H9.out).mono ?_;rintro e w10 ⟨rfl,hq⟩;have H10:Hid _:=hq;clear hq CV l0 l1 H9;by_cases hh:v0=0
        case neg=>
         have hh':(v0 != 0)=true:=by simp[hh]
         have HE:Hid (Y=(Cb v0,Xv,Dv)):=by show _=_;rw[HL.out,ag (by decide),ag (by decide),ah hh];try rfl
         have H10b:Hid _:=LS.out _ _ _ _ H10.out;exact bbd
        case pos=>
         subst hh;have H10b:Hid _:=LS.out _ _ _ _ H10.out;obtain⟨c1,c2,c3,c4,c7,c11⟩:=SB.out _ _ _ H10b.out;obtain⟨l0,l1⟩:=SQ.out _ _ _ _ H10.out;have hob:(w10.alloc (.cells #[iw 2,ui q.c,ui q.n,uw q.sp,ui q.sl,uw 0,ui 0,uw t1,ui t2,sd q.key,ub 0,.bool false,.slice wa q.ws.length wc] 92)).heap[w10.heap.size]?=some (.cells #[iw 2,ui q.c,ui q.n,uw q.sp,ui q.sl,uw 0,ui 0,uw t1,ui t2,sd q.key,ub 0,.bool false,.slice wa q.ws.length wc] 92 (0,0)):=ae w10 _;have H11:Hid _:=ONL.out _ _ _ (w10.alloc (.cells #[iw 2,ui q.c,ui q.n,uw q.sp,ui q.sl,uw 0,ui 0,uw t1,ui t2,sd q.key,ub 0,.bool false,.slice wa q.ws.length wc] 92)) _ H10.out (al _);obtain⟨W11,hW11⟩:=xj (w10.alloc (.cells #[iw 2,ui q.c,ui q.n,uw q.sp,ui q.sl,uw 0,ui 0,uw t1,ui t2,sd q.key,ub 0,.bool false,.slice wa q.ws.length wc] 92));rw[hW11]at hob H11;have e0:=Drm.Ae (k:=0) hob rfl;have e1:=Drm.Ae (k:=1) hob rfl;have e2:=Drm.Ae (k:=2) hob rfl;have e3:=Drm.Ae (k:=3) hob rfl;have e4:=Drm.Ae (k:=4) hob rfl;have e5:=Drm.Ae (k:=5) hob rfl;have e6:=Drm.Ae (k:=6) hob rfl;have e7:=Drm.Ae (k:=7) hob rfl;have e8:=Drm.Ae (k:=8) hob rfl;have e9:=Drm.Ae (k:=9) hob rfl;have e10:=Drm.Ae (k:=10) hob rfl;have e11:=Drm.Ae (k:=11) hob rfl;have e12:=Drm.Ae (k:=12) hob rfl;clear hob H10b;go_wp2_with fail;refine(CN.out _ _ H11.out).mono ?_;rintro e w12 ⟨rfl,hq⟩;have H12:Hid _:=hq;clear hq CN c1 c2 c3 c4 c7 c11 l0 l1 e0 e1 e2 e3 e4 e5 e6 e7 e8 e9 e10 e11 e12 hW11 H11 H10;by_cases hh:n0=0
         case neg=>
          have hh':(n0 != 0)=true:=by simp[hh]
          have HE:Hid (Y=(Cb n0,Xn,Dn)):=by show _=_;rw[HL.out,ag (by decide),ag (by decide),ag (by decide),ah hh];try rfl
          have H12b:Hid _:=LS.out _ _ _ _ H12.out;clear hh;go_wp2_with fail;refine(CR.out _ _).mono ?_;rintro e w13 ⟨rfl,hb⟩;have H13:Hid _:=ON.out _ _ _ _ H12b.out hb;clear hb;have K:=H13;exact re5
         case pos=>
          subst hh;have HE:Hid (Y=(Fv 4 t1 t2,Xn,Dn)):=by show _=_;rw[HL.out,ag (by decide),ag (by decide),ag (by decide),ag (by decide)];try rfl
          have H12b:Hid _:=LS.out _ _ _ _ H12.out;obtain⟨l0,l1⟩:=SQ.out _ _ _ _ H12.out;go_wp2_with fail;refine(CS.out _ _ _ _).mono ?_;rintro e w13 ⟨rfl,hb⟩;have H13:Hid _:=ON.out _ _ _ _ H12b.out hb;clear hb l0 l1;have K:=H13;exact re5
def axx(E:Env SA TA BA)(q:Rq)(wa:Option Addr)(wc:Nat)(sa:Option Addr)(sc:Nat)(h:ShAt SA TA BA f M X a g D w)(ht:X.wt<8900)(hX:XOk X)(hq:RqOk q):
  cpr 69 #[pz f.sb,.agg (rqC q.k q wa wc sa sc)] w λe w'=>e=.returned (rpV (Nq q X a D).1 sy)/\ShTo SA TA BA f M w (Nq q X a D).2.1 a g (Nq q X a D).2.2 w':=by
 have HL0:Nq q X a D=if Clk.Ar X.sp X.sl q.ap q.al=false then(Fv 9 X.sp X.sl,X,D)else if(Az (Lc q.ap q.al) X a D).1≠0 then(Cb (Az (Lc q.ap q.al) X a D).1,(Az (Lc q.ap q.al) X a D).2)else(Fv 9 q.ap q.al,(Az (Lc q.ap q.al) X a D).2):=rfl;obtain⟨b1,Lo,hb1,hLo,H0,SP,HR,ON,NW,CR,CS⟩:=V7 E h q.k q wa wc sa sc;have SB:Hid (∀(X:Sd) (D:Drm.Dr) W,Cx SA TA BA f M w X a g D Lo W->ce W w.heap.size 5 (uw q.ap)/\ce W w.heap.size 6 (ui q.al)):=λX D W hW=>by subst hLo;exact⟨hW.has.cell tq1 rfl,hW.has.cell tq1 rfl⟩
 have SN:Hid (∀W,Cx SA TA BA f M w X a g D Lo W->ce W w.heap.size 5 (uw q.ap)/\ce W w.heap.size 6 (ui q.al)/\ce W f.sb 5 (uw X.sp)/\ce W f.sb 6 (ui X.sl)):=λW hW=>⟨(SB.out _ _ _ hW).1,(SB.out _ _ _ hW).2,hW.nums.1,hW.nums.2.1⟩;have CL:Hid (∀W,Cx SA TA BA f M w X a g D Lo W->cpr 84 #[.agg #[uw X.sp,ui X.sl],.agg #[uw q.ap,ui q.al]] W λr w'=>r=.returned (.bool (Clk.Ar X.sp X.sl q.ap q.al))/\Cx SA TA BA f M w X a g D Lo w'):=λW hW=>(Clk.Oi X.sp X.sl q.ap q.al W).mono λr w' h=>⟨h.1,hW.on E h.2⟩;have DW:Hid (∀W,Cx SA TA BA f M w X a g D Lo W->Cx SA TA BA f M w X a g D Lo W.drew):=λW hW=>hW.drew E;have CN:Hid (∀W Lo,Cx SA TA BA f M w X a g D Lo W->cpr 144 #[pz f.sb,.agg #[iw 6,ui 0,ui 0,uw 0,ui 0,uw q.ap,ui q.al,uw 0,ui 0,su,ub 0,.bool false,sy]] W λr w'=>r=.returned (iw (Az (Lc q.ap q.al) X a D).1)/\Cx SA TA BA f M w (Az (Lc q.ap q.al) X a D).2.1 a g (Az (Lc q.ap q.al) X a D).2.2 Lo w'):=λW Lo hW=>hW.calls λM' hM=>by have:=Pq E (Lc q.ap q.al) none 0 hM (by omega) hX.t (adi hq.a) (eu _) (WsIn.nil _ _);rw[aq3 hq.a]at this;exact this
 have HL:Hid _:=HL0;generalize Nq q X a D=Y at*;generalize (Az (Lc q.ap q.al) X a D)=N at*;generalize hlb:Clk.Ar X.sp X.sl q.ap q.al=lb at*;clear hLo h ht hX hq E HL0 hlb;obtain⟨n0,Xn,Dn⟩:=N;dsimp only at CN HL;obtain⟨W2,hW2⟩:=xj ((w.alloc (.cells (rqC q.k q wa wc sa sc) 42)).alloc (.cells (zC 0 0 0 0) 48));rw[hW2]at H0;go_enter Tryz.func69,Tryz.ntmps69;go_wp2_with fail;rw[<-hb1];clear hW2 hb1;go_region_held3 (λW=>ce W w.heap.size 5 (uw q.ap)/\ce W w.heap.size 6 (ui q.al)/\ce W f.sb 5 (uw X.sp)/\ce W f.sb 6 (ui X.sl)) (first|exact SN.out _ H0.out|exact SN.out _ (DW.out _ H0.out)|exact SN.out _ H2.out) (first
  |(go_at_call 84;refine(CL.out _ (DW.out _ H0.out)).mono ?_;rintro e w2 ⟨rfl,hq⟩;have H2:Hid _:=hq;clear hq))
 rename_i hHeld;clear hHeld CL DW H0;cases lb
 case false=>
  have HE:Hid (Y=(Fv 9 X.sp X.sl,X,D)):=HL.out;obtain⟨-,-,k5,k6⟩:=SN.out _ H2.out;clear SN CN;go_wp2_with fail;refine(CS.out _ _ _ _).mono ?_;rintro e w3 ⟨rfl,hb⟩;have H3:Hid _:=ON.out _ _ _ _ H2.out hb;clear hb k5 k6;have K:=H3;exact re5
 case true=>
  obtain⟨c5,c6⟩:=SB.out _ _ _ H2.out;clear SN;go_wp2_with fail;refine(CN.out _ _ H2.out).mono ?_;rintro e w3 ⟨rfl,hq⟩;have H3:Hid _:=hq;clear hq CN c5 c6 H2;by_cases hh:n0=0
  case neg=>
   have hh':(n0 != 0)=true:=by simp[hh]
   have HE:Hid (Y=(Cb n0,Xn,Dn)):=by show _=_;rw[HL.out];simp[hh]
   clear hh;go_wp2_with fail;refine(CR.out _ _).mono ?_;rintro e w4 ⟨rfl,hb⟩;have H4:Hid _:=ON.out _ _ _ _ H3.out hb;clear hb;have K:=H4;exact re5
  case pos=>
   subst hh;have HE:Hid (Y=(Fv 9 q.ap q.al,Xn,Dn)):=by show _=_;rw[HL.out];simp
   obtain⟨c5,c6⟩:=SB.out _ _ _ H3.out;go_wp2_with fail;refine(CS.out _ _ _ _).mono ?_;rintro e w4 ⟨rfl,hb⟩;have H4:Hid _:=ON.out _ _ _ _ H3.out hb;clear hb c5 c6;have K:=H4;exact re5
def avf(E:Env SA TA BA)(q:Rq)(wa:Option Addr)(wc:Nat)(sa:Option Addr)(sc:Nat)(h:ShAt SA TA BA f M X a g D w)(ht:X.wt<8900)(hX:XOk X)(hq:RqOk q):
  cpr 70 #[pz f.sb,.agg (rqC q.k q wa wc sa sc)] w λe w'=>e=.returned (rpV (Jq q X a D).1 sy)/\ShTo SA TA BA f M w (Jq q X a D).2.1 a g (Jq q X a D).2.2 w':=by
 obtain⟨b1,Lo,hb1,hLo,H0,SP,HR,ON,NW,CR,CS⟩:=V7 E h q.k q wa wc sa sc;have SB:Hid (∀(X:Sd) (D:Drm.Dr) W,Cx SA TA BA f M w X a g D Lo W->ce W w.heap.size 1 (ui q.c)/\ce W w.heap.size 2 (ui q.n)/\ce W w.heap.size 3 (uw q.sp)):=λX D W hW=>by subst hLo;exact⟨hW.has.cell tq1 rfl,hW.has.cell tq1 rfl,hW.has.cell tq1 rfl⟩
 obtain⟨y,z,hv,hz,hy⟩:=Ry (Ver.getB q.c q.n X.K);have C2:Hid (∀W,cpr 146 #[.agg (vdC y)] W λe w'=>e=.returned (.bool (Ver.cmB y))/\Bw W w'):=λW=>aef y W;obtain⟨W2,hW2⟩:=xj ((w.alloc (.cells (rqC q.k q wa wc sa sc) 42)).alloc (.cells (zC 0 0 0 0) 48));rw[hW2]at H0;have SZ:Hid (∀W,Bz W2 W->Cx SA TA BA f M w X a g D Lo W):=λW hb=>H0.out.on E hb;have SV:Hid (∀W,Bz W2 W->ce W f.sb 4 (pz f.ve)/\ce W w.heap.size 1 (ui q.c)/\ce W w.heap.size 2 (ui q.n)/\Bz W2 W):=λW hb=>⟨(H0.out.on E hb).ptrs.2.2.2.2,(SB.out _ _ _ (SZ.out _ hb)).1,(SB.out _ _ _ (SZ.out _ hb)).2.1,hb⟩;have CO:Hid (∀W,Bz W2 W->cpr 118 #[pz f.ve,.agg #[ui q.c,ui q.n]] W λe w'=>e=.returned (.tuple #[.agg (vdC y),.bool z])/\Bw W w'):=λW hb=>by obtain⟨M9,h9,-,-⟩:=(H0.out.on E hb).sh;have:=agv E q.c q.n h9 (agi (by omega)) hq.c;rw[hv]at this;exact this
 have HZ:Hid (Bz W2 W2):=aj _ _;have HM:Hid (W2.heap.size<=W2.heap.size):=ai _;have HL0:Jq q X a D=if(z&&(Ver.cmB y&& !y.dn))=false then(G9 9,X,D)else if(Az (I7 q.c q.n) X a D).1≠0 then(Cb (Az (I7 q.c q.n) X a D).1,(Az (I7 q.c q.n) X a D).2)else(G9 9,(Az (I7 q.c q.n) X a D).2):=by
  unfold Jq;exact bc6
 have CN:Hid (∀W Lo,Cx SA TA BA f M w X a g D Lo W->cpr 144 #[pz f.sb,.agg #[iw 7,ui q.c,ui q.n,uw 0,ui 0,uw 0,ui 0,uw 0,ui 0,su,ub 0,.bool false,sy]] W λr w'=>r=.returned (iw (Az (I7 q.c q.n) X a D).1)/\Cx SA TA BA f M w (Az (I7 q.c q.n) X a D).2.1 a g (Az (I7 q.c q.n) X a D).2.2 Lo w'):=λW Lo hW=>hW.calls λM' hM=>by have:=Pq E (I7 q.c q.n) none 0 hM (by omega) hX.t (adk hq.c) (eu _) (WsIn.nil _ _);rw[aq4 hq.c]at this;exact this
 have HL:Hid _:=HL0;generalize Jq q X a D=Y at*;generalize (Az (I7 q.c q.n) X a D)=N at*;generalize Ver.cmB y=cm at*;clear hLo h ht hX hq E HL0 hv hz hy;obtain⟨n0,Xn,Dn⟩:=N;dsimp only at CN HL;go_enter Tryz.func70,Tryz.ntmps70;go_wp2_with fail;rw[<-hb1];clear hW2 hb1;obtain⟨s4,x0,x1,-⟩:=SV.out _ HZ.out;go_cut [5,6] (λs6 s7 wc=>∃vb,s6=.pointer (some ⟨vb,0,none⟩)/\s7=.bool z/\wc.heap[vb]?=some (.cells (vdC y) 143 (0,0))/\Bz W2 wc)
 case first=>
  exact aqk
 case rest=>
  obtain⟨vb,rfl,rfl,hob,hb⟩:=hcut;have H3:Hid _:=SZ.out _ hb;clear hb s4 x0 x1 SV CO SZ HZ HM H0;cases z
  case false=>
   have HE:Hid (Y=(G9 9,X,D)):=HL.out;clear CN C2 HL;have K:=H3;exact re5
  case true=>
   obtain⟨y0,y1,y2,y3,y4,y5,y6,y7,-⟩:=aar hob;go_wp2_with fail;refine(C2.out _).mono ?_;rintro e w4 ⟨rfl,hb⟩;have H4:Hid _:=ON.out _ _ _ _ H3.out hb;have hob2:w4.heap[vb]?=some (.cells (vdC y) 143 (0,0)):=by rw[hb.block vb (gp hob)];exact hob
   clear hb C2 hob y0 y1 y2 y3 y4 y5 y6 y7 H3;obtain⟨y0,y1,y2,y3,y4,y5,y6,y7,-⟩:=aar hob2;cases cm
   case false=>
    exact bbq
   case true=>
    cases hdn:y.dn
    case true=>
     rw[hdn]at y7 HL;exact bbq
    case false=>
     rw[hdn]at y7 HL;have HL2:Hid (Y=if n0≠0 then(Cb n0,Xn,Dn)else(G9 9,Xn,Dn)):=HL.out;obtain⟨c1,c2,-⟩:=SB.out _ _ _ H4.out;clear HL;go_wp2_with fail;refine(CN.out _ _ H4.out).mono ?_;rintro e w5 ⟨rfl,hq⟩;have H5:Hid _:=hq;clear hq CN c1 c2 y0 y1 y2 y3 y4 y5 y6 y7 hob2 H4;by_cases hh:n0=0
     case neg=>
      have hh':(n0 != 0)=true:=by simp[hh]
      have HE:Hid (Y=(Cb n0,Xn,Dn)):=by show _=_;rw[HL2.out];simp[hh]
      clear hh;go_wp2_with fail;refine(CR.out _ _).mono ?_;rintro e w6 ⟨rfl,hb⟩;have H6:Hid _:=ON.out _ _ _ _ H5.out hb;clear hb;have K:=H6;exact re5
     case pos=>
      subst hh;have HE:Hid (Y=(G9 9,Xn,Dn)):=by show _=_;rw[HL2.out];simp
      have K:=H5;exact re5
def ajb(q:Rq)(wa:Option Addr)(wc:Nat)(sa:Option Addr)(sc:Nat)(hi:Lat.WsAt w.heap.size (.slice wa q.ws.length wc) q.ws w):
  cpr 60 #[.agg #[iw q.k,ui q.c,ui q.n,uw q.sp,ui q.sl,uw q.ap,ui q.al,sd q.key,sd q.hi,iw q.lim,ub q.pt,.slice wa q.ws.length wc,.slice sa q.sk.length sc]] w λe w'=>e=.returned (.bool (Et q))/\Bw w w':=by
 have HR0:Hid (Et q=(decide (1<=q.k)&&decide (q.k<=9)&&Ent.Ag q.sp q.sl&&Ent.Ag q.ap q.al&&decide (q.sk.length<=16)&&(if q.k=1 then kOk q.key else if q.k=3 then kOk q.key&&Bf q.ws else if q.k=4\/q.k=5 then !(q.ap==0&&q.al==0)else true))):=rfl;generalize Et q=r at*;generalize q.k=k at*;have SB:Hid (∀W,Bo w [(w.heap.size,.cells #[iw k,ui q.c,ui q.n,uw q.sp,ui q.sl,uw q.ap,ui q.al,sd q.key,sd q.hi,iw q.lim,ub q.pt,.slice wa q.ws.length wc,.slice sa q.sk.length sc] 42)] W->W.cell? ⟨w.heap.size,0,none⟩=some (iw k)/\W.cell? ⟨w.heap.size,1,none⟩=some (ui q.c)/\W.cell? ⟨w.heap.size,2,none⟩=some (ui q.n)/\W.cell? ⟨w.heap.size,3,none⟩=some (uw q.sp)/\W.cell? ⟨w.heap.size,4,none⟩=some (ui q.sl)/\W.cell? ⟨w.heap.size,5,none⟩=some (uw q.ap)/\W.cell? ⟨w.heap.size,6,none⟩=some (ui q.al)/\W.cell? ⟨w.heap.size,7,none⟩=some (sd q.key)/\W.cell? ⟨w.heap.size,11,none⟩=some (.slice wa q.ws.length wc)/\W.cell? ⟨w.heap.size,12,none⟩=some (.slice sa q.sk.length sc)):=λW hW=>⟨hW.has.cell tq0 rfl,hW.has.cell tq0 rfl,hW.has.cell tq0 rfl,hW.has.cell tq0 rfl,hW.has.cell tq0 rfl,hW.has.cell tq0 rfl,hW.has.cell tq0 rfl,hW.has.cell tq0 rfl,hW.has.cell tq0 rfl,hW.has.cell tq0 rfl⟩;have H1:Hid (Bo w [(w.heap.size,.cells #[iw k,ui q.c,ui q.n,uw q.sp,ui q.sl,uw q.ap,ui q.al,sd q.key,sd q.hi,iw q.lim,ub q.pt,.slice wa q.ws.length wc,.slice sa q.sk.length sc] 42)] (w.alloc (.cells #[iw k,ui q.c,ui q.n,uw q.sp,ui q.sl,uw q.ap,ui q.al,sd q.key,sd q.hi,iw q.lim,ub q.pt,.slice wa q.ws.length wc,.slice sa q.sk.length sc] 42))):=(Bo.nil w).new (.cells #[iw k,ui q.c,ui q.n,uw q.sp,ui q.sl,uw q.ap,ui q.al,sd q.key,sd q.hi,iw q.lim,ub q.pt,.slice wa q.ws.length wc,.slice sa q.sk.length sc] 42);have C1:Hid (∀W,Bo w [(w.heap.size,.cells #[iw k,ui q.c,ui q.n,uw q.sp,ui q.sl,uw q.ap,ui q.al,sd q.key,sd q.hi,iw q.lim,ub q.pt,.slice wa q.ws.length wc,.slice sa q.sk.length sc] 42)] W->cpr 109 #[.agg #[uw q.sp,ui q.sl]] W λe w'=>e=.returned (.bool (Ent.Ag q.sp q.sl))/\Bo w [(w.heap.size,.cells #[iw k,ui q.c,ui q.n,uw q.sp,ui q.sl,uw q.ap,ui q.al,sd q.key,sd q.hi,iw q.lim,ub q.pt,.slice wa q.ws.length wc,.slice sa q.sk.length sc] 42)] w'):=λW hW=>(Ent.Jb q.sp q.sl W).mono λe w' h=>⟨h.1,hW.on h.2⟩;have C2:Hid (∀W,Bo w [(w.heap.size,.cells #[iw k,ui q.c,ui q.n,uw q.sp,ui q.sl,uw q.ap,ui q.al,sd q.key,sd q.hi,iw q.lim,ub q.pt,.slice wa q.ws.length wc,.slice sa q.sk.length sc] 42)] W->cpr 109 #[.agg #[uw q.ap,ui q.al]] W λe w'=>e=.returned (.bool (Ent.Ag q.ap q.al))/\Bo w [(w.heap.size,.cells #[iw k,ui q.c,ui q.n,uw q.sp,ui q.sl,uw q.ap,ui q.al,sd q.key,sd q.hi,iw q.lim,ub q.pt,.slice wa q.ws.length wc,.slice sa q.sk.length sc] 42)] w'):=λW hW=>(Ent.Jb q.ap q.al W).mono λe w' h=>⟨h.1,hW.on h.2⟩;have CK:Hid (∀W,cpr 133 #[sd q.key] W λe w'=>e=.returned (.bool (kOk q.key))/\W=w'):=λW=>ayw q.key W;have CW:Hid (∀W,Bo w [(w.heap.size,.cells #[iw k,ui q.c,ui q.n,uw q.sp,ui q.sl,uw q.ap,ui q.al,sd q.key,sd q.hi,iw q.lim,ub q.pt,.slice wa q.ws.length wc,.slice sa q.sk.length sc] 42)] W->cpr 108 #[.slice wa q.ws.length wc] W λe w'=>e=.returned (.bool (Bf q.ws))/\Bo w [(w.heap.size,.cells #[iw k,ui q.c,ui q.n,uw q.sp,ui q.sl,uw q.ap,ui q.al,sd q.key,sd q.hi,iw q.lim,ub q.pt,.slice wa q.ws.length wc,.slice sa q.sk.length sc] 42)] w'):=λW hW=>(Ent.Sm w.heap.size q.ws _ W (RwAt.on hi hW.bel) hW.bel.size).mono λe w' h=>⟨h.1,hW.on h.2⟩;have nq:∀W,(binOp .neq 38 (.agg #[uw q.ap,ui q.al]) (.agg #[uw 0,ui 0])).run Tryz.prog W=.ok (.bool (!(q.ap==0&&q.al==0))) W:=λW=>Clk.ak5 _ _ _ _ W;generalize kOk q.key=kk at*;generalize Bf q.ws=ww at*;generalize (!(q.ap==0&&q.al==0))=zz at*;generalize Ent.Ag q.sp q.sl=r1 at*;generalize Ent.Ag q.ap q.al=r2 at*;clear hi;by_cases k1:k<1
 case pos=>
  have HL:r=false:=by
   rw[HR0.out];have:¬1<=k:=by omega
   simp[this]
  subst HL;obtain⟨c0,-⟩:=SB.out _ H1.out;go_enter Tryz.func60,Tryz.ntmps60;exact bbn
 case neg=>
  have k1':decide (k<1)=false:=by simp[k1]
  by_cases k9:9<k
  case pos=>
   have HL:r=false:=by
    rw[HR0.out];have:¬k<=9:=by omega
    simp[this]
   subst HL;obtain⟨c0,-⟩:=SB.out _ H1.out;go_enter Tryz.func60,Tryz.ntmps60;exact bbn
  case neg=>
   have hk:k=1\/k=2\/k=3\/k=4\/k=5\/k=6\/k=7\/k=8\/k=9:=by omega
   have k9':decide (9<k)=false:=by simp[k9]
   have HK:Hid _:=hk;clear hk;obtain⟨c0,-,-,c3,c4,-⟩:=SB.out _ H1.out;go_enter Tryz.func60,Tryz.ntmps60;go_wp2_with fail;refine(C1.out _ H1.out).mono ?_;rintro e w3 ⟨rfl,hq⟩;have H3:Hid _:=hq;clear hq c0 c3 c4;cases r1
   case false=>
    have HL:r=false:=by rw[HR0.out];simp
    subst HL;go_wp2_with fail;go_ret;exact⟨rfl,H3.out.bel⟩
   case true=>
    obtain⟨c0,-,-,-,-,c5,c6,-⟩:=SB.out _ H3.out;go_wp2_with fail;refine(C2.out _ H3.out).mono ?_;rintro e w4 ⟨rfl,hq⟩;have H4:Hid _:=hq;clear hq c0 c5 c6;obtain⟨c0,-,-,-,-,-,-,-,-,c12⟩:=SB.out _ H4.out;cases r2
    case false=>
     have HL:r=false:=by rw[HR0.out];simp
     exact az1
    case true=>
     by_cases hs:(16:Int)<q.sk.length
     case pos=>
      have HL:r=false:=by
       rw[HR0.out];have:¬q.sk.length<=16:=by omega
       simp[this]
      exact az1
     case neg=>
      have hs':decide ((16:Int)<q.sk.length)=false:=by simp[hs]
      clear k1 k1' k9 k9';rcases HK.out with rfl|rfl|rfl|rfl|rfl|rfl|rfl|rfl|rfl
      .have HL:r=kk:=by
        exact az9
       obtain⟨-,-,-,-,-,-,-,c7,-⟩:=SB.out _ H4.out;subst HL;go_wp2_with fail;refine(CK.out _).mono ?_;rintro e w5 ⟨rfl,rfl⟩;go_wp2_with fail;go_ret;exact⟨rfl,H4.out.bel⟩
      .exact axg
      .have HL:r=(kk&&ww):=by
        exact az9
       obtain⟨-,-,-,-,-,-,-,c7,c11,-⟩:=SB.out _ H4.out;go_wp2_with fail;refine(CK.out _).mono ?_;rintro e w5 ⟨rfl,rfl⟩;cases kk
       case false=>
        exact az1
       case true=>
        go_wp2_with fail;refine(CW.out _ H4.out).mono ?_;rintro e w6 ⟨rfl,hq⟩;have H6:Hid _:=hq;subst HL;go_wp2_with fail;go_ret;exact⟨rfl,H6.out.bel⟩
      .have HL:r=zz:=by
        exact az9
       obtain⟨-,-,-,-,-,c5,c6,-⟩:=SB.out _ H4.out;exact az1
      .have HL:r=zz:=by
        exact az9
       obtain⟨-,-,-,-,-,c5,c6,-⟩:=SB.out _ H4.out;exact az1
      .exact axg
      .exact axg
      .exact axg
      .exact axg
def acm(ph:Int)(q:Rq)(X:Sd)(a:Int)(D:Drm.Dr){y:Ver.Vd}{z:Bool}(hz:z=(Ver.getB q.c q.n X.K).isSome)(hy:∀x,Ver.getB q.c q.n X.K=some x->y=x):Lm ph q X a D=if(z&& !Ver.cmB y)then(G9 9,X,D)else match ownF q.c q.n X with
  |none=>(G9 9,X,D)
  |some x=>if Jd x.2 X||Clk.Ar q.ap q.al x.2.mp x.2.ml then(Cb 1,X,D)else
   if(Ah ph q.ap q.al X a D).1≠0 then(Cb (Ah ph q.ap q.al X a D).1,(Ah ph q.ap q.al X a D).2)else
   if(Az (I4 q.c q.n q.ap q.al) (Ah ph q.ap q.al X a D).2.1 a (Ah ph q.ap q.al X a D).2.2).1≠0 then(Cb (Az (I4 q.c q.n q.ap q.al) (Ah ph q.ap q.al X a D).2.1 a (Ah ph q.ap q.al X a D).2.2).1,(Az (I4 q.c q.n q.ap q.al) (Ah ph q.ap q.al X a D).2.1 a (Ah ph q.ap q.al X a D).2.2).2)else(G9 9,(Az (I4 q.c q.n q.ap q.al) (Ah ph q.ap q.al X a D).2.1 a (Ah ph q.ap q.al X a D).2.2).2):=by
 unfold Lm;exact bc6
def app96(E:Env SA TA BA)(ph:Int)(q:Rq)(wa:Option Addr)(wc:Nat)(sa:Option Addr)(sc:Nat)(h:ShAt SA TA BA f M X a g D w)(ht:X.wt<8900)(hX:XOk X)(hph:0<=ph)(hq:RqOk q):
  cpr 66 #[pz f.sb,uw ph,.agg (rqC q.k q wa wc sa sc)] w λe w'=>e=.returned (rpV (Lm ph q X a D).1 sy)/\ShTo SA TA BA f M w (Lm ph q X a D).2.1 a g (Lm ph q X a D).2.2 w':=by
 obtain⟨b1,Lo,hb1,hLo,H0,SP,HR,ON,NW,CR,CS⟩:=V7 E h q.k q wa wc sa sc;have SB:Hid (∀(X:Sd) (D:Drm.Dr) W,Cx SA TA BA f M w X a g D Lo W->ce W w.heap.size 1 (ui q.c)/\ce W w.heap.size 2 (ui q.n)/\ce W w.heap.size 5 (uw q.ap)/\ce W w.heap.size 6 (ui q.al)):=λX D W hW=>by subst hLo;exact⟨hW.has.cell tq1 rfl,hW.has.cell tq1 rfl,hW.has.cell tq1 rfl,hW.has.cell tq1 rfl⟩
 obtain⟨⟨ok,ox⟩,oz,hov,hoz,hox⟩:=Oz (ownF q.c q.n X);have CW:Hid (∀W,Cx SA TA BA f M w X a g D Lo W->cpr 138 #[pz f.sb,.agg #[ui q.c,ui q.n]] W λe w'=>e=.returned (.tuple #[.agg (inC ok ox),.bool oz])/\Cx SA TA BA f M w X a g D Lo w'):=λW hW=>by obtain⟨M9,h9,-,-⟩:=hW.sh;have:=Z8 E q.c q.n h9 (by omega);rw[hov]at this;exact this.mono λe w' h=>⟨h.1,hW.on E h.2⟩
 obtain⟨y,z,hv,hz,hy⟩:=Ry (Ver.getB q.c q.n X.K);have C2:Hid (∀W,cpr 146 #[.agg (vdC y)] W λe w'=>e=.returned (.bool (Ver.cmB y))/\Bw W w'):=λW=>aef y W;obtain⟨W2,hW2⟩:=xj ((w.alloc (.cells (rqC q.k q wa wc sa sc) 42)).alloc (.cells (zC 0 0 0 0) 48));rw[hW2]at H0;have SZ:Hid (∀W,Bz W2 W->Cx SA TA BA f M w X a g D Lo W):=λW hb=>H0.out.on E hb;have SV:Hid (∀W,Bz W2 W->ce W f.sb 4 (pz f.ve)/\ce W w.heap.size 1 (ui q.c)/\ce W w.heap.size 2 (ui q.n)/\Bz W2 W):=λW hb=>⟨(H0.out.on E hb).ptrs.2.2.2.2,(SB.out _ _ _ (SZ.out _ hb)).1,(SB.out _ _ _ (SZ.out _ hb)).2.1,hb⟩;have CO:Hid (∀W,Bz W2 W->cpr 118 #[pz f.ve,.agg #[ui q.c,ui q.n]] W λe w'=>e=.returned (.tuple #[.agg (vdC y),.bool z])/\Bw W w'):=λW hb=>by obtain⟨M9,h9,-,-⟩:=(H0.out.on E hb).sh;have:=agv E q.c q.n h9 (agi (by omega)) hq.c;rw[hv]at this;exact this
 have HZ:Hid (Bz W2 W2):=aj _ _;have HM:Hid (W2.heap.size<=W2.heap.size):=ai _;have HL0:=acm ph q X a D hz hy;have CP:Hid (∀W Lo,Cx SA TA BA f M w X a g D Lo W->cpr 145 #[pz f.sb,.agg (inC ok ox)] W λr w'=>r=.returned (.bool (Jd ox X))/\Cx SA TA BA f M w X a g D Lo w'):=λW Lo hW=>by obtain⟨M9,h9,-,-⟩:=hW.sh;exact(ade E (ok,ox) h9 (by omega)).mono λr w' h=>⟨h.1,hW.on E h.2⟩
 have CL:Hid (∀W Lo,Cx SA TA BA f M w X a g D Lo W->cpr 84 #[.agg #[uw q.ap,ui q.al],.agg #[uw ox.mp,ui ox.ml]] W λr w'=>r=.returned (.bool (Clk.Ar q.ap q.al ox.mp ox.ml))/\Cx SA TA BA f M w X a g D Lo w'):=λW Lo hW=>(Clk.Oi q.ap q.al ox.mp ox.ml W).mono λr w' h=>⟨h.1,hW.on E h.2⟩;have hhe:=L8 (f:=ph) (a:=a) (D:=D) hq.a hX;have CH:Hid (∀W Lo,Cx SA TA BA f M w X a g D Lo W->cpr 141 #[pz f.sb,uw ph,.agg #[uw q.ap,ui q.al]] W λr w'=>r=.returned (iw (Ah ph q.ap q.al X a D).1)/\Cx SA TA BA f M w (Ah ph q.ap q.al X a D).2.1 a g (Ah ph q.ap q.al X a D).2.2 Lo w'):=λW Lo hW=>hW.calls λM' hM=>Vj E ph q.ap q.al hM (by omega) hX hph hq.a;have CN:Hid (∀W Lo,Cx SA TA BA f M w (Ah ph q.ap q.al X a D).2.1 a g (Ah ph q.ap q.al X a D).2.2 Lo W->cpr 144 #[pz f.sb,.agg #[iw 4,ui q.c,ui q.n,uw 0,ui 0,uw q.ap,ui q.al,uw 0,ui 0,su,ub 0,.bool false,sy]] W λr w'=>r=.returned (iw (Az (I4 q.c q.n q.ap q.al) (Ah ph q.ap q.al X a D).2.1 a (Ah ph q.ap q.al X a D).2.2).1)/\Cx SA TA BA f M w (Az (I4 q.c q.n q.ap q.al) (Ah ph q.ap q.al X a D).2.1 a (Ah ph q.ap q.al X a D).2.2).2.1 a g (Az (I4 q.c q.n q.ap q.al) (Ah ph q.ap q.al X a D).2.1 a (Ah ph q.ap q.al X a D).2.2).2.2 Lo w'):=λW Lo hW=>hW.calls λM' hM=>by have:=Pq E (I4 q.c q.n q.ap q.al) none 0 hM (by rw[hhe.1.wt];omega) hhe.2.t (aac hq.c hq.a) (eu _) (WsIn.nil _ _);rw[amk hq.c hq.a]at this;exact this
 have LS:Hid (∀(X:Sd) (D:Drm.Dr) W p,Cx SA TA BA f M w X a g D (p::Lo) W->Cx SA TA BA f M w X a g D Lo W):=λX D W p hW=>hW.less (λx hx=>.tail _ hx);have NI:Hid (∀(X:Sd) (D:Drm.Dr) W cs,Cx SA TA BA f M w X a g D Lo W->Cx SA TA BA f M w X a g D ((W.heap.size,.cells cs 155 (0,0))::Lo) (W.alloc (.cells cs 155 (0,0)))):=λX D W cs hW=>hW.new E cs 155 (by decide);have SI:Hid (∀(X:Sd) (D:Drm.Dr) W bi,Cx SA TA BA f M w X a g D ((bi,.cells (inC ok ox) 155 (0,0))::Lo) W->W.heap[bi]?=some (.cells (inC ok ox) 155 (0,0))):=λX D W bi hW=>hW.has _ tq0;have HOz:Hid (oz=(ownF q.c q.n X).isSome/\∀x,ownF q.c q.n X=some x->(ok,ox)=x):=⟨hoz,hox⟩;have HL:Hid _:=HL0;generalize Lm ph q X a D=Y at*;generalize Ver.cmB y=cm at*;clear hLo h ht hX hph hq E HL0 hhe hv hz hy hov hoz hox;go_enter Tryz.func66,Tryz.ntmps66;go_wp2_with fail;rw[<-hb1];clear hW2 hb1;obtain⟨s4,x0,x1,-⟩:=SV.out _ HZ.out;go_cut [7,8] (λs6 s7 wc=>∃vb,s6=.pointer (some ⟨vb,0,none⟩)/\s7=.bool z/\wc.heap[vb]?=some (.cells (vdC y) 143 (0,0))/\Bz W2 wc)
 case first=>
  exact aqk
 case rest=>
  obtain⟨vb,rfl,rfl,hob,hb⟩:=hcut;have H3:Hid _:=SZ.out _ hb;clear hb s4 x0 x1 SV CO SZ HZ HM H0;cases z
  case false=>
   have HL2:Hid (Y=_):=HL.out;simp only[Bool.false_and,o7,if_false]at HL2;clear C2 HL hob;obtain⟨c1,c2,-,-⟩:=SB.out _ _ _ H3.out;go_wp2_with fail;refine(CW.out _ H3.out).mono ?_;rintro e w5 ⟨rfl,hq⟩;have H5:Hid _:=hq;clear hq CW c1 c2 H3;exact aa9
  case true=>
   obtain⟨y0,y1,y2,y3,y4,y5,y6,y7,-⟩:=aar hob;go_wp2_with fail;refine(C2.out _).mono ?_;rintro e w4 ⟨rfl,hb⟩;have H4:Hid _:=ON.out _ _ _ _ H3.out hb;clear hb C2 hob y0 y1 y2 y3 y4 y5 y6 y7 H3;cases cm
   case false=>
    exact bbq
   case true=>
    have HL2:Hid (Y=_):=HL.out;simp only[Bool.not_true,Bool.and_false,o7,if_false]at HL2;clear HL;obtain⟨c1,c2,-,-⟩:=SB.out _ _ _ H4.out;go_wp2_with fail;refine(CW.out _ H4.out).mono ?_;rintro e w5 ⟨rfl,hq⟩;have H5:Hid _:=hq;clear hq CW c1 c2 H4;exact aa9
