import Derived.Test.YtnfpfbehebcdpaaGreatUbg
set_option maxHeartbeats 0
set_option maxRecDepth 99999
set_option linter.all false
namespace Go.Proofs.YtnfpfbehebcdpaaGreat
open Go.RowKit
variable {SA:TyS}{TA:TyT}{BA:TyB}
variable {f:Fp}{M:Nat->Prop}{X:Sd}{a:Int}{g:Nat}{D:Drm.Dr}{w W W':World}{Lo:List (Nat×Obj)}
def acg(ph:Int)(q:Rq)(X:Sd)(a:Int)(D:Drm.Dr):Oe ph q X a D=match Cj q.c q.n X with
  |some r=>(r,X,D)
  |none=>match ownF q.c q.n X with
   |none=>(G9 6,X,D)
   |some x=>if Jd x.2 X=false then(Cb 1,X,D)else if Clk.Ar q.ap q.al x.2.mp x.2.ml then(Fv 7 x.2.mp x.2.ml,X,D)else
    if(Ah ph q.ap q.al X a D).1≠0 then(Cb (Ah ph q.ap q.al X a D).1,(Ah ph q.ap q.al X a D).2)else
    if(Az (Ie q.c q.n x.2.sp x.2.sl q.ap q.al q.pt) (Ah ph q.ap q.al X a D).2.1 a (Ah ph q.ap q.al X a D).2.2).1≠0 then(Cb (Az (Ie q.c q.n x.2.sp x.2.sl q.ap q.al q.pt) (Ah ph q.ap q.al X a D).2.1 a (Ah ph q.ap q.al X a D).2.2).1,(Az (Ie q.c q.n x.2.sp x.2.sl q.ap q.al q.pt) (Ah ph q.ap q.al X a D).2.1 a (Ah ph q.ap q.al X a D).2.2).2)else(Fv 5 q.ap q.al,(Az (Ie q.c q.n x.2.sp x.2.sl q.ap q.al q.pt) (Ah ph q.ap q.al X a D).2.1 a (Ah ph q.ap q.al X a D).2.2).2):=rfl
def ajk{c n:Int}{x:Bi×Lat.Ii}(h:ownF c n X=some x):x∈X.T:=by unfold ownF at h;exact(jh.1 (List.mem_of_mem_head? h)).1
def dec95(E:Env SA TA BA)(ph:Int)(q:Rq)(wa:Option Addr)(wc:Nat)(sa:Option Addr)(sc:Nat)(h:ShAt SA TA BA f M X a g D w)(ht:X.wt<8900)(hX:XOk X)(hph:0<=ph)(hq:RqOk q):
  cpr 65 #[pz f.sb,uw ph,.agg (rqC q.k q wa wc sa sc)] w λe w'=>e=.returned (rpV (Oe ph q X a D).1 sy)/\ShTo SA TA BA f M w (Oe ph q X a D).2.1 a g (Oe ph q X a D).2.2 w':=by
 have HL0:=acg ph q X a D;obtain⟨b1,Lo,hb1,hLo,H0,SP,HR,ON,NW,CR,CS⟩:=V7 E h q.k q wa wc sa sc;have SB:Hid (∀(X:Sd) (D:Drm.Dr) W,Cx SA TA BA f M w X a g D Lo W->ce W w.heap.size 1 (ui q.c)/\ce W w.heap.size 2 (ui q.n)/\ce W w.heap.size 5 (uw q.ap)/\ce W w.heap.size 6 (ui q.al)/\ce W w.heap.size 10 (ub q.pt)):=λX D W hW=>by subst hLo;exact⟨hW.has.cell tq1 rfl,hW.has.cell tq1 rfl,hW.has.cell tq1 rfl,hW.has.cell tq1 rfl,hW.has.cell tq1 rfl⟩
 obtain⟨kr,kz,hkv,hkz,hkr⟩:=Nw (Cj q.c q.n X);have CK:Hid (∀W,Cx SA TA BA f M w X a g D Lo W->cpr 137 #[pz f.sb,.agg #[ui q.c,ui q.n]] W λe w'=>e=.returned (.tuple #[.agg (rpD kr none 0 0),.bool kz])/\Cx SA TA BA f M w X a g D Lo w'):=λW hW=>by obtain⟨M9,h9,-,-⟩:=hW.sh;have:=Vb E q.c q.n h9 (by omega) hq.c;rw[hkv]at this;exact this.mono λe w' h=>⟨h.1,hW.on E h.2⟩
 obtain⟨⟨ok,ox⟩,oz,hov,hoz,hox⟩:=Oz (ownF q.c q.n X);have CW:Hid (∀W,Cx SA TA BA f M w X a g D Lo W->cpr 138 #[pz f.sb,.agg #[ui q.c,ui q.n]] W λe w'=>e=.returned (.tuple #[.agg (inC ok ox),.bool oz])/\Cx SA TA BA f M w X a g D Lo w'):=λW hW=>by obtain⟨M9,h9,-,-⟩:=hW.sh;have:=Z8 E q.c q.n h9 (by omega);rw[hov]at this;exact this.mono λe w' h=>⟨h.1,hW.on E h.2⟩
 have CP:Hid (∀W Lo,Cx SA TA BA f M w X a g D Lo W->cpr 145 #[pz f.sb,.agg (inC ok ox)] W λr w'=>r=.returned (.bool (Jd ox X))/\Cx SA TA BA f M w X a g D Lo w'):=λW Lo hW=>by obtain⟨M9,h9,-,-⟩:=hW.sh;exact(ade E (ok,ox) h9 (by omega)).mono λr w' h=>⟨h.1,hW.on E h.2⟩
 have CL:Hid (∀W Lo,Cx SA TA BA f M w X a g D Lo W->cpr 84 #[.agg #[uw q.ap,ui q.al],.agg #[uw ox.mp,ui ox.ml]] W λr w'=>r=.returned (.bool (Clk.Ar q.ap q.al ox.mp ox.ml))/\Cx SA TA BA f M w X a g D Lo w'):=λW Lo hW=>(Clk.Oi q.ap q.al ox.mp ox.ml W).mono λr w' h=>⟨h.1,hW.on E h.2⟩;have hhe:=L8 (f:=ph) (a:=a) (D:=D) hq.a hX;have CH:Hid (∀W Lo,Cx SA TA BA f M w X a g D Lo W->cpr 141 #[pz f.sb,uw ph,.agg #[uw q.ap,ui q.al]] W λr w'=>r=.returned (iw (Ah ph q.ap q.al X a D).1)/\Cx SA TA BA f M w (Ah ph q.ap q.al X a D).2.1 a g (Ah ph q.ap q.al X a D).2.2 Lo w'):=λW Lo hW=>hW.calls λM' hM=>Vj E ph q.ap q.al hM (by omega) hX hph hq.a;have CN:Hid (Ts ox.sp ox.sl->∀W Lo,Cx SA TA BA f M w (Ah ph q.ap q.al X a D).2.1 a g (Ah ph q.ap q.al X a D).2.2 Lo W->cpr 144 #[pz f.sb,.agg #[iw 3,ui q.c,ui q.n,uw ox.sp,ui ox.sl,uw q.ap,ui q.al,uw 0,ui 0,su,ub q.pt,.bool false,sy]] W λr w'=>r=.returned (iw (Az (Ie q.c q.n ox.sp ox.sl q.ap q.al q.pt) (Ah ph q.ap q.al X a D).2.1 a (Ah ph q.ap q.al X a D).2.2).1)/\Cx SA TA BA f M w (Az (Ie q.c q.n ox.sp ox.sl q.ap q.al q.pt) (Ah ph q.ap q.al X a D).2.1 a (Ah ph q.ap q.al X a D).2.2).2.1 a g (Az (Ie q.c q.n ox.sp ox.sl q.ap q.al q.pt) (Ah ph q.ap q.al X a D).2.1 a (Ah ph q.ap q.al X a D).2.2).2.2 Lo w'):=λhts W Lo hW=>hW.calls λM' hM=>by have:=Pq E (Ie q.c q.n ox.sp ox.sl q.ap q.al q.pt) none 0 hM (by rw[hhe.1.wt];omega) hhe.2.t (Wy hq.c hts hq.a hq.p) (eu _) (WsIn.nil _ _);rw[ah7 hq.c hts hq.a hq.p]at this;exact this
 have LS:Hid (∀(X:Sd) (D:Drm.Dr) W p,Cx SA TA BA f M w X a g D (p::Lo) W->Cx SA TA BA f M w X a g D Lo W):=λX D W p hW=>hW.less (λx hx=>.tail _ hx);have ONL:Hid (∀(X:Sd) (D:Drm.Dr) W W' Lo,Cx SA TA BA f M w X a g D Lo W->Bz W W'->Cx SA TA BA f M w X a g D Lo W'):=λX D W W' Lo hW hb=>hW.on E hb;have NI:Hid (∀(X:Sd) (D:Drm.Dr) W cs,Cx SA TA BA f M w X a g D Lo W->Cx SA TA BA f M w X a g D ((W.heap.size,.cells cs 155 (0,0))::Lo) (W.alloc (.cells cs 155 (0,0)))):=λX D W cs hW=>hW.new E cs 155 (by decide);have SI:Hid (∀(X:Sd) (D:Drm.Dr) W bi,Cx SA TA BA f M w X a g D ((bi,.cells (inC ok ox) 155 (0,0))::Lo) W->W.heap[bi]?=some (.cells (inC ok ox) 155 (0,0))):=λX D W bi hW=>hW.has _ tq0;have HKz:Hid (kz=(Cj q.c q.n X).isSome/\∀x,Cj q.c q.n X=some x->kr=x):=⟨hkz,hkr⟩;have HOz:Hid (oz=(ownF q.c q.n X).isSome/\∀x,ownF q.c q.n X=some x->(ok,ox)=x):=⟨hoz,hox⟩;have HTs:Hid (∀x,ownF q.c q.n X=some x->Ts x.2.sp x.2.sl):=λx hx=>(hX.i x (ajk hx)).1;have HL:Hid _:=HL0;generalize Oe ph q X a D=Y at*;clear hLo h ht hX hph hq E HL0 hhe hkv hkz hkr hov hoz hox;obtain⟨W2,hW2⟩:=xj ((w.alloc (.cells (rqC q.k q wa wc sa sc) 42)).alloc (.cells (zC 0 0 0 0) 48));rw[hW2]at H0;obtain⟨c1,c2,-,-,-⟩:=SB.out _ _ _ H0.out;go_enter Tryz.func65,Tryz.ntmps65;go_wp2_with fail;rw[<-hb1];clear hW2 hb1;refine(CK.out _ H0.out).mono ?_;rintro e w3 ⟨rfl,hq⟩;have H3:Hid _:=hq;clear hq CK c1 c2 H0;have hob:(w3.alloc (.cells (rpD kr none 0 0) 48)).heap[w3.heap.size]?=some (.cells (rpD kr none 0 0) 48 (0,0)):=ae w3 _;have H4:Hid (Cx SA TA BA f M w X a g D Lo (w3.alloc (.cells (rpD kr none 0 0) 48))):=ON.out _ _ _ _ H3.out (al _);obtain⟨W4,hW4⟩:=xj (w3.alloc (.cells (rpD kr none 0 0) 48));rw[hW4]at hob H4;cases kz
 case true=>
  have HE:Hid (Y=(kr,X,D)):=by
   show _=_;rw[HL.out];cases hkn:Cj q.c q.n X with
   |none=>have:=HKz.out.1;rw[hkn]at this;cases this
   |some r=>rw[HKz.out.2 r hkn]
  obtain⟨i0,i1,i2,i3,i4,i5,i6,i7,i8,i9,i10,i11,i12,i13,-⟩:=Ep hob;clear hob CW CH CN CP CL;have K:=H4;exact re5
 case false=>
  have hkn:Cj q.c q.n X=none:=by
   exact ba4
  rw[hkn]at HL;clear hob HKz hkn;obtain⟨c1,c2,-,-,-⟩:=SB.out _ _ _ H4.out;go_wp2_with fail;refine(CW.out _ H4.out).mono ?_;rintro e w5 ⟨rfl,hq⟩;have H5:Hid _:=hq;clear hq CW c1 c2 H4 hW4 H3;have H6:Hid _:=NI.out _ _ _ (inC ok ox) H5.out;obtain⟨W6,hW6⟩:=xj (w5.alloc (.cells (inC ok ox) 155));rw[hW6]at H6;obtain⟨bi,hbi⟩:=xj w5.heap.size;rw[hbi]at H6;cases oz
  case false=>
   have hkn:ownF q.c q.n X=none:=by
    exact azq
   have HE:Hid (Y=(G9 6,X,D)):=by show _=_;rw[HL.out,hkn]
   have H6b:Hid _:=LS.out _ _ _ _ H6.out;clear CH CN CP CL hkn;have K:=H6b;exact re5
  case true=>
   obtain⟨hkn,hts⟩:ownF q.c q.n X=some (ok,ox)/\Ts ox.sp ox.sl:=by
    cases hkn:ownF q.c q.n X with
    |none=>have:=HOz.out.1;rw[hkn]at this;cases this
    |some r=>
     have h1:=HTs.out r hkn;rw[<-HOz.out.2 r hkn]at h1;exact⟨by rw[HOz.out.2 r hkn],h1⟩
   rw[hkn]at HL;have CN2:Hid _:=CN.out hts;clear hkn hts CN HOz HTs;dsimp only at HL;generalize (Az (Ie q.c q.n ox.sp ox.sl q.ap q.al q.pt) (Ah ph q.ap q.al X a D).2.1 a (Ah ph q.ap q.al X a D).2.2)=N at*;generalize (Ah ph q.ap q.al X a D)=H at*;generalize hlb:Clk.Ar q.ap q.al ox.mp ox.ml=lb at*;generalize hpr:Jd ox X=pr at*;obtain⟨n0,Xn,Dn⟩:=N;obtain⟨h0,Xh,Dh⟩:=H;dsimp only at CH CN2 HL;clear hlb hpr;obtain⟨i0,i1,i2,i3,i4,i5,i6,i7,i8,i9,-⟩:=Ic (SI.out _ _ _ _ H6.out);go_wp2_with fail;clear hW6 hbi;refine(CP.out _ _ H6.out).mono ?_;rintro e w7 ⟨rfl,hq⟩;have H7:Hid _:=hq;clear hq CP i0 i1 i2 i3 i4 i5 i6 i7 i8 i9 H6 H5;cases pr
   case false=>
    have HE:Hid (Y=(Cb 1,X,D)):=HL.out;exact ax6
   case true=>
    obtain⟨-,-,c5,c6,-⟩:=SB.out _ _ _ (LS.out _ _ _ _ H7.out);obtain⟨-,-,-,-,i4,i5,-⟩:=Ic (SI.out _ _ _ _ H7.out);go_wp2_with fail;refine(CL.out _ _ H7.out).mono ?_;rintro e w8 ⟨rfl,hq⟩;have H8:Hid _:=hq;clear hq CL c5 c6 i4 i5 H7;cases lb
    case true=>
     have HE:Hid (Y=(Fv 7 ox.mp ox.ml,X,D)):=HL.out;have H8b:Hid _:=LS.out _ _ _ _ H8.out;obtain⟨-,-,-,-,i4,i5,-⟩:=Ic (SI.out _ _ _ _ H8.out);exact bbe
    case false=>
     obtain⟨-,-,c5,c6,-⟩:=SB.out _ _ _ (LS.out _ _ _ _ H8.out);go_wp2_with fail;refine(CH.out _ _ H8.out).mono ?_;rintro e w9 ⟨rfl,hq⟩;have H9:Hid _:=hq;clear hq CH c5 c6 H8;by_cases hh:h0=0
     case neg=>
      have hh':(h0 != 0)=true:=by simp[hh]
      have HE:Hid (Y=(Cb h0,Xh,Dh)):=by show _=_;rw[HL.out];simp[hh]
      exact bao
     case pos=>
      subst hh;have H9b:Hid _:=LS.out _ _ _ _ H9.out;obtain⟨c1,c2,c5,c6,c10⟩:=SB.out _ _ _ H9b.out;obtain⟨-,-,i2,i3,-⟩:=Ic (SI.out _ _ _ _ H9.out);go_upto_region 15 with fail
      have hob:(w9.alloc (.cells #[iw 3,ui q.c,ui q.n,uw ox.sp,ui ox.sl,uw q.ap,ui q.al,uw 0,ui 0,su,ub q.pt,.bool false,sy] 92)).heap[w9.heap.size]?=some (.cells #[iw 3,ui q.c,ui q.n,uw ox.sp,ui ox.sl,uw q.ap,ui q.al,uw 0,ui 0,su,ub q.pt,.bool false,sy] 92 (0,0)):=ae w9 _;have H11:Hid _:=ON.out _ _ _ (w9.alloc (.cells #[iw 3,ui q.c,ui q.n,uw ox.sp,ui ox.sl,uw q.ap,ui q.al,uw 0,ui 0,su,ub q.pt,.bool false,sy] 92)) H9b.out (al _);obtain⟨W11,hW11⟩:=xj (w9.alloc (.cells #[iw 3,ui q.c,ui q.n,uw ox.sp,ui ox.sl,uw q.ap,ui q.al,uw 0,ui 0,su,ub q.pt,.bool false,sy] 92));rw[hW11]at hob H11|-;have e0:=Drm.Ae (k:=0) hob rfl;have e1:=Drm.Ae (k:=1) hob rfl;have e2:=Drm.Ae (k:=2) hob rfl;have e3:=Drm.Ae (k:=3) hob rfl;have e4:=Drm.Ae (k:=4) hob rfl;have e5:=Drm.Ae (k:=5) hob rfl;have e6:=Drm.Ae (k:=6) hob rfl;have e7:=Drm.Ae (k:=7) hob rfl;have e8:=Drm.Ae (k:=8) hob rfl;have e9:=Drm.Ae (k:=9) hob rfl;have e10:=Drm.Ae (k:=10) hob rfl;have e11:=Drm.Ae (k:=11) hob rfl;have e12:=Drm.Ae (k:=12) hob rfl;clear hob H9b;go_wp2_with fail;refine(CN2.out _ _ H11.out).mono ?_;rintro e w12 ⟨rfl,hq⟩;have H12:Hid _:=hq;clear hq CN2 c1 c2 c5 c6 c10 i2 i3 e0 e1 e2 e3 e4 e5 e6 e7 e8 e9 e10 e11 e12 hW11 H11 H9;by_cases hh:n0=0
      case neg=>
       have hh':(n0 != 0)=true:=by simp[hh]
       have HE:Hid (Y=(Cb n0,Xn,Dn)):=by show _=_;rw[HL.out];simp[hh]
       clear hh;go_wp2_with fail;refine(CR.out _ _).mono ?_;rintro e w13 ⟨rfl,hb⟩;have H13:Hid _:=ON.out _ _ _ _ H12.out hb;clear hb;have K:=H13;exact re5
      case pos=>
       subst hh;have HE:Hid (Y=(Fv 5 q.ap q.al,Xn,Dn)):=by show _=_;rw[HL.out];simp
       obtain⟨-,-,c5,c6,-⟩:=SB.out _ _ _ H12.out;go_wp2_with fail;refine(CS.out _ _ _ _).mono ?_;rintro e w13 ⟨rfl,hb⟩;have H13:Hid _:=ON.out _ _ _ _ H12.out hb;clear hb c5 c6;have K:=H13;exact re5
def ad5(E:Env SA TA BA)(c n sp sl:Int)(h:ShAt SA TA BA f M X a g D w)(ht:X.wt<8900)(hX:XOk X)(hc:Ver.R32 c/\Ver.R32 n)(hs:Ts sp sl):
  cpr 147 #[pz f.sb,.agg #[ui c,ui n],.agg #[uw sp,ui sl]] w λe w'=>e=.returned (rpV (Fz c n sp sl X a D).1 sy)/\ShTo SA TA BA f M w (Fz c n sp sl X a D).2.1 a g (Fz c n sp sl X a D).2.2 w':=by
 have HL0:Fz c n sp sl X a D=if(ownF c n X).isSome|| !Clk.Ar sp sl X.sp X.sl then(if(Az (La c n sp sl) X a D).1≠0 then(Cb (Az (La c n sp sl) X a D).1,(Az (La c n sp sl) X a D).2)else(G9 6,(Az (La c n sp sl) X a D).2))else(G9 6,X,D):=rfl;obtain⟨b1,hb1⟩:∃b1,b1=w.heap.size+1:=⟨_,rfl⟩;obtain⟨b2,hb2⟩:∃b2,b2=b1+1:=⟨_,rfl⟩;obtain⟨Lo,hLo⟩:∃Lo:List (Nat×Obj),Lo=[(b2,.cells (zC 0 0 0 0) 48),(b1,.cells #[uw sp,ui sl] 38),(w.heap.size,.cells #[ui c,ui n] 36)]:=⟨_,rfl⟩;have H0:Hid (Cx SA TA BA f M w X a g D Lo (((w.alloc (.cells #[ui c,ui n] 36)).alloc (.cells #[uw sp,ui sl] 38)).alloc (.cells (zC 0 0 0 0) 48))):=by show Cx _ _ _ _ _ _ _ _ _ _ _ _;have h1:=(((Cx.start h).new E #[ui c,ui n] 36 (by decide)).new E #[uw sp,ui sl] 38 (by decide)).new E (zC 0 0 0 0) 48 (by decide);rw[Jf,Jf,<-hb1,<-hb2,<-hLo]at h1;exact h1
 have SB:Hid (∀(X:Sd) (D:Drm.Dr) W,Cx SA TA BA f M w X a g D Lo W->ce W w.heap.size 0 (ui c)/\ce W w.heap.size 1 (ui n)/\ce W b1 0 (uw sp)/\ce W b1 1 (ui sl)):=λX D W hW=>by subst hLo;exact⟨hW.has.cell tq2 rfl,hW.has.cell tq2 rfl,hW.has.cell tq1 rfl,hW.has.cell tq1 rfl⟩
 have SP:Hid (∀(X:Sd) (D:Drm.Dr) W,Cx SA TA BA f M w X a g D Lo W->W.heap[b2]?=some (.cells (zC 0 0 0 0) 48 (0,0))):=λX D W hW=>by subst hLo;exact hW.has _ tq0
 have HR:Hid (∀(X:Sd) (D:Drm.Dr) W (v0 v1 v2 v3 v4 v5 v6 v7 v8 v9 v10 v11 v12 v13:Value),Cx SA TA BA f M w X a g D Lo W->ShTo SA TA BA f M w X a g D (s14 W b2 v0 v1 v2 v3 v4 v5 v6 v7 v8 v9 v10 v11 v12 v13)):=λX D W v0 v1 v2 v3 v4 v5 v6 v7 v8 v9 v10 v11 v12 v13 hW=>by subst hLo;exact hW.awr E tq0 (by omega)
 have ON:Hid (∀(X:Sd) (D:Drm.Dr) W W',Cx SA TA BA f M w X a g D Lo W->Bz W W'->Cx SA TA BA f M w X a g D Lo W'):=λX D W W' hW hb=>hW.on E hb;have CR:Hid (∀e W,cpr 26 #[iw e] W λr w'=>r=.returned (.agg (zC 0 e 0 0))/\Bw W w'):=λe W=>Wq e W;have CS:Hid (∀k p l W,cpr 139 #[iw k,.agg #[uw p,ui l]] W λe w'=>e=.returned (.agg (zC k 0 p l))/\Bw W w'):=λk p l W=>ac9 k p l W;obtain⟨⟨ok,ox⟩,oz,hov,hoz,hox⟩:=Oz (ownF c n X);have CW:Hid (∀W,Cx SA TA BA f M w X a g D Lo W->cpr 138 #[pz f.sb,.agg #[ui c,ui n]] W λe w'=>e=.returned (.tuple #[.agg (inC ok ox),.bool oz])/\Cx SA TA BA f M w X a g D Lo w'):=λW hW=>by obtain⟨M9,h9,-,-⟩:=hW.sh;have:=Z8 E c n h9 (by omega);rw[hov]at this;exact this.mono λe w' h=>⟨h.1,hW.on E h.2⟩
 have SN:Hid (∀W,Cx SA TA BA f M w X a g D Lo W->ce W b1 0 (uw sp)/\ce W b1 1 (ui sl)/\ce W f.sb 5 (uw X.sp)/\ce W f.sb 6 (ui X.sl)):=λW hW=>⟨(SB.out _ _ _ hW).2.2.1,(SB.out _ _ _ hW).2.2.2,hW.nums.1,hW.nums.2.1⟩;have CL:Hid (∀W,Cx SA TA BA f M w X a g D Lo W->cpr 84 #[.agg #[uw sp,ui sl],.agg #[uw X.sp,ui X.sl]] W λr w'=>r=.returned (.bool (Clk.Ar sp sl X.sp X.sl))/\Cx SA TA BA f M w X a g D Lo w'):=λW hW=>(Clk.Oi sp sl X.sp X.sl W).mono λr w' h=>⟨h.1,hW.on E h.2⟩;have DN:Hid (∀W k,Cx SA TA BA f M w X a g D Lo W->Cx SA TA BA f M w X a g D Lo (W.drewN k)):=λW k hW=>hW.on E (Lgs.below_drewN (aj _ _) k);have DW:Hid (∀W,Cx SA TA BA f M w X a g D Lo W->Cx SA TA BA f M w X a g D Lo W.drew):=λW hW=>hW.drew E;have CN:Hid (∀W Lo,Cx SA TA BA f M w X a g D Lo W->cpr 144 #[pz f.sb,.agg #[iw 5,ui c,ui n,uw sp,ui sl,uw 0,ui 0,uw 0,ui 0,su,ub 0,.bool false,sy]] W λr w'=>r=.returned (iw (Az (La c n sp sl) X a D).1)/\Cx SA TA BA f M w (Az (La c n sp sl) X a D).2.1 a g (Az (La c n sp sl) X a D).2.2 Lo w'):=λW Lo hW=>hW.calls λM' hM=>by have:=Pq E (La c n sp sl) none 0 hM (by omega) hX.t (adh hc hs) (eu _) (WsIn.nil _ _);rw[aq2 hc hs]at this;exact this
 rw[<-hoz]at HL0;have HL:Hid _:=HL0;generalize Fz c n sp sl X a D=Y at*;generalize (Az (La c n sp sl) X a D)=N at*;generalize hlb:Clk.Ar sp sl X.sp X.sl=lb at*;clear hLo h ht hX hc hs E HL0 hlb hov hoz hox;obtain⟨n0,Xn,Dn⟩:=N;dsimp only at CN HL;obtain⟨W2,hW2⟩:=xj (((w.alloc (.cells #[ui c,ui n] 36)).alloc (.cells #[uw sp,ui sl] 38)).alloc (.cells (zC 0 0 0 0) 48));rw[hW2]at H0;obtain⟨c1,c2,-,-⟩:=SB.out _ _ _ H0.out;go_enter Tryz.func147,Tryz.ntmps147;go_wp2_with fail;simp only[<-hb1,<-hb2];clear hW2 hb1 hb2;refine(CW.out _ H0.out).mono ?_;rintro e w3 ⟨rfl,hq⟩;have H3:Hid _:=hq;clear hq CW c1 c2 H0;have H4:Hid (Cx SA TA BA f M w X a g D Lo (w3.alloc (.cells (inC ok ox) 155))):=ON.out _ _ _ _ H3.out (al _);go_upto_region 2 with fail
 obtain⟨W4,hW4⟩:=xj (w3.alloc (.cells (inC ok ox) 155));rw[hW4]at H4|-;clear hW4 H3;cases oz
 case true=>
  have HL2:Hid (Y=if n0≠0 then(Cb n0,Xn,Dn)else(G9 6,Xn,Dn)):=HL.out;clear HL CL
  go_quiet (fail)
  clear SN;have H5:Hid _:=DN.out _ nq H4.out;clear H4 DW;exact ax4
 case false=>
  go_region_held3 (λW=>ce W b1 0 (uw sp)/\ce W b1 1 (ui sl)/\ce W f.sb 5 (uw X.sp)/\ce W f.sb 6 (ui X.sl)) (first|exact SN.out _ H4.out|exact SN.out _ (DW.out _ H4.out)|exact SN.out _ H5.out) (first
   |(go_at_call 84;refine(CL.out _ (DW.out _ H4.out)).mono ?_;rintro e w5 ⟨rfl,hq⟩;have H5:Hid _:=hq;clear hq))
  rename_i hHeld;clear hHeld SN CL DW H4;cases lb
  case true=>
   have HE:Hid (Y=(G9 6,X,D)):=HL.out;clear CN HL;have K:=H5;exact re5
  case false=>
   have HL2:Hid (Y=if n0≠0 then(Cb n0,Xn,Dn)else(G9 6,Xn,Dn)):=HL.out;clear HL;exact ax4
def axc(E:Env SA TA BA)(q:Rq)(wa:Option Addr)(wc:Nat)(sa:Option Addr)(sc:Nat)(h:ShAt SA TA BA f M X a g D w)(ht:X.wt<8900)(hX:XOk X)(hq:RqOk q):
  cpr 67 #[pz f.sb,.agg (rqC q.k q wa wc sa sc)] w λe w'=>e=.returned (rpV (Nj q X a D).1 sy)/\ShTo SA TA BA f M w (Nj q X a D).2.1 a g (Nj q X a D).2.2 w':=by
 have HL0:Nj q X a D=match Cj q.c q.n X with
  |some r=>(r,X,D)
  |none=>(Fz q.c q.n q.sp q.sl X a D):=rfl
 obtain⟨b1,Lo,hb1,hLo,H0,SP,HR,ON,NW,CR,CS⟩:=V7 E h q.k q wa wc sa sc;have SB:Hid (∀(X:Sd) (D:Drm.Dr) W,Cx SA TA BA f M w X a g D Lo W->ce W w.heap.size 1 (ui q.c)/\ce W w.heap.size 2 (ui q.n)/\ce W w.heap.size 3 (uw q.sp)/\ce W w.heap.size 4 (ui q.sl)):=λX D W hW=>by subst hLo;exact⟨hW.has.cell tq1 rfl,hW.has.cell tq1 rfl,hW.has.cell tq1 rfl,hW.has.cell tq1 rfl⟩
 obtain⟨kr,kz,hkv,hkz,hkr⟩:=Nw (Cj q.c q.n X);have CK:Hid (∀W,Cx SA TA BA f M w X a g D Lo W->cpr 137 #[pz f.sb,.agg #[ui q.c,ui q.n]] W λe w'=>e=.returned (.tuple #[.agg (rpD kr none 0 0),.bool kz])/\Cx SA TA BA f M w X a g D Lo w'):=λW hW=>by obtain⟨M9,h9,-,-⟩:=hW.sh;have:=Vb E q.c q.n h9 (by omega) hq.c;rw[hkv]at this;exact this.mono λe w' h=>⟨h.1,hW.on E h.2⟩
 have CG:Hid (∀W Lo,Cx SA TA BA f M w X a g D Lo W->cpr 147 #[pz f.sb,.agg #[ui q.c,ui q.n],.agg #[uw q.sp,ui q.sl]] W λr w'=>r=.returned (rpV (Fz q.c q.n q.sp q.sl X a D).1 sy)/\Cx SA TA BA f M w (Fz q.c q.n q.sp q.sl X a D).2.1 a g (Fz q.c q.n q.sp q.sl X a D).2.2 Lo w'):=λW Lo hW=>hW.calls λM' hM=>ad5 E q.c q.n q.sp q.sl hM (by omega) hX hq.c hq.s;have HKz:Hid (kz=(Cj q.c q.n X).isSome/\∀x,Cj q.c q.n X=some x->kr=x):=⟨hkz,hkr⟩;have HL:Hid _:=HL0;generalize Nj q X a D=Y at*;generalize (Fz q.c q.n q.sp q.sl X a D)=G at*;clear hLo h ht hX hq E HL0 hkv hkz hkr;obtain⟨gr,Xg,Dg⟩:=G;dsimp only at CG HL;obtain⟨W2,hW2⟩:=xj ((w.alloc (.cells (rqC q.k q wa wc sa sc) 42)).alloc (.cells (zC 0 0 0 0) 48));rw[hW2]at H0;obtain⟨c1,c2,-⟩:=SB.out _ _ _ H0.out;go_enter Tryz.func67,Tryz.ntmps67;go_wp2_with fail;rw[<-hb1];clear hW2 hb1;refine(CK.out _ H0.out).mono ?_;rintro e w3 ⟨rfl,hq⟩;have H3:Hid _:=hq;clear hq CK c1 c2 H0;have hob:(w3.alloc (.cells (rpD kr none 0 0) 48)).heap[w3.heap.size]?=some (.cells (rpD kr none 0 0) 48 (0,0)):=ae w3 _;have H4:Hid (Cx SA TA BA f M w X a g D Lo (w3.alloc (.cells (rpD kr none 0 0) 48))):=ON.out _ _ _ _ H3.out (al _);obtain⟨W4,hW4⟩:=xj (w3.alloc (.cells (rpD kr none 0 0) 48));rw[hW4]at hob H4;cases kz
 case true=>
  exact ba3
 case false=>
  have hkn:Cj q.c q.n X=none:=by
   exact ba4
  rw[hkn]at HL;clear hob HKz hkn;have HE:Hid (Y=(gr,Xg,Dg)):=HL.out;obtain⟨c1,c2,c3,c4⟩:=SB.out _ _ _ H4.out;go_wp2_with fail;refine(CG.out _ _ H4.out).mono ?_;rintro e w5 ⟨rfl,hq⟩;have H5:Hid _:=hq;clear hq CG c1 c2 c3 c4 H4 hW4 H3;unfold rpV;have K:=H5;exact re5
def apr{a b p l:Int}(h:0<=a/\0<=b):Clk.maxL [(a,b),(p,l)]=Clk.maxF a b p l:=by
 have e:Clk.maxF 0 0 a b=(a,b):=by
  unfold Clk.maxF;split
  .rfl
  .rename_i h1;simp[Clk.Ar]at h1;have h2:a=0:=by omega
   have h3:b=0:=by omega
   rw[h2,h3]
 simp only[Clk.maxL,List.foldl_cons,List.foldl_nil,e]
def aua{p l:Int}(h:0<=p/\0<=l):0<=(Clk.Di p l).1/\0<=(Clk.Di p l).2.1:=by
 unfold Clk.Di;repeat' split
 all_goals exact⟨by simp;try omega,by simp;try omega⟩
def abt(ph:Int)(q:Rq)(X:Sd)(a:Int)(D:Drm.Dr){t1 t2 t3:Int}(ht:Clk.Di q.ap q.al=(t1,t2,t3)):Kw ph q X a D=match Cj q.c q.n X with
  |some r=>(r,X,D)
  |none=>match ownF q.c q.n X with
   |none=>(Fz q.c q.n q.sp q.sl X a D)
   |some x=>if Jd x.2 X=false then(Cb 1,X,D)
    else if Clk.afq x.2.sp ph then(Fz q.c q.n x.2.sp x.2.sl X a D)
    else if q.ap==0&&q.al==0 then(Fv 8 x.2.mp x.2.ml,X,D)
    else if t3≠0 then(Cb t3,X,D)
    else if(Ah ph q.ap q.al X a D).1≠0 then(Cb (Ah ph q.ap q.al X a D).1,(Ah ph q.ap q.al X a D).2)
    else(Fv 8 (Clk.maxF x.2.mp x.2.ml t1 t2).1 (Clk.maxF x.2.mp x.2.ml t1 t2).2,{(Ah ph q.ap q.al X a D).2.1 with T:=Lat.rseF q.c q.n t1 t2 (Ah ph q.ap q.al X a D).2.1.T},(Ah ph q.ap q.al X a D).2.2):=by
 unfold Kw;rw[ht];rfl
def ax8(E:Env SA TA BA)(ph:Int)(q:Rq)(wa:Option Addr)(wc:Nat)(sa:Option Addr)(sc:Nat)(h:ShAt SA TA BA f M X a g D w)(ht:X.wt<8900)(hX:XOk X)(hph:0<=ph)(hph2:ph<=18446744073709551615)(hq:RqOk q):
  cpr 68 #[pz f.sb,uw ph,.agg (rqC q.k q wa wc sa sc)] w λe w'=>e=.returned (rpV (Kw ph q X a D).1 sy)/\ShTo SA TA BA f M w (Kw ph q X a D).2.1 a g (Kw ph q X a D).2.2 w':=by
 obtain⟨t1,t2,t3,hti⟩:∃t1 t2 t3,Clk.Di q.ap q.al=(t1,t2,t3):=⟨_,_,_,rfl⟩;have HL0:=abt ph q X a D hti;have htn:0<=t1/\0<=t2:=by have:=aua (p:=q.ap) (l:=q.al) ⟨hq.a.1.1,hq.a.2.1⟩;rw[hti]at this;exact this
 obtain⟨b1,Lo,hb1,hLo,H0,SP,HR,ON,NW,CR,CS⟩:=V7 E h q.k q wa wc sa sc;have SB:Hid (∀(X:Sd) (D:Drm.Dr) W,Cx SA TA BA f M w X a g D Lo W->ce W w.heap.size 1 (ui q.c)/\ce W w.heap.size 2 (ui q.n)/\ce W w.heap.size 3 (uw q.sp)/\ce W w.heap.size 4 (ui q.sl)/\ce W w.heap.size 5 (uw q.ap)/\ce W w.heap.size 6 (ui q.al)):=λX D W hW=>by subst hLo;exact⟨hW.has.cell tq1 rfl,hW.has.cell tq1 rfl,hW.has.cell tq1 rfl,hW.has.cell tq1 rfl,hW.has.cell tq1 rfl,hW.has.cell tq1 rfl⟩
 obtain⟨kr,kz,hkv,hkz,hkr⟩:=Nw (Cj q.c q.n X);have CK:Hid (∀W,Cx SA TA BA f M w X a g D Lo W->cpr 137 #[pz f.sb,.agg #[ui q.c,ui q.n]] W λe w'=>e=.returned (.tuple #[.agg (rpD kr none 0 0),.bool kz])/\Cx SA TA BA f M w X a g D Lo w'):=λW hW=>by obtain⟨M9,h9,-,-⟩:=hW.sh;have:=Vb E q.c q.n h9 (by omega) hq.c;rw[hkv]at this;exact this.mono λe w' h=>⟨h.1,hW.on E h.2⟩
 obtain⟨⟨ok,ox⟩,oz,hov,hoz,hox⟩:=Oz (ownF q.c q.n X);have CW:Hid (∀W,Cx SA TA BA f M w X a g D Lo W->cpr 138 #[pz f.sb,.agg #[ui q.c,ui q.n]] W λe w'=>e=.returned (.tuple #[.agg (inC ok ox),.bool oz])/\Cx SA TA BA f M w X a g D Lo w'):=λW hW=>by obtain⟨M9,h9,-,-⟩:=hW.sh;have:=Z8 E q.c q.n h9 (by omega);rw[hov]at this;exact this.mono λe w' h=>⟨h.1,hW.on E h.2⟩
 have hIm:∀x,ownF q.c q.n X=some x->Ts x.2.sp x.2.sl/\Ts x.2.mp x.2.ml:=λx hx=>hX.i x (ajk hx);have CP:Hid (∀W Lo,Cx SA TA BA f M w X a g D Lo W->cpr 145 #[pz f.sb,.agg (inC ok ox)] W λr w'=>r=.returned (.bool (Jd ox X))/\Cx SA TA BA f M w X a g D Lo w'):=λW Lo hW=>by obtain⟨M9,h9,-,-⟩:=hW.sh;exact(ade E (ok,ox) h9 (by omega)).mono λr w' h=>⟨h.1,hW.on E h.2⟩
 have CG:Hid (∀W Lo,Cx SA TA BA f M w X a g D Lo W->cpr 147 #[pz f.sb,.agg #[ui q.c,ui q.n],.agg #[uw q.sp,ui q.sl]] W λr w'=>r=.returned (rpV (Fz q.c q.n q.sp q.sl X a D).1 sy)/\Cx SA TA BA f M w (Fz q.c q.n q.sp q.sl X a D).2.1 a g (Fz q.c q.n q.sp q.sl X a D).2.2 Lo w'):=λW Lo hW=>hW.calls λM' hM=>ad5 E q.c q.n q.sp q.sl hM (by omega) hX hq.c hq.s;have CG2:Hid (Ts ox.sp ox.sl->∀W Lo,Cx SA TA BA f M w X a g D Lo W->cpr 147 #[pz f.sb,.agg #[ui q.c,ui q.n],.agg #[uw ox.sp,ui ox.sl]] W λr w'=>r=.returned (rpV (Fz q.c q.n ox.sp ox.sl X a D).1 sy)/\Cx SA TA BA f M w (Fz q.c q.n ox.sp ox.sl X a D).2.1 a g (Fz q.c q.n ox.sp ox.sl X a D).2.2 Lo w'):=λho W Lo hW=>hW.calls λM' hM=>ad5 E q.c q.n ox.sp ox.sl hM (by omega) hX hq.c ho;have CT:Hid (Ts ox.sp ox.sl->∀W,cpr 148 #[.agg #[uw ox.sp,ui ox.sl],.agg #[uw ph,ui 0]] W λr w'=>r=.returned (.bool (Clk.afq ox.sp ph))/\Bw W w'):=λho W=>Clk.ayv ox.sp ox.sl ph 0 W ho.1.1 hph hph2;have CX2:Hid (∀W,cpr 57 #[.agg #[uw q.ap,ui q.al]] W λr w'=>r=.returned (.tuple #[.agg #[uw t1,ui t2],iw t3])/\Bw W w'):=λW=>by have:=Clk.ahp q.ap q.al W hq.a.1.1 hq.a.2.1;rw[hti]at this;exact this
 have hhe:=L8 (f:=ph) (a:=a) (D:=D) hq.a hX;have CH:Hid (∀W Lo,Cx SA TA BA f M w X a g D Lo W->cpr 141 #[pz f.sb,uw ph,.agg #[uw q.ap,ui q.al]] W λr w'=>r=.returned (iw (Ah ph q.ap q.al X a D).1)/\Cx SA TA BA f M w (Ah ph q.ap q.al X a D).2.1 a g (Ah ph q.ap q.al X a D).2.2 Lo w'):=λW Lo hW=>hW.calls λM' hM=>Vj E ph q.ap q.al hM (by omega) hX hph hq.a;obtain⟨rb,hrb⟩:=xj (Lat.Wj q.c q.n t1 t2 (Ah ph q.ap q.al X a D).2.1.T);have CRs:Hid (∀W Lo,Cx SA TA BA f M w (Ah ph q.ap q.al X a D).2.1 a g (Ah ph q.ap q.al X a D).2.2 Lo W->cpr 59 #[pz f.la,.agg #[ui q.c,ui q.n],.agg #[uw t1,ui t2]] W λr w'=>r=.returned (.bool rb)/\Cx SA TA BA f M w {(Ah ph q.ap q.al X a D).2.1 with T:=Lat.rseF q.c q.n t1 t2 (Ah ph q.ap q.al X a D).2.1.T} a g (Ah ph q.ap q.al X a D).2.2 Lo w'):=λW Lo hW=>hW.calls λM' hM=>by have:=aez E q.c q.n t1 t2 hM (akq (by rw[hhe.1.wt];omega)) htn;rw[hrb]at this;exact this
 have CM:Hid (Ts ox.mp ox.ml->∀(X:Sd) (D:Drm.Dr) W Lo,Cx SA TA BA f M w X a g D Lo W->cpr 132 #[.slice (some ⟨W.heap.size,0,none⟩) 2 2] (W.alloc (.cells #[uw ox.mp,ui ox.ml,uw t1,ui t2] 38)) λr w'=>r=.returned (.agg #[uw (Clk.maxF ox.mp ox.ml t1 t2).1,ui (Clk.maxF ox.mp ox.ml t1 t2).2])/\Cx SA TA BA f M w X a g D Lo w'):=λho X D W Lo hW=>by
  have hn:=ae W (.cells #[uw ox.mp,ui ox.ml,uw t1,ui t2] 38);have:=Clk.ab1 W.heap.size (W.alloc (.cells #[uw ox.mp,ui ox.ml,uw t1,ui t2] 38)) (by simp) 2 [(ox.mp,ox.ml),(t1,t2)] rfl (by omega) (λi hi=>by
   rcases i with _|_|i
   .exact⟨Drm.Ae (k:=0) hn rfl,Drm.Ae (k:=1) hn rfl⟩
   .exact⟨Drm.Ae (k:=2) hn rfl,Drm.Ae (k:=3) hn rfl⟩
   .omega)
  rw[apr ⟨ho.1.1,ho.2.1⟩]at this;exact this.mono λr w' h=>⟨h.1,hW.on E ((al _).trans (h.2.mono (by simp)))⟩
 have LS:Hid (∀(X:Sd) (D:Drm.Dr) W p,Cx SA TA BA f M w X a g D (p::Lo) W->Cx SA TA BA f M w X a g D Lo W):=λX D W p hW=>hW.less (λx hx=>.tail _ hx);have LS2:Hid (∀(X:Sd) (D:Drm.Dr) W p p',Cx SA TA BA f M w X a g D (p::p'::Lo) W->Cx SA TA BA f M w X a g D Lo W):=λX D W p p' hW=>hW.less (λx hx=>.tail _ (.tail _ hx));have ONL:Hid (∀(X:Sd) (D:Drm.Dr) W W' Lo,Cx SA TA BA f M w X a g D Lo W->Bz W W'->Cx SA TA BA f M w X a g D Lo W'):=λX D W W' Lo hW hb=>hW.on E hb;have NI:Hid (∀(X:Sd) (D:Drm.Dr) W cs,Cx SA TA BA f M w X a g D Lo W->Cx SA TA BA f M w X a g D ((W.heap.size,.cells cs 155 (0,0))::Lo) (W.alloc (.cells cs 155 (0,0)))):=λX D W cs hW=>hW.new E cs 155 (by decide);have NT:Hid (∀(X:Sd) (D:Drm.Dr) W Lo cs,Cx SA TA BA f M w X a g D Lo W->Cx SA TA BA f M w X a g D ((W.heap.size,.cells cs 38 (0,0))::Lo) (W.alloc (.cells cs 38 (0,0)))):=λX D W Lo cs hW=>hW.new E cs 38 (by decide);have SI:Hid (∀(X:Sd) (D:Drm.Dr) W bi,Cx SA TA BA f M w X a g D ((bi,.cells (inC ok ox) 155 (0,0))::Lo) W->W.heap[bi]?=some (.cells (inC ok ox) 155 (0,0))):=λX D W bi hW=>hW.has _ tq0;have SI2:Hid (∀(X:Sd) (D:Drm.Dr) W bi bl,Cx SA TA BA f M w X a g D ((bl,.cells #[uw t1,ui t2] 38 (0,0))::(bi,.cells (inC ok ox) 155 (0,0))::Lo) W->W.heap[bi]?=some (.cells (inC ok ox) 155 (0,0))):=λX D W bi bl hW=>hW.has _ tq1;have SH:Hid (∀(X:Sd) (D:Drm.Dr) bi bl W,Cx SA TA BA f M w X a g D ((bl,.cells #[uw t1,ui t2] 38 (0,0))::(bi,.cells (inC ok ox) 155 (0,0))::Lo) W->ce W f.sb 3 (pz f.la)/\ce W w.heap.size 1 (ui q.c)/\ce W w.heap.size 2 (ui q.n)/\ce W bl 0 (uw t1)/\ce W bl 1 (ui t2)):=λX D bi bl W hW=>⟨hW.ptrs.2.2.2.1,(SB.out _ _ _ (LS2.out _ _ _ _ _ hW)).1,(SB.out _ _ _ (LS2.out _ _ _ _ _ hW)).2.1,hW.has.cell tq0 rfl,hW.has.cell tq0 rfl⟩;have DW:Hid (∀(X:Sd) (D:Drm.Dr) W Lo,Cx SA TA BA f M w X a g D Lo W->Cx SA TA BA f M w X a g D Lo W.drew):=λX D W Lo hW=>hW.drew E;have HKz:Hid (kz=(Cj q.c q.n X).isSome/\∀x,Cj q.c q.n X=some x->kr=x):=⟨hkz,hkr⟩;have HOz:Hid (oz=(ownF q.c q.n X).isSome/\∀x,ownF q.c q.n X=some x->(ok,ox)=x):=⟨hoz,hox⟩;have HIm:Hid (∀x,ownF q.c q.n X=some x->Ts x.2.sp x.2.sl/\Ts x.2.mp x.2.ml):=hIm;have HL:Hid _:=HL0;have eq32:∀W,(binOp .eql 38 (.agg #[uw q.ap,ui q.al]) (.agg #[uw 0,ui 0])).run Tryz.prog W=.ok (.bool (q.ap==0&&q.al==0)) W:=λW=>Clk.ak7 _ _ _ _ W;generalize Kw ph q X a D=Y at*;clear hLo h ht hX hph hph2 hq E HL0 hhe hkv hkz hkr hov hoz hox hrb htn hti hIm;obtain⟨W2,hW2⟩:=xj ((w.alloc (.cells (rqC q.k q wa wc sa sc) 42)).alloc (.cells (zC 0 0 0 0) 48));rw[hW2]at H0;obtain⟨c1,c2,-⟩:=SB.out _ _ _ H0.out;go_enter Tryz.func68,Tryz.ntmps68;go_wp2_with fail;rw[<-hb1];clear hW2 hb1;refine(CK.out _ H0.out).mono ?_;rintro e w3 ⟨rfl,hq⟩;have H3:Hid _:=hq;clear hq CK c1 c2 H0;have hob:(w3.alloc (.cells (rpD kr none 0 0) 48)).heap[w3.heap.size]?=some (.cells (rpD kr none 0 0) 48 (0,0)):=ae w3 _;have H4:Hid (Cx SA TA BA f M w X a g D Lo (w3.alloc (.cells (rpD kr none 0 0) 48))):=ON.out _ _ _ _ H3.out (al _);obtain⟨W4,hW4⟩:=xj (w3.alloc (.cells (rpD kr none 0 0) 48));rw[hW4]at hob H4;cases kz
 case true=>
  exact ba3
 case false=>
  have hkn:Cj q.c q.n X=none:=by
   exact ba4
  rw[hkn]at HL;clear hob HKz hkn;obtain⟨c1,c2,-⟩:=SB.out _ _ _ H4.out;go_wp2_with fail;refine(CW.out _ H4.out).mono ?_;rintro e w5 ⟨rfl,hq⟩;have H5:Hid _:=hq;clear hq CW c1 c2 H4 hW4 H3;have H6:Hid _:=NI.out _ _ _ (inC ok ox) H5.out;obtain⟨W6,hW6⟩:=xj (w5.alloc (.cells (inC ok ox) 155));rw[hW6]at H6;obtain⟨bi,hbi⟩:=xj w5.heap.size;rw[hbi]at H6;cases oz
  case false=>
   have hkn:ownF q.c q.n X=none:=by
    exact azq
   rw[hkn]at HL;dsimp only at HL;generalize (Fz q.c q.n q.sp q.sl X a D)=G at*;obtain⟨gr,Xg,Dg⟩:=G;dsimp only at CG HL;have HE:Hid (Y=(gr,Xg,Dg)):=HL.out;have H6b:Hid _:=LS.out _ _ _ _ H6.out;clear CH CP CRs CM CG2 CT CX2 hkn;obtain⟨c1,c2,c3,c4,-⟩:=SB.out _ _ _ H6b.out;go_wp2_with fail;refine(CG.out _ _ H6b.out).mono ?_;rintro e wg ⟨rfl,hq⟩;have HG:Hid _:=hq;clear hq;unfold rpV;have K:=HG;exact re5
  case true=>
   obtain⟨hkn,hts⟩:ownF q.c q.n X=some (ok,ox)/\(Ts ox.sp ox.sl/\Ts ox.mp ox.ml):=by
    cases hkn:ownF q.c q.n X with
    |none=>have:=HOz.out.1;rw[hkn]at this;cases this
    |some r=>
     have h1:=HIm.out r hkn;rw[<-HOz.out.2 r hkn]at h1;exact⟨by rw[HOz.out.2 r hkn],h1⟩
   rw[hkn]at HL;have CG3:Hid _:=CG2.out hts.1;have CT3:Hid _:=CT.out hts.1;have CM3:Hid _:=CM.out hts.2;clear hkn hts CG CG2 CT CM HOz HIm;dsimp only at HL;generalize (Fz q.c q.n ox.sp ox.sl X a D)=G at*;generalize (Ah ph q.ap q.al X a D)=H at*;generalize Clk.maxF ox.mp ox.ml t1 t2=mm at*;generalize Clk.afq ox.sp ph=lt at*;generalize Jd ox X=pr at*;generalize (q.ap==0&&q.al==0)=zz at*;obtain⟨gr,Xg,Dg⟩:=G;obtain⟨h0,Xh,Dh⟩:=H;obtain⟨m1,m2⟩:=mm;dsimp only at CH CG3 CM3 CRs HL;generalize {Xh with T:=Lat.rseF q.c q.n t1 t2 Xh.T}=Xr at*;obtain⟨i0,i1,i2,i3,i4,i5,i6,i7,i8,i9,-⟩:=Ic (SI.out _ _ _ _ H6.out);go_wp2_with fail;clear hW6 hbi;refine(CP.out _ _ H6.out).mono ?_;rintro e w7 ⟨rfl,hq⟩;have H7:Hid _:=hq;clear hq CP i0 i1 i2 i3 i4 i5 i6 i7 i8 i9 H6 H5;cases pr
   case false=>
    have HE:Hid (Y=(Cb 1,X,D)):=HL.out;exact ax6
   case true=>
    obtain⟨-,-,i2,i3,-⟩:=Ic (SI.out _ _ _ _ H7.out);go_wp2_with fail;refine(CT3.out _).mono ?_;rintro e w8 ⟨rfl,hb⟩;have H8:Hid _:=ONL.out _ _ _ _ _ H7.out hb;clear hb CT3 i2 i3 H7;cases lt
    case true=>
     have HE:Hid (Y=(gr,Xg,Dg)):=HL.out;have H8b:Hid _:=LS.out _ _ _ _ H8.out;obtain⟨-,-,i2,i3,-⟩:=Ic (SI.out _ _ _ _ H8.out);obtain⟨c1,c2,-⟩:=SB.out _ _ _ H8b.out;go_wp2_with fail;refine(CG3.out _ _ H8b.out).mono ?_;rintro e wg ⟨rfl,hq⟩;have HG:Hid _:=hq;clear hq;unfold rpV;have K:=HG;exact re5
    case false=>
     obtain⟨-,-,-,-,c5,c6⟩:=SB.out _ _ _ (LS.out _ _ _ _ H8.out);obtain⟨-,-,-,-,i4,i5,-⟩:=Ic (SI.out _ _ _ _ H8.out);cases zz
     case true=>
      have HE:Hid (Y=(Fv 8 ox.mp ox.ml,X,D)):=HL.out;have H8b:Hid _:=LS.out _ _ _ _ H8.out;exact bbe
     case false=>
      go_wp2_with fail;refine(CX2.out _).mono ?_;rintro e w9 ⟨rfl,hb⟩;have H9:Hid _:=ONL.out _ _ _ _ _ H8.out hb;clear hb CX2 c5 c6 i4 i5 eq32 H8;have H10:Hid _:=NT.out _ _ _ _ #[uw t1,ui t2] H9.out;go_upto_region 14 with fail
      obtain⟨W10,hW10⟩:=xj (w9.alloc (.cells #[uw t1,ui t2] 38));obtain⟨bl,hbl⟩:=xj w9.heap.size;rw[hW10,hbl]at H10;rw[hW10,hbl];clear hW10 hbl H9;by_cases hh:t3=0
      case neg=>
       have hh':(t3 != 0)=true:=by simp[hh]
       have HE:Hid (Y=(Cb t3,X,D)):=by show _=_;rw[HL.out];simp[hh]
       have H10b:Hid _:=LS2.out _ _ _ _ _ H10.out;exact bbd
      case pos=>
       subst hh;obtain⟨-,-,-,-,c5,c6⟩:=SB.out _ _ _ (LS2.out _ _ _ _ _ H10.out);go_wp2_with fail;refine(CH.out _ _ H10.out).mono ?_;rintro e w11 ⟨rfl,hq⟩;have H11:Hid _:=hq;clear hq CH c5 c6 H10;by_cases hh:h0=0
       case neg=>
        have hh':(h0 != 0)=true:=by simp[hh]
        have HE:Hid (Y=(Cb h0,Xh,Dh)):=by show _=_;rw[HL.out];simp[hh]
        have H11b:Hid _:=LS2.out _ _ _ _ _ H11.out;clear hh;go_wp2_with fail;refine(CR.out _ _).mono ?_;rintro e w12 ⟨rfl,hb⟩;have H12:Hid _:=ON.out _ _ _ _ H11b.out hb;clear hb;have K:=H12;exact re5
       case pos=>
        subst hh;have HE:Hid (Y=(Fv 8 m1 m2,Xr,Dh)):=by show _=_;rw[HL.out];simp
        clear HL;go_wp2_with fail;go_region_held3 (λW=>ce W f.sb 3 (pz f.la)/\ce W w.heap.size 1 (ui q.c)/\ce W w.heap.size 2 (ui q.n)/\ce W bl 0 (uw t1)/\ce W bl 1 (ui t2)) (first|exact SH.out _ _ _ _ _ H11.out|exact SH.out _ _ _ _ _ (DW.out _ _ _ _ H11.out)|exact SH.out _ _ _ _ _ H12.out) (first
         |(go_at_call 59;refine(CRs.out _ _ (DW.out _ _ _ _ H11.out)).mono ?_;rintro e w12 ⟨rfl,hq⟩;have H12:Hid _:=hq;clear hq))
        rename_i hHeld;clear hHeld CRs DW H11;obtain⟨-,-,-,k0,k1⟩:=SH.out _ _ _ _ _ H12.out;obtain⟨-,-,-,-,i4,i5,-⟩:=Ic (SI2.out _ _ _ _ _ H12.out);go_wp2_with fail;refine(CM3.out _ _ _ _ H12.out).mono ?_;rintro e w13 ⟨rfl,hq⟩;have H13:Hid _:=LS2.out _ _ _ _ _ hq;clear hq CM3 k0 k1 i4 i5 H12;go_wp2_with fail;refine(CS.out _ _ _ _).mono ?_;rintro e w14 ⟨rfl,hb⟩;have H14:Hid _:=ON.out _ _ _ _ H13.out hb;clear hb;have K:=H14;exact re5
def TOwn(base:Nat)(v:Value)(L:List (Int×Int))(w:World):Prop:=w.ownsRow base 36 2 v L.length (rowC Lat.txc L)
def TAt(B:Nat)(v:Value)(L:List (Int×Int))(w:World):Prop:=RwAt B 2 v L.length (rowC Lat.txc L) w
def aa0{base:Nat}{v:Value}{L:List (Int×Int)}{a w w':World}(hb:Below base a w)(hs:base<=w.heap.size)(hI:TOwn base v L w)(hg:w.grownBy w' v.ownBlock):Below base a w':=
 hb.grown hg hs λk hk=>(jm hI k hk).1
def Vy{ops:Array Oper}{rest:List Oper}{o:Oper}{a:Act}{Q:Exit->Act->World->Prop}{w:World}(hw:Region.wanted o (yielded ops a.tmps)=true)(s x:Operand)(ho:o.op=.call {callee:=.builtin .append,args:=#[s,x],argTypes:=#[40,40]})(base B:Nat)(L X:List (Int×Int))(v vx:Value)(hs:a.eval s=v)(hx:a.eval x=vx)(hI:TOwn base v L w)(hX:TAt B vx X w)(hB:base<=w.heap.size)(hl:L.length+X.length<=1048576)(h:∀v' w',TOwn base v' (L++X) w'->w.grownBy w' v.ownBlock->wpList Tryz.prog ops Q rest (a.put o.dst v') w'):wpList Tryz.prog ops Q (o::rest) a w:=by obtain⟨i0,hin0,hi0,hi1,hi2⟩:=qc info30;refine Ea (H:=⟨hI,hX,O7 Lat.txc (λx u hu=>by simp[Lat.txc]at hu;rcases hu with rfl|rfl<;>rfl) _,hB,hl⟩) Tryz.underlying40 hin0 hi0 hi1 hi2 rfl (by decide) (by decide) s x ho hw hs hx ?_;intro v' w' h1 h2 _;refine h v' w' ?_ h2;unfold TOwn;rw[Ku,af];exact h1
def au2(n:Nat)(w:World)(hn:n<=1048576):
  cpr 230 #[sy,iw n] w λe w'=>∃v',e=.returned v'/\TOwn w.heap.size v' [] w'/\Bw w w':=by
 obtain⟨i0,hi,hz0,hz1,hz2⟩:=qc info30;by_cases h0:n=0
 .subst h0;go_enter Tryz.func230,Tryz.ntmps230;go_wp2;go_ret;exact⟨_,rfl,Lat.Ip _ _ _ _,aj _ _⟩
 .have hrz:=λty=>Lib.run_append_grow_zeros (P:=Tryz.prog) w 40 3 ty 36 i0 _ .i64 .i64 Tryz.underlying40 Tryz.underlying3 hi hz0 none 0 0 [] (run_firstCells_none w.drew i0.size 0 0 0) n (by omega) (by rw[hz1];decide) (by omega) (by omega) (by rw[hz2];omega) (by rw[hz2];exact growslice_fits (by omega) (by omega));have hG:=grownCap_ge w (0+n) 0 36;have hG2:=grownCap_le_maxLen w (0+n) 0 36 (by unfold maxLen;omega);simp only[ni]at hrz hG hG2;obtain⟨G,hGe⟩:=xj (grownCap w n 0 36);rw[hGe]at hrz hG hG2;obtain⟨cur,hcur⟩:∃cur,cur=(([]:List Value).toArray++Builtin.zeroCells (Value.agg #[ui 0,ui 0]).cells n++Builtin.zeroCells (Value.agg #[ui 0,ui 0]).cells (G-n)):=⟨_,rfl⟩;rw[<-hcur]at hrz;have HS:Hid (cur.size=G*2):=by show _=_;rw[hcur];simp only[Array.size_append,uu,size_zeroCells,o9];show 0+n*2+(G-n)*2=G*2;omega
  have HG:Hid (G<=maxLen):=hG2;have h1:¬((n:Int)<0):=by omega
  have h2:(0:Int)<n:=by omega
  clear hcur hGe hi hz0 hz1 hz2 hG2;go_enter Tryz.func230,Tryz.ntmps230;go_wp2_with (at_builtin;refine Lib.wpList_append_run _ rfl _ _ _ _ rfl _ _ rfl rfl _ _ (hrz _) ?_);go_ret;refine⟨_,rfl,⟨by simp[rowC],.inr ⟨w.heap.size,G,cur,rfl,ai _,ae w.drew _,eu _,HG.out,HS.out,by simp[rowC]⟩⟩,?_⟩;exact⟨rfl,rfl,rfl,by simp,λk hk=>heap_alloc_old w.drew _ hk⟩
def dz:Value×List (Int×Int):=(sy,[])
def cat:List (Value×List (Int×Int))->List (Int×Int)
 |[]=>[]
 |x::r=>x.2++cat r
def aax(l:List (Value×List (Int×Int)))(x:Value×List (Int×Int)):cat (l++[x])=cat l++x.2:=by
 induction l with
 |nil=>simp[cat]
 |cons a l ih=>simp[cat,ih]
def Rk{LS:List (Value×List (Int×Int))}{k:Nat}(h:k<LS.length):cat (LS.take (k+1))=cat (LS.take k)++(LS.getD k dz).2:=by rw[jk h,aax];simp[List.getD,h]
def Ul(LS:List (Value×List (Int×Int)))(k:Nat):(cat (LS.take k)).length<=(cat LS).length:=by
 induction LS generalizing k with
 |nil=>simp[cat]
 |cons a l ih=>
  cases k with
  |zero=>simp[cat]
  |succ k=>
   have:=ih k;simp only[ou,cat,af];omega
def amr(B sb:Nat)(LS:List (Value×List (Int×Int)))(w:World)(hc:∀k,k<LS.length->w.cell? ⟨sb,k,none⟩=some (LS.getD k dz).1)(hv:∀k,k<LS.length->TAt B (LS.getD k dz).1 (LS.getD k dz).2 w)
  (hsb:sb<w.heap.size) (hB:B<=w.heap.size) (hl:(cat LS).length<=1048576) (hn:LS.length<=1000):
  cpr 189 #[.slice (some ⟨sb,0,none⟩) LS.length LS.length] w λe w'=>∃v',e=.returned v'/\TAt w'.heap.size v' (cat LS) w'/\Bw w w':=by
 have HC:Hid _:=hc;have HV:Hid _:=hv;have HSb:Hid _:=hsb;have HB:Hid _:=hB;have HL:Hid _:=hl;clear hc hv hsb hB hl;go_enter Tryz.func189,Tryz.ntmps189;go_wp2_with fail;go_loopw [3,11] (λs i wr=>∃k:Nat,k<=LS.length/\i=iw k/\s=iw (cat (LS.take k)).length/\w=wr) (λ_ i _=>LS.length-(intOf i).toNat)
 case atStart=>exact⟨0,eu _,rfl,by simp[cat],rfl⟩
 case round=>
  obtain⟨k,hk,rfl,rfl,rfl⟩:=hrel;by_cases hkl:k<LS.length
  .have c0:=HC.out k hkl;obtain⟨ao,cap,hvk,-,hlc,hcm,-⟩:=HV.out k hkl;exact au0
  .have hkl':¬(k:Int)<LS.length:=by omega
   have HK:Hid (cat (LS.take k)=cat LS):=by rw[ay (by omega)];exact rfl
   rw[HK.out];clear HK;go_wp2_with fail;refine(au2 _ _ HL.out).mono ?_;rintro e w1 ⟨v1,rfl,ho1,hb1⟩;have HO:Hid _:=ho1;have H1:Hid _:=hb1;clear ho1 hb1;go_wp2_with fail;go_loopw [6,27] (λs i wr=>∃k:Nat,k<=LS.length/\i=iw k/\TOwn w.heap.size s (cat (LS.take k)) wr/\Bw w wr) (λ_ i _=>LS.length-(intOf i).toNat)
   case atStart=>exact⟨0,eu _,rfl,HO.out,H1.out⟩
   case round=>
    obtain⟨k,hk,rfl,hown,hbr⟩:=hrel;have HOk:Hid _:=hown;have HBr:Hid _:=hbr;clear hown hbr;by_cases hkl:k<LS.length
    .have c0:wr.cell? ⟨sb,k,none⟩=some (LS.getD k dz).1:=by rw[HBr.out.cell (p:=⟨_,_,none⟩) HSb.out];exact HC.out k hkl
     have HVk:Hid (TAt w.heap.size (LS.getD k dz).1 (LS.getD k dz).2 wr):=RwAt.on (RwAt.le (HV.out k hkl) HB.out) HBr.out;have HT:Hid _:=Rk hkl;have HLe:Hid ((cat (LS.take k)).length+(LS.getD k dz).2.length<=1048576):=by have h1:=Ul LS (k+1);rw[HT.out,af]at h1;exact ak h1 HL.out
     generalize (LS.getD k dz).1=vk at*;generalize (LS.getD k dz).2=Xk at*;have hkl':(k:Int)<LS.length:=by omega
     go_wp2_with (at_builtin;refine Vy rfl _ _ rfl w.heap.size w.heap.size (cat (LS.take k)) Xk _ _ rfl rfl HOk.out HVk.out HBr.out.size HLe.out ?_);intro v' w2 hown hg;have HO2:Hid (TOwn w.heap.size v' (cat (LS.take (k+1))) w2):=by rw[HT.out];exact hown
     have HB2:Hid (Bw w w2):=aa0 HBr.out HBr.out.size HOk.out hg;exact bbl
    .have hkl':¬(k:Int)<LS.length:=by omega
     go_wp2;go_ret;have hf:=HOk.out;rw[ay (by omega)]at hf;exact⟨_,rfl,Bl hf,HBr.out⟩
def SkIn.kept{L:List (Int×Int)}{ao:Option Addr}{cp:Nat}(h:TAt w.heap.size (.slice ao L.length cp) L w)(hn:0<L.length->∀k,(Value.slice ao L.length cp).ownBlock=some k->¬M k)(hk:Kept M w W):TAt W.heap.size (.slice ao L.length cp) L W:=by
 rcases oq L.length with e|e
 .have:L=[]:=lm e;subst this;obtain⟨ao',cap',e1,e2,e3,e4,e5⟩:=h;refine⟨ao',cap',e1,e2,e3,e4,λh0=>?_⟩;obtain⟨b,off,rfl,-,-⟩:=e5 h0;exact⟨b,off,rfl,λh=>absurd h (by simp),λj u hj=>by simp[rowC]at hj⟩
 .exact RwAt.le (J5 h hk (hn e)) hk.size
def akb(E:Env SA TA BA)(ph:Int)(q:Rq)(lo hi:Bi)(wa:Option Addr)(wc:Nat)(sa:Option Addr)(sc:Nat)(h:ShAt SA TA BA f M X a g D w)(ht:X.wt<8900)(hX:XOk X)(hph:0<=ph)(hq:RqOk q)(hsk:q.sk.length<=16)(hsi:TAt w.heap.size (.slice sa q.sk.length sc) q.sk w)(hsn:0<q.sk.length->∀k,(Value.slice sa q.sk.length sc).ownBlock=some k->¬M k):
  cpr 134 #[pz f.sb,uw ph,.agg (rqC q.k q wa wc sa sc),sd lo,sd hi] w λe w'=>e=.returned (knV (Cm ph q lo hi X a D).1)/\ShTo SA TA BA f M w (Cm ph q lo hi X a D).2.1 a g (Cm ph q lo hi X a D).2.2 w':=by
 have HL0:Cm ph q lo hi X a D=if Clk.Ar q.sp q.sl X.sp X.sl then(some (Cb 30),X,D)else if(Ah ph q.sp q.sl X a D).1≠0 then(some (Cb (Ah ph q.sp q.sl X a D).1),(Ah ph q.sp q.sl X a D).2)else((Lat.Oj lo hi q.sp q.sl ((q.c,q.n)::q.sk) (Ah ph q.sp q.sl X a D).2.1.T).map (λx=>Tz x.2),(Ah ph q.sp q.sl X a D).2):=rfl;obtain⟨b1,Lo,hb1,hLo,H0,SP,HR,ON,NW,CR,CS⟩:=V7 E h q.k q wa wc sa sc;have SB:Hid (∀(X:Sd) (D:Drm.Dr) W,Cx SA TA BA f M w X a g D Lo W->ce W w.heap.size 1 (ui q.c)/\ce W w.heap.size 2 (ui q.n)/\ce W w.heap.size 3 (uw q.sp)/\ce W w.heap.size 4 (ui q.sl)/\ce W w.heap.size 12 (.slice sa q.sk.length sc)):=λX D W hW=>by subst hLo;exact⟨hW.has.cell tq1 rfl,hW.has.cell tq1 rfl,hW.has.cell tq1 rfl,hW.has.cell tq1 rfl,hW.has.cell tq1 rfl⟩
 have SN:Hid (∀W,Cx SA TA BA f M w X a g D Lo W->ce W w.heap.size 3 (uw q.sp)/\ce W w.heap.size 4 (ui q.sl)/\ce W f.sb 5 (uw X.sp)/\ce W f.sb 6 (ui X.sl)):=λW hW=>⟨(SB.out _ _ _ hW).2.2.1,(SB.out _ _ _ hW).2.2.2.1,hW.nums.1,hW.nums.2.1⟩;have CL:Hid (∀W,Cx SA TA BA f M w X a g D Lo W->cpr 84 #[.agg #[uw q.sp,ui q.sl],.agg #[uw X.sp,ui X.sl]] W λr w'=>r=.returned (.bool (Clk.Ar q.sp q.sl X.sp X.sl))/\Cx SA TA BA f M w X a g D Lo w'):=λW hW=>(Clk.Oi q.sp q.sl X.sp X.sl W).mono λr w' h=>⟨h.1,hW.on E h.2⟩;have DW:Hid (∀W,Cx SA TA BA f M w X a g D Lo W->Cx SA TA BA f M w X a g D Lo W.drew):=λW hW=>hW.drew E;have hhe:=L8 (f:=ph) (a:=a) (D:=D) hq.s hX;have CH:Hid (∀W,Cx SA TA BA f M w X a g D Lo W->cpr 141 #[pz f.sb,uw ph,.agg #[uw q.sp,ui q.sl]] W λr w'=>r=.returned (iw (Ah ph q.sp q.sl X a D).1)/\Cx SA TA BA f M w (Ah ph q.sp q.sl X a D).2.1 a g (Ah ph q.sp q.sl X a D).2.2 Lo w'):=λW hW=>hW.calls λM' hM=>Vj E ph q.sp q.sl hM (by omega) hX hph hq.s;have CC:Hid (∀(X:Sd) (D:Drm.Dr) W,Cx SA TA BA f M w X a g D Lo W->cpr 189 #[.slice (some ⟨W.heap.size+1,0,none⟩) 2 2] ((W.alloc (.cells #[ui q.c,ui q.n] 36)).alloc (.cells #[.slice (some ⟨W.heap.size,0,none⟩) 1 1,.slice sa q.sk.length sc] 40)) λe w'=>∃v',e=.returned v'/\TAt w'.heap.size v' ((q.c,q.n)::q.sk) w'/\Cx SA TA BA f M w X a g D Lo w'):=λX D W hW=>by
  have h1:=SkIn.kept hsi hsn hW.kp;have hn1:=ae W (.cells #[ui q.c,ui q.n] 36);have b0:Bw W (W.alloc (.cells #[ui q.c,ui q.n] 36)):=al _;have b1:Bw W ((W.alloc (.cells #[ui q.c,ui q.n] 36)).alloc (.cells #[.slice (some ⟨W.heap.size,0,none⟩) 1 1,.slice sa q.sk.length sc] 40)):=b0.alloc (by simp) _;have b2:Below (W.heap.size+1) (W.alloc (.cells #[ui q.c,ui q.n] 36)) ((W.alloc (.cells #[ui q.c,ui q.n] 36)).alloc (.cells #[.slice (some ⟨W.heap.size,0,none⟩) 1 1,.slice sa q.sk.length sc] 40)):=(aj _ _).alloc (by simp) _;have hn2:=ae (W.alloc (.cells #[ui q.c,ui q.n] 36)) (.cells #[.slice (some ⟨W.heap.size,0,none⟩) 1 1,.slice sa q.sk.length sc] 40);rw[Jf]at hn2;have r1:TAt (W.heap.size+1) (.slice (some ⟨W.heap.size,0,none⟩) 1 1) [(q.c,q.n)] (W.alloc (.cells #[ui q.c,ui q.n] 36)):=row_one Lat.txc 2 (λ_=>rfl) (q.c,q.n) 36 W (λj u hj=>by
   match j,hj with
   |0,hj=>simp[Lat.txc]at hj;rw[<-hj];simp[go_sem,Lat.txc]
   |1,hj=>simp[Lat.txc]at hj;rw[<-hj];simp[go_sem,Lat.txc]
   |j+2,hj=>simp[Lat.txc]at hj)
  have:=amr (W.heap.size+1) (W.heap.size+1) [(.slice (some ⟨W.heap.size,0,none⟩) 1 1,[(q.c,q.n)]),(.slice sa q.sk.length sc,q.sk)] ((W.alloc (.cells #[ui q.c,ui q.n] 36)).alloc (.cells #[.slice (some ⟨W.heap.size,0,none⟩) 1 1,.slice sa q.sk.length sc] 40)) (λk hk=>by
    match k,hk with
    |0,_=>exact Drm.Ae (k:=0) hn2 rfl
    |1,_=>exact Drm.Ae (k:=1) hn2 rfl
    |k+2,hk=>simp at hk;omega) (λk hk=>by
    match k,hk with
    |0,_=>exact RwAt.on r1 b2
    |1,_=>exact RwAt.le (RwAt.on h1 b1) (by omega)
    |k+2,hk=>simp at hk;omega) (by simp) (by simp) (by simp[cat];omega) (by simp)
  refine this.mono ?_;rintro e w' ⟨v',rfl,ha,hb⟩;refine⟨v',rfl,?_,hW.on E (b1.trans (hb.mono b1.size))⟩;simpa[cat]using ha
 obtain⟨⟨ok,ox⟩,oz,hov,hoz,hox⟩:=Oz (Lat.Oj lo hi q.sp q.sl ((q.c,q.n)::q.sk) (Ah ph q.sp q.sl X a D).2.1.T);have CF:Hid (∀W6 v',TAt W6.heap.size v' ((q.c,q.n)::q.sk) W6->Cx SA TA BA f M w (Ah ph q.sp q.sl X a D).2.1 a g (Ah ph q.sp q.sl X a D).2.2 Lo W6->∀W,Bz W6 W->cpr 190 #[pz f.la,sd lo,sd hi,.agg #[uw q.sp,ui q.sl],v'] W λe w'=>e=.returned (.tuple #[.agg (inC ok ox),.bool oz])/\Bw W w'):=λW6 v' hv hW W hb=>by obtain⟨M9,h9,-,-⟩:=(hW.on E hb).sh;have:=an8 E lo hi q.sp q.sl ((q.c,q.n)::q.sk) v' h9 (akq (by rw[hhe.1.wt];omega)) (RwAt.le (RwAt.on hv hb) hb.size);rw[hov]at this;exact this
 have CK:Hid (∀W,cpr 191 #[.agg (inC ok ox)] W λe w'=>e=.returned (.agg #[iw 3,iw 0,.bool false,su,sy,ui ox.c,ui ox.n,uw ox.sp,ui ox.sl,uw 0,ui 0,sd ox.prim,uw 0,ui 0])/\Bw W w'):=λW=>ab3 (ok,ox) W;have SV:Hid (∀(X:Sd) (D:Drm.Dr) W6,Cx SA TA BA f M w X a g D Lo W6->∀W,Bz W6 W->ce W f.sb 3 (pz f.la)/\ce W w.heap.size 3 (uw q.sp)/\ce W w.heap.size 4 (ui q.sl)/\Bz W6 W):=λX D W6 hW W hb=>⟨(hW.on E hb).ptrs.2.2.2.1,(SB.out _ _ _ (hW.on E hb)).2.2.1,(SB.out _ _ _ (hW.on E hb)).2.2.2.1,hb⟩;have HO:Hid ((Lat.Oj lo hi q.sp q.sl ((q.c,q.n)::q.sk) (Ah ph q.sp q.sl X a D).2.1.T).map (λx=>Tz x.2)=if oz then some (Tz ox)else none):=by
  show _=_;cases ho:(Lat.Oj lo hi q.sp q.sl ((q.c,q.n)::q.sk) (Ah ph q.sp q.sl X a D).2.1.T)with
  |none=>rw[ho]at hoz;rw[hoz];rfl
  |some u=>rw[ho]at hoz;rw[hoz];have:=hox u ho;rw[<-this];rfl
 rw[HO.out]at HL0;have HL:Hid _:=HL0;generalize Cm ph q lo hi X a D=Y at*;generalize (Ah ph q.sp q.sl X a D)=H at*;generalize hlb:Clk.Ar q.sp q.sl X.sp X.sl=lb at*;clear hLo h ht hX hph hq hsk hsi hsn E HL0 hhe hlb hov hoz hox HO;obtain⟨h0,Xh,Dh⟩:=H;dsimp only at CH CF HL;obtain⟨W2,hW2⟩:=xj ((w.alloc (.cells (rqC q.k q wa wc sa sc) 42)).alloc (.cells (zC 0 0 0 0) 48));rw[hW2]at H0;go_enter Tryz.func134,Tryz.ntmps134;go_wp2_with fail;rw[<-hb1];clear hW2 hb1;go_region_held3 (λW=>ce W w.heap.size 3 (uw q.sp)/\ce W w.heap.size 4 (ui q.sl)/\ce W f.sb 5 (uw X.sp)/\ce W f.sb 6 (ui X.sl)) (first|exact SN.out _ H0.out|exact SN.out _ (DW.out _ H0.out)|exact SN.out _ H2.out) (first
  |(go_at_call 84;refine(CL.out _ (DW.out _ H0.out)).mono ?_;rintro e w2 ⟨rfl,hq⟩;have H2:Hid _:=hq;clear hq))
 rename_i hHeld;clear hHeld CL DW SN H0;cases lb
 case true=>
  have HE:Hid (Y=(some (Cb 30),X,D)):=HL.out;clear CF CC CH SV CK;go_wp2_with fail;refine(CR.out _ _).mono ?_;rintro e w3 ⟨rfl,hb⟩;have H3:Hid _:=ON.out _ _ _ _ H2.out hb;clear hb;obtain⟨z0,z1,z2,z3,z4,z5,z6,z7,z8,z9,z10,z11,z12,z13,g0,g1,g2,g3,g4,g5,g6,g7,g8,g9,g10,g11,g12,g13⟩:=Ep (SP.out _ _ _ H3.out);go_wp2_with fail;refine az (Lh rfl rfl rfl (Jg (SP.out _ _ _ H3.out))) rfl ?_;rw[HE.out];exact⟨rfl,HR.out _ _ _ _ _ _ _ _ _ _ _ _ _ _ _ _ _ H3.out⟩
 case false=>
  obtain⟨-,-,c3,c4,-⟩:=SB.out _ _ _ H2.out;go_wp2_with fail;refine(CH.out _ H2.out).mono ?_;rintro e w3 ⟨rfl,hq⟩;have H3:Hid _:=hq;clear hq CH c3 c4 H2;by_cases hh:h0=0
  case neg=>
   have hh':(h0 != 0)=true:=by simp[hh]
   have HE:Hid (Y=(some (Cb h0),Xh,Dh)):=by show _=_;rw[HL.out];simp[hh]
   clear hh CF CC SV CK;go_wp2_with fail;refine(CR.out _ _).mono ?_;rintro e w4 ⟨rfl,hb⟩;have H4:Hid _:=ON.out _ _ _ _ H3.out hb;clear hb;obtain⟨z0,z1,z2,z3,z4,z5,z6,z7,z8,z9,z10,z11,z12,z13,g0,g1,g2,g3,g4,g5,g6,g7,g8,g9,g10,g11,g12,g13⟩:=Ep (SP.out _ _ _ H4.out);go_wp2_with fail;refine az (Lh rfl rfl rfl (Jg (SP.out _ _ _ H4.out))) rfl ?_;rw[HE.out];exact⟨rfl,HR.out _ _ _ _ _ _ _ _ _ _ _ _ _ _ _ _ _ H4.out⟩
  case pos=>
   subst hh;have HL2:Hid (Y=(if oz then some (Tz ox)else none,Xh,Dh)):=by show _=_;rw[HL.out];simp
   obtain⟨c1,c2,-,-,-⟩:=SB.out _ _ _ H3.out;have CC2:Hid _:=CC.out _ _ _ H3.out;have H4:Hid (Cx SA TA BA f M w Xh a g Dh Lo (w3.alloc (.cells #[ui q.c,ui q.n] 36))):=ON.out _ _ _ _ H3.out (al _);obtain⟨W4,hW4⟩:=xj (w3.alloc (.cells #[ui q.c,ui q.n] 36));have hs4:w3.heap.size+1=W4.heap.size:=by rw[<-hW4];simp
   rw[hW4]at CC2 H4;rw[hs4]at CC2;clear hs4 CC;obtain⟨-,-,-,-,c12⟩:=SB.out _ _ _ H4.out;clear HL;go_wp2_with fail;clear hW4;refine Calls.mono CC2.out ?_;rintro e W6 ⟨v',rfl,ha,hq⟩;have H6:Hid _:=hq;have CF2:Hid _:=CF.out W6 v' ha hq;have SV2:Hid _:=SV.out _ _ W6 hq;have SZ:Hid (∀W,Bz W6 W->Cx SA TA BA f M w Xh a g Dh Lo W):=λW hb=>ON.out _ _ _ _ hq hb;have HZ:Hid (Bz W6 W6):=aj _ _;have HM:Hid (W6.heap.size<=W6.heap.size):=ai _;clear hq ha CF CC2 SV c1 c2 c12 H3 H4;go_upto_region 7 with fail
   obtain⟨s3,x3,x4,-⟩:=SV2.out _ HZ.out;go_cut [14,15] (λs6 s7 wc=>∃vb,s6=.pointer (some ⟨vb,0,none⟩)/\s7=.bool oz/\wc.heap[vb]?=some (.cells (inC ok ox) 155 (0,0))/\Bz W6 wc)
   case first=>
    go_region_held3 (λW=>ce W f.sb 3 (pz f.la)/\ce W w.heap.size 3 (uw q.sp)/\ce W w.heap.size 4 (ui q.sl)/\Bz W6 W) ((with_reducible refine SV2.out _ ?_;with_reducible repeat (first|exact HZ.out|exact H7.out.1|refine Bz.dr ?_|refine Bz.al ?_ _|refine Bz.st ?_ HM.out _ _|refine Bz.st ?_ H7.out.2 _ _))) (first
     |(go_at_call 190;refine(CF2.out _ (by with_reducible repeat (first|exact HZ.out|refine Bz.dr ?_|refine Bz.al ?_ _))).mono ?_;rintro e w7 ⟨rfl,hb2⟩;have H7:Hid (Bz W6 w7/\W6.heap.size<=w7.heap.size):=⟨(by refine Bz.on ?_ hb2;with_reducible repeat (first|exact HZ.out|refine Bz.dr ?_|refine Bz.al ?_ _)),ak (by simp) hb2.size⟩;first|((with_reducible have Y3:=Sto.Nc hb2);obtain⟨y0,y1,y2,y3,y4,y5,y6,y7,y8,y9,g0,g1,g2,g3,g4,g5,g6,g7,g8,g9⟩:=Ic Y3;have Y4:Hid _:=Y3;clear Y3 hb2)|clear hb2))
    all_goals
     go_wp2_with fail;go_meet;first
     |with_reducible exact⟨_,rfl,rfl,awv,Bz.al H7.out.1 _⟩
     |with_reducible exact⟨_,rfl,rfl,ai7 Y4.out,bz10 H7.out.1 HM.out⟩
   case rest=>
    obtain⟨vb,rfl,rfl,hob,hb⟩:=hcut;have H8:Hid _:=SZ.out _ hb;clear hb s3 x3 x4 SV2 CF2 SZ HZ HM H6;cases oz
    case false=>
     have HE:Hid (Y=(none,Xh,Dh)):=HL2.out;clear hob CK;obtain⟨z0,z1,z2,z3,z4,z5,z6,z7,z8,z9,z10,z11,z12,z13,g0,g1,g2,g3,g4,g5,g6,g7,g8,g9,g10,g11,g12,g13⟩:=Ep (SP.out _ _ _ H8.out);go_wp2_with fail;refine az (Lh rfl rfl rfl (Jg (SP.out _ _ _ H8.out))) rfl ?_;rw[HE.out];exact⟨rfl,HR.out _ _ _ _ _ _ _ _ _ _ _ _ _ _ _ _ _ H8.out⟩
    case true=>
     have HE:Hid (Y=(some (Tz ox),Xh,Dh)):=HL2.out;obtain⟨i0,i1,i2,i3,i4,i5,i6,i7,i8,i9,-⟩:=Ic hob;go_wp2_with fail;refine(CK.out _).mono ?_;rintro e w9 ⟨rfl,hb⟩;have H9:Hid _:=ON.out _ _ _ _ H8.out hb;clear hb CK hob i0 i1 i2 i3 i4 i5 i6 i7 i8 i9;obtain⟨z0,z1,z2,z3,z4,z5,z6,z7,z8,z9,z10,z11,z12,z13,g0,g1,g2,g3,g4,g5,g6,g7,g8,g9,g10,g11,g12,g13⟩:=Ep (SP.out _ _ _ H9.out);go_wp2_with fail;refine az (Lh rfl rfl rfl (Jg (SP.out _ _ _ H9.out))) rfl ?_;rw[HE.out];exact⟨rfl,HR.out _ _ _ _ _ _ _ _ _ _ _ _ _ _ _ _ _ H9.out⟩
