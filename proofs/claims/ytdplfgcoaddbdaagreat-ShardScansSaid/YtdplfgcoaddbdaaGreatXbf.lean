import Derived.Test.YtdplfgcoaddbdaaGreatXbe
set_option maxHeartbeats 4000000
set_option maxRecDepth 100000
set_option linter.unusedVariables false
set_option linter.unusedSimpArgs false
namespace Go.Proofs.YtdplfgcoaddbdaaGreat
open Go.RowKit
variable {SA:TyS}{TA:TyT}{BA:TyB}
variable {f:Fp}{M:Nat->Prop}{X:Sd}{a:Int}{g:Nat}{D:Drm.Dr}{w W W':World}{Lo:List (Nat×Obj)}
theorem dec_steps(ph:Int)(q:Rq)(X:Sd)(a:Int)(D:Drm.Dr):decFn ph q X a D=match knownF q.c q.n X with
  |some r=>(r,X,D)
  |none=>match ownF q.c q.n X with
   |none=>(kinR 6,X,D)
   |some x=>if primF x.2 X=false then(refR 1,X,D)else if Clk.lessB q.ap q.al x.2.mp x.2.ml then(saidR 7 x.2.mp x.2.ml,X,D)else
    if(hearF ph q.ap q.al X a D).1≠0 then(refR (hearF ph q.ap q.al X a D).1,(hearF ph q.ap q.al X a D).2)else
    if(noteF (eCommit q.c q.n x.2.sp x.2.sl q.ap q.al q.pt) (hearF ph q.ap q.al X a D).2.1 a (hearF ph q.ap q.al X a D).2.2).1≠0 then(refR (noteF (eCommit q.c q.n x.2.sp x.2.sl q.ap q.al q.pt) (hearF ph q.ap q.al X a D).2.1 a (hearF ph q.ap q.al X a D).2.2).1,(noteF (eCommit q.c q.n x.2.sp x.2.sl q.ap q.al q.pt) (hearF ph q.ap q.al X a D).2.1 a (hearF ph q.ap q.al X a D).2.2).2)else(saidR 5 q.ap q.al,(noteF (eCommit q.c q.n x.2.sp x.2.sl q.ap q.al q.pt) (hearF ph q.ap q.al X a D).2.1 a (hearF ph q.ap q.al X a D).2.2).2):=rfl
theorem own_mem{c n:Int}{x:List UInt8×Lat.Ii}(h:ownF c n X=some x):x∈X.T:=by unfold ownF at h;exact(List.mem_filter.1 (List.mem_of_mem_head? h)).1
theorem dec95(E:Env SA TA BA)(ph:Int)(q:Rq)(wa:Option Addr)(wc:Nat)(sa:Option Addr)(sc:Nat)(h:ShAt SA TA BA f M X a g D w)(ht:X.wt<8900)(hX:XOk X)(hph:0<=ph)(hq:RqOk q):
  Calls Tryz.prog 39 #[pz f.sb,uw ph,.agg (rqC q.k q wa wc sa sc)] w fun e w'=>e=.returned (rpV (decFn ph q X a D).1 sy)/\ShTo SA TA BA f M w (decFn ph q X a D).2.1 a g (decFn ph q X a D).2.2 w':=by
 have HL0:=dec_steps ph q X a D;obtain⟨b1,Lo,hb1,hLo,H0,SP,HR,ON,NW,CR,CS⟩:=setq E h q.k q wa wc sa sc;have SB:Hid (∀(X:Sd) (D:Drm.Dr) W,Cx SA TA BA f M w X a g D Lo W->ce W w.heap.size 1 (ui q.c)/\ce W w.heap.size 2 (ui q.n)/\ce W w.heap.size 5 (uw q.ap)/\ce W w.heap.size 6 (ui q.al)/\ce W w.heap.size 10 (ub q.pt)):=fun X D W hW=>by subst hLo;exact⟨hW.has.cell (.tail _ (.head _)) rfl,hW.has.cell (.tail _ (.head _)) rfl,hW.has.cell (.tail _ (.head _)) rfl,hW.has.cell (.tail _ (.head _)) rfl,hW.has.cell (.tail _ (.head _)) rfl⟩
 obtain⟨kr,kz,hkv,hkz,hkr⟩:=kn_parts (knownF q.c q.n X);have CK:Hid (∀W,Cx SA TA BA f M w X a g D Lo W->Calls Tryz.prog 88 #[pz f.sb,.agg #[ui q.c,ui q.n]] W fun e w'=>e=.returned (.tuple #[.agg (rpD kr none 0 0),.bool kz])/\Cx SA TA BA f M w X a g D Lo w'):=fun W hW=>by obtain⟨M9,h9,-,-⟩:=hW.sh;have:=known191 E q.c q.n h9 (by omega) hq.c;rw[hkv]at this;exact this.mono fun e w' h=>⟨h.1,hW.on E h.2⟩
 obtain⟨⟨ok,ox⟩,oz,hov,hoz,hox⟩:=fs_parts (ownF q.c q.n X);have CW:Hid (∀W,Cx SA TA BA f M w X a g D Lo W->Calls Tryz.prog 89 #[pz f.sb,.agg #[ui q.c,ui q.n]] W fun e w'=>e=.returned (.tuple #[.agg (inC ok ox),.bool oz])/\Cx SA TA BA f M w X a g D Lo w'):=fun W hW=>by obtain⟨M9,h9,-,-⟩:=hW.sh;have:=own192 E q.c q.n h9 (by omega);rw[hov]at this;exact this.mono fun e w' h=>⟨h.1,hW.on E h.2⟩
 have CP:Hid (∀W Lo,Cx SA TA BA f M w X a g D Lo W->Calls Tryz.prog 96 #[pz f.sb,.agg (inC ok ox)] W fun r w'=>r=.returned (.bool (primF ox X))/\Cx SA TA BA f M w X a g D Lo w'):=fun W Lo hW=>by obtain⟨M9,h9,-,-⟩:=hW.sh;exact(prim199 E (ok,ox) h9 (by omega)).mono fun r w' h=>⟨h.1,hW.on E h.2⟩
 have CL:Hid (∀W Lo,Cx SA TA BA f M w X a g D Lo W->Calls Tryz.prog 87 #[.agg #[uw q.ap,ui q.al],.agg #[uw ox.mp,ui ox.ml]] W fun r w'=>r=.returned (.bool (Clk.lessB q.ap q.al ox.mp ox.ml))/\Cx SA TA BA f M w X a g D Lo w'):=fun W Lo hW=>(Clk.less17 q.ap q.al ox.mp ox.ml W).mono fun r w' h=>⟨h.1,hW.on E h.2⟩;have hhe:=hear_ok (f:=ph) (a:=a) (D:=D) hq.a hX;have CH:Hid (∀W Lo,Cx SA TA BA f M w X a g D Lo W->Calls Tryz.prog 92 #[pz f.sb,uw ph,.agg #[uw q.ap,ui q.al]] W fun r w'=>r=.returned (iw (hearF ph q.ap q.al X a D).1)/\Cx SA TA BA f M w (hearF ph q.ap q.al X a D).2.1 a g (hearF ph q.ap q.al X a D).2.2 Lo w'):=fun W Lo hW=>hW.calls fun M' hM=>hear195 E ph q.ap q.al hM (by omega) hX hph hq.a;have CN:Hid (Ts ox.sp ox.sl->∀W Lo,Cx SA TA BA f M w (hearF ph q.ap q.al X a D).2.1 a g (hearF ph q.ap q.al X a D).2.2 Lo W->Calls Tryz.prog 95 #[pz f.sb,.agg #[iw 3,ui q.c,ui q.n,uw ox.sp,ui ox.sl,uw q.ap,ui q.al,uw 0,ui 0,su,ub q.pt,.bool false,sy]] W fun r w'=>r=.returned (iw (noteF (eCommit q.c q.n ox.sp ox.sl q.ap q.al q.pt) (hearF ph q.ap q.al X a D).2.1 a (hearF ph q.ap q.al X a D).2.2).1)/\Cx SA TA BA f M w (noteF (eCommit q.c q.n ox.sp ox.sl q.ap q.al q.pt) (hearF ph q.ap q.al X a D).2.1 a (hearF ph q.ap q.al X a D).2.2).2.1 a g (noteF (eCommit q.c q.n ox.sp ox.sl q.ap q.al q.pt) (hearF ph q.ap q.al X a D).2.1 a (hearF ph q.ap q.al X a D).2.2).2.2 Lo w'):=fun hts W Lo hW=>hW.calls fun M' hM=>by have:=note198 E (eCommit q.c q.n ox.sp ox.sl q.ap q.al q.pt) none 0 hM (by rw[hhe.1.wt];omega) hhe.2.t (ok_commit hq.c hts hq.a hq.p) (Nat.zero_le _) (WsIn.nil _ _);rw[enV_commit hq.c hts hq.a hq.p]at this;exact this
 have LS:Hid (∀(X:Sd) (D:Drm.Dr) W p,Cx SA TA BA f M w X a g D (p::Lo) W->Cx SA TA BA f M w X a g D Lo W):=fun X D W p hW=>hW.less (fun x hx=>.tail _ hx);have ONL:Hid (∀(X:Sd) (D:Drm.Dr) W W' Lo,Cx SA TA BA f M w X a g D Lo W->Bz W W'->Cx SA TA BA f M w X a g D Lo W'):=fun X D W W' Lo hW hb=>hW.on E hb;have NI:Hid (∀(X:Sd) (D:Drm.Dr) W cs,Cx SA TA BA f M w X a g D Lo W->Cx SA TA BA f M w X a g D ((W.heap.size,.cells cs 69 (0,0))::Lo) (W.alloc (.cells cs 69 (0,0)))):=fun X D W cs hW=>hW.new E cs 69 (by decide);have SI:Hid (∀(X:Sd) (D:Drm.Dr) W bi,Cx SA TA BA f M w X a g D ((bi,.cells (inC ok ox) 69 (0,0))::Lo) W->W.heap[bi]?=some (.cells (inC ok ox) 69 (0,0))):=fun X D W bi hW=>hW.has _ (.head _);have HKz:Hid (kz=(knownF q.c q.n X).isSome/\∀x,knownF q.c q.n X=some x->kr=x):=⟨hkz,hkr⟩;have HOz:Hid (oz=(ownF q.c q.n X).isSome/\∀x,ownF q.c q.n X=some x->(ok,ox)=x):=⟨hoz,hox⟩;have HTs:Hid (∀x,ownF q.c q.n X=some x->Ts x.2.sp x.2.sl):=fun x hx=>(hX.i x (own_mem hx)).1;have HL:Hid _:=HL0;generalize decFn ph q X a D=Y at*;clear hLo h ht hX hph hq E HL0 hhe hkv hkz hkr hov hoz hox;obtain⟨W2,hW2⟩:=xj ((w.alloc (.cells (rqC q.k q wa wc sa sc) 32)).alloc (.cells (zC 0 0 0 0) 40));rw[hW2]at H0;obtain⟨c1,c2,-,-,-⟩:=SB.out _ _ _ H0.out;go_enter Tryz.func39,Tryz.ntmps39;go_wp2_with fail;rw[<-hb1];clear hW2 hb1;refine(CK.out _ H0.out).mono ?_;rintro e w3 ⟨rfl,hq⟩;have H3:Hid _:=hq;clear hq CK c1 c2 H0;have hob:(w3.alloc (.cells (rpD kr none 0 0) 40)).heap[w3.heap.size]?=some (.cells (rpD kr none 0 0) 40 (0,0)):=heap_alloc_new w3 _;have H4:Hid (Cx SA TA BA f M w X a g D Lo (w3.alloc (.cells (rpD kr none 0 0) 40))):=ON.out _ _ _ _ H3.out ((Below.refl _ _).alloc (Nat.le_refl _) _);obtain⟨W4,hW4⟩:=xj (w3.alloc (.cells (rpD kr none 0 0) 40));rw[hW4]at hob H4;cases kz
 case true=>
  have HE:Hid (Y=(kr,X,D)):=by
   show _=_;rw[HL.out];cases hkn:knownF q.c q.n X with
   |none=>have:=HKz.out.1;rw[hkn]at this;cases this
   |some r=>rw[HKz.out.2 r hkn]
  obtain⟨i0,i1,i2,i3,i4,i5,i6,i7,i8,i9,i10,i11,i12,i13,-⟩:=free14 hob;clear hob CW CH CN CP CL;have K:=H4;exact re5
 case false=>
  have hkn:knownF q.c q.n X=none:=by
   cases hkn:knownF q.c q.n X with
   |none=>rfl
   |some r=>have:=HKz.out.1;rw[hkn]at this;cases this
  rw[hkn]at HL;clear hob HKz hkn;obtain⟨c1,c2,-,-,-⟩:=SB.out _ _ _ H4.out;go_wp2_with fail;refine(CW.out _ H4.out).mono ?_;rintro e w5 ⟨rfl,hq⟩;have H5:Hid _:=hq;clear hq CW c1 c2 H4 hW4 H3;have H6:Hid _:=NI.out _ _ _ (inC ok ox) H5.out;obtain⟨W6,hW6⟩:=xj (w5.alloc (.cells (inC ok ox) 69));rw[hW6]at H6;obtain⟨bi,hbi⟩:=xj w5.heap.size;rw[hbi]at H6;cases oz
  case false=>
   have hkn:ownF q.c q.n X=none:=by
    cases hkn:ownF q.c q.n X with
    |none=>rfl
    |some r=>have:=HOz.out.1;rw[hkn]at this;cases this
   have HE:Hid (Y=(kinR 6,X,D)):=by show _=_;rw[HL.out,hkn]
   have H6b:Hid _:=LS.out _ _ _ _ H6.out;clear CH CN CP CL hkn;have K:=H6b;exact re5
  case true=>
   obtain⟨hkn,hts⟩:ownF q.c q.n X=some (ok,ox)/\Ts ox.sp ox.sl:=by
    cases hkn:ownF q.c q.n X with
    |none=>have:=HOz.out.1;rw[hkn]at this;cases this
    |some r=>
     have h1:=HTs.out r hkn;rw[<-HOz.out.2 r hkn]at h1;exact⟨by rw[HOz.out.2 r hkn],h1⟩
   rw[hkn]at HL;have CN2:Hid _:=CN.out hts;clear hkn hts CN HOz HTs;dsimp only at HL;generalize (noteF (eCommit q.c q.n ox.sp ox.sl q.ap q.al q.pt) (hearF ph q.ap q.al X a D).2.1 a (hearF ph q.ap q.al X a D).2.2)=N at*;generalize (hearF ph q.ap q.al X a D)=H at*;generalize hlb:Clk.lessB q.ap q.al ox.mp ox.ml=lb at*;generalize hpr:primF ox X=pr at*;obtain⟨n0,Xn,Dn⟩:=N;obtain⟨h0,Xh,Dh⟩:=H;dsimp only at CH CN2 HL;clear hlb hpr;obtain⟨i0,i1,i2,i3,i4,i5,i6,i7,i8,i9,-⟩:=free10 (SI.out _ _ _ _ H6.out);go_wp2_with fail;clear hW6 hbi;refine(CP.out _ _ H6.out).mono ?_;rintro e w7 ⟨rfl,hq⟩;have H7:Hid _:=hq;clear hq CP i0 i1 i2 i3 i4 i5 i6 i7 i8 i9 H6 H5;cases pr
   case false=>
    have HE:Hid (Y=(refR 1,X,D)):=HL.out;have H7b:Hid _:=LS.out _ _ _ _ H7.out;go_wp2_with fail;refine(CR.out _ _).mono ?_;rintro e w8 ⟨rfl,hb⟩;have H8:Hid _:=ON.out _ _ _ _ H7b.out hb;clear hb;have K:=H8;exact re5
   case true=>
    obtain⟨-,-,c5,c6,-⟩:=SB.out _ _ _ (LS.out _ _ _ _ H7.out);obtain⟨-,-,-,-,i4,i5,-⟩:=free10 (SI.out _ _ _ _ H7.out);go_wp2_with fail;refine(CL.out _ _ H7.out).mono ?_;rintro e w8 ⟨rfl,hq⟩;have H8:Hid _:=hq;clear hq CL c5 c6 i4 i5 H7;cases lb
    case true=>
     have HE:Hid (Y=(saidR 7 ox.mp ox.ml,X,D)):=HL.out;have H8b:Hid _:=LS.out _ _ _ _ H8.out;obtain⟨-,-,-,-,i4,i5,-⟩:=free10 (SI.out _ _ _ _ H8.out);go_wp2_with fail;refine(CS.out _ _ _ _).mono ?_;rintro e w9 ⟨rfl,hb⟩;have H9:Hid _:=ON.out _ _ _ _ H8b.out hb;clear hb i4 i5;have K:=H9;exact re5
    case false=>
     obtain⟨-,-,c5,c6,-⟩:=SB.out _ _ _ (LS.out _ _ _ _ H8.out);go_wp2_with fail;refine(CH.out _ _ H8.out).mono ?_;rintro e w9 ⟨rfl,hq⟩;have H9:Hid _:=hq;clear hq CH c5 c6 H8;by_cases hh:h0=0
     case neg=>
      have hh':(h0 != 0)=true:=by simp[hh]
      have HE:Hid (Y=(refR h0,Xh,Dh)):=by show _=_;rw[HL.out];simp[hh]
      have H9b:Hid _:=LS.out _ _ _ _ H9.out;clear hh;go_wp2_with fail;refine(CR.out _ _).mono ?_;rintro e w10 ⟨rfl,hb⟩;have H10:Hid _:=ON.out _ _ _ _ H9b.out hb;clear hb;have K:=H10;exact re5
     case pos=>
      subst hh;have H9b:Hid _:=LS.out _ _ _ _ H9.out;obtain⟨c1,c2,c5,c6,c10⟩:=SB.out _ _ _ H9b.out;obtain⟨-,-,i2,i3,-⟩:=free10 (SI.out _ _ _ _ H9.out);go_upto_region 15 with fail
      have hob:(w9.alloc (.cells #[iw 3,ui q.c,ui q.n,uw ox.sp,ui ox.sl,uw q.ap,ui q.al,uw 0,ui 0,su,ub q.pt,.bool false,sy] 108)).heap[w9.heap.size]?=some (.cells #[iw 3,ui q.c,ui q.n,uw ox.sp,ui ox.sl,uw q.ap,ui q.al,uw 0,ui 0,su,ub q.pt,.bool false,sy] 108 (0,0)):=heap_alloc_new w9 _;have H11:Hid _:=ON.out _ _ _ (w9.alloc (.cells #[iw 3,ui q.c,ui q.n,uw ox.sp,ui ox.sl,uw q.ap,ui q.al,uw 0,ui 0,su,ub q.pt,.bool false,sy] 108)) H9b.out ((Below.refl _ _).alloc (Nat.le_refl _) _);obtain⟨W11,hW11⟩:=xj (w9.alloc (.cells #[iw 3,ui q.c,ui q.n,uw ox.sp,ui ox.sl,uw q.ap,ui q.al,uw 0,ui 0,su,ub q.pt,.bool false,sy] 108));rw[hW11]at hob H11|-;have e0:=Drm.blk_cell (k:=0) hob rfl;have e1:=Drm.blk_cell (k:=1) hob rfl;have e2:=Drm.blk_cell (k:=2) hob rfl;have e3:=Drm.blk_cell (k:=3) hob rfl;have e4:=Drm.blk_cell (k:=4) hob rfl;have e5:=Drm.blk_cell (k:=5) hob rfl;have e6:=Drm.blk_cell (k:=6) hob rfl;have e7:=Drm.blk_cell (k:=7) hob rfl;have e8:=Drm.blk_cell (k:=8) hob rfl;have e9:=Drm.blk_cell (k:=9) hob rfl;have e10:=Drm.blk_cell (k:=10) hob rfl;have e11:=Drm.blk_cell (k:=11) hob rfl;have e12:=Drm.blk_cell (k:=12) hob rfl;clear hob H9b;go_wp2_with fail;refine(CN2.out _ _ H11.out).mono ?_;rintro e w12 ⟨rfl,hq⟩;have H12:Hid _:=hq;clear hq CN2 c1 c2 c5 c6 c10 i2 i3 e0 e1 e2 e3 e4 e5 e6 e7 e8 e9 e10 e11 e12 hW11 H11 H9;by_cases hh:n0=0
      case neg=>
       have hh':(n0 != 0)=true:=by simp[hh]
       have HE:Hid (Y=(refR n0,Xn,Dn)):=by show _=_;rw[HL.out];simp[hh]
       clear hh;go_wp2_with fail;refine(CR.out _ _).mono ?_;rintro e w13 ⟨rfl,hb⟩;have H13:Hid _:=ON.out _ _ _ _ H12.out hb;clear hb;have K:=H13;exact re5
      case pos=>
       subst hh;have HE:Hid (Y=(saidR 5 q.ap q.al,Xn,Dn)):=by show _=_;rw[HL.out];simp
       obtain⟨-,-,c5,c6,-⟩:=SB.out _ _ _ H12.out;go_wp2_with fail;refine(CS.out _ _ _ _).mono ?_;rintro e w13 ⟨rfl,hb⟩;have H13:Hid _:=ON.out _ _ _ _ H12.out hb;clear hb c5 c6;have K:=H13;exact re5
theorem app_steps(ph:Int)(q:Rq)(X:Sd)(a:Int)(D:Drm.Dr){y:Ver.Vd}{z:Bool}(hz:z=(Ver.getB q.c q.n X.K).isSome)(hy:∀x,Ver.getB q.c q.n X.K=some x->y=x):appFn ph q X a D=if(z&& !Ver.cmB y)then(kinR 9,X,D)else match ownF q.c q.n X with
  |none=>(kinR 9,X,D)
  |some x=>if primF x.2 X||Clk.lessB q.ap q.al x.2.mp x.2.ml then(refR 1,X,D)else
   if(hearF ph q.ap q.al X a D).1≠0 then(refR (hearF ph q.ap q.al X a D).1,(hearF ph q.ap q.al X a D).2)else
   if(noteF (eApply q.c q.n q.ap q.al) (hearF ph q.ap q.al X a D).2.1 a (hearF ph q.ap q.al X a D).2.2).1≠0 then(refR (noteF (eApply q.c q.n q.ap q.al) (hearF ph q.ap q.al X a D).2.1 a (hearF ph q.ap q.al X a D).2.2).1,(noteF (eApply q.c q.n q.ap q.al) (hearF ph q.ap q.al X a D).2.1 a (hearF ph q.ap q.al X a D).2.2).2)else(kinR 9,(noteF (eApply q.c q.n q.ap q.al) (hearF ph q.ap q.al X a D).2.1 a (hearF ph q.ap q.al X a D).2.2).2):=by
 unfold appFn;cases hg:Ver.getB q.c q.n X.K with
 |none=>rw[hg]at hz;rw[hz];rfl
 |some u=>rw[hg]at hz;rw[hz,hy u hg];rfl
theorem app96(E:Env SA TA BA)(ph:Int)(q:Rq)(wa:Option Addr)(wc:Nat)(sa:Option Addr)(sc:Nat)(h:ShAt SA TA BA f M X a g D w)(ht:X.wt<8900)(hX:XOk X)(hph:0<=ph)(hq:RqOk q):
  Calls Tryz.prog 40 #[pz f.sb,uw ph,.agg (rqC q.k q wa wc sa sc)] w fun e w'=>e=.returned (rpV (appFn ph q X a D).1 sy)/\ShTo SA TA BA f M w (appFn ph q X a D).2.1 a g (appFn ph q X a D).2.2 w':=by
 obtain⟨b1,Lo,hb1,hLo,H0,SP,HR,ON,NW,CR,CS⟩:=setq E h q.k q wa wc sa sc;have SB:Hid (∀(X:Sd) (D:Drm.Dr) W,Cx SA TA BA f M w X a g D Lo W->ce W w.heap.size 1 (ui q.c)/\ce W w.heap.size 2 (ui q.n)/\ce W w.heap.size 5 (uw q.ap)/\ce W w.heap.size 6 (ui q.al)):=fun X D W hW=>by subst hLo;exact⟨hW.has.cell (.tail _ (.head _)) rfl,hW.has.cell (.tail _ (.head _)) rfl,hW.has.cell (.tail _ (.head _)) rfl,hW.has.cell (.tail _ (.head _)) rfl⟩
 obtain⟨⟨ok,ox⟩,oz,hov,hoz,hox⟩:=fs_parts (ownF q.c q.n X);have CW:Hid (∀W,Cx SA TA BA f M w X a g D Lo W->Calls Tryz.prog 89 #[pz f.sb,.agg #[ui q.c,ui q.n]] W fun e w'=>e=.returned (.tuple #[.agg (inC ok ox),.bool oz])/\Cx SA TA BA f M w X a g D Lo w'):=fun W hW=>by obtain⟨M9,h9,-,-⟩:=hW.sh;have:=own192 E q.c q.n h9 (by omega);rw[hov]at this;exact this.mono fun e w' h=>⟨h.1,hW.on E h.2⟩
 obtain⟨y,z,hv,hz,hy⟩:=vof_parts (Ver.getB q.c q.n X.K);have C2:Hid (∀W,Calls Tryz.prog 98 #[.agg (vdC y)] W fun e w'=>e=.returned (.bool (Ver.cmB y))/\Below W.heap.size W w'):=fun W=>comm200 y W;obtain⟨W2,hW2⟩:=xj ((w.alloc (.cells (rqC q.k q wa wc sa sc) 32)).alloc (.cells (zC 0 0 0 0) 40));rw[hW2]at H0;have SZ:Hid (∀W,Bz W2 W->Cx SA TA BA f M w X a g D Lo W):=fun W hb=>H0.out.on E hb;have SV:Hid (∀W,Bz W2 W->ce W f.sb 4 (pz f.ve)/\ce W w.heap.size 1 (ui q.c)/\ce W w.heap.size 2 (ui q.n)/\Bz W2 W):=fun W hb=>⟨(H0.out.on E hb).ptrs.2.2.2.2,(SB.out _ _ _ (SZ.out _ hb)).1,(SB.out _ _ _ (SZ.out _ hb)).2.1,hb⟩;have CO:Hid (∀W,Bz W2 W->Calls Tryz.prog 97 #[pz f.ve,.agg #[ui q.c,ui q.n]] W fun e w'=>e=.returned (.tuple #[.agg (vdC y),.bool z])/\Below W.heap.size W w'):=fun W hb=>by obtain⟨M9,h9,-,-⟩:=(H0.out.on E hb).sh;have:=sh_vof E q.c q.n h9 (wt_K (by omega)) hq.c;rw[hv]at this;exact this
 have HZ:Hid (Bz W2 W2):=Below.refl _ _;have HM:Hid (W2.heap.size<=W2.heap.size):=Nat.le_refl _;have HL0:=app_steps ph q X a D hz hy;have CP:Hid (∀W Lo,Cx SA TA BA f M w X a g D Lo W->Calls Tryz.prog 96 #[pz f.sb,.agg (inC ok ox)] W fun r w'=>r=.returned (.bool (primF ox X))/\Cx SA TA BA f M w X a g D Lo w'):=fun W Lo hW=>by obtain⟨M9,h9,-,-⟩:=hW.sh;exact(prim199 E (ok,ox) h9 (by omega)).mono fun r w' h=>⟨h.1,hW.on E h.2⟩
 have CL:Hid (∀W Lo,Cx SA TA BA f M w X a g D Lo W->Calls Tryz.prog 87 #[.agg #[uw q.ap,ui q.al],.agg #[uw ox.mp,ui ox.ml]] W fun r w'=>r=.returned (.bool (Clk.lessB q.ap q.al ox.mp ox.ml))/\Cx SA TA BA f M w X a g D Lo w'):=fun W Lo hW=>(Clk.less17 q.ap q.al ox.mp ox.ml W).mono fun r w' h=>⟨h.1,hW.on E h.2⟩;have hhe:=hear_ok (f:=ph) (a:=a) (D:=D) hq.a hX;have CH:Hid (∀W Lo,Cx SA TA BA f M w X a g D Lo W->Calls Tryz.prog 92 #[pz f.sb,uw ph,.agg #[uw q.ap,ui q.al]] W fun r w'=>r=.returned (iw (hearF ph q.ap q.al X a D).1)/\Cx SA TA BA f M w (hearF ph q.ap q.al X a D).2.1 a g (hearF ph q.ap q.al X a D).2.2 Lo w'):=fun W Lo hW=>hW.calls fun M' hM=>hear195 E ph q.ap q.al hM (by omega) hX hph hq.a;have CN:Hid (∀W Lo,Cx SA TA BA f M w (hearF ph q.ap q.al X a D).2.1 a g (hearF ph q.ap q.al X a D).2.2 Lo W->Calls Tryz.prog 95 #[pz f.sb,.agg #[iw 4,ui q.c,ui q.n,uw 0,ui 0,uw q.ap,ui q.al,uw 0,ui 0,su,ub 0,.bool false,sy]] W fun r w'=>r=.returned (iw (noteF (eApply q.c q.n q.ap q.al) (hearF ph q.ap q.al X a D).2.1 a (hearF ph q.ap q.al X a D).2.2).1)/\Cx SA TA BA f M w (noteF (eApply q.c q.n q.ap q.al) (hearF ph q.ap q.al X a D).2.1 a (hearF ph q.ap q.al X a D).2.2).2.1 a g (noteF (eApply q.c q.n q.ap q.al) (hearF ph q.ap q.al X a D).2.1 a (hearF ph q.ap q.al X a D).2.2).2.2 Lo w'):=fun W Lo hW=>hW.calls fun M' hM=>by have:=note198 E (eApply q.c q.n q.ap q.al) none 0 hM (by rw[hhe.1.wt];omega) hhe.2.t (ok_apply hq.c hq.a) (Nat.zero_le _) (WsIn.nil _ _);rw[enV_apply hq.c hq.a]at this;exact this
 have LS:Hid (∀(X:Sd) (D:Drm.Dr) W p,Cx SA TA BA f M w X a g D (p::Lo) W->Cx SA TA BA f M w X a g D Lo W):=fun X D W p hW=>hW.less (fun x hx=>.tail _ hx);have NI:Hid (∀(X:Sd) (D:Drm.Dr) W cs,Cx SA TA BA f M w X a g D Lo W->Cx SA TA BA f M w X a g D ((W.heap.size,.cells cs 69 (0,0))::Lo) (W.alloc (.cells cs 69 (0,0)))):=fun X D W cs hW=>hW.new E cs 69 (by decide);have SI:Hid (∀(X:Sd) (D:Drm.Dr) W bi,Cx SA TA BA f M w X a g D ((bi,.cells (inC ok ox) 69 (0,0))::Lo) W->W.heap[bi]?=some (.cells (inC ok ox) 69 (0,0))):=fun X D W bi hW=>hW.has _ (.head _);have HOz:Hid (oz=(ownF q.c q.n X).isSome/\∀x,ownF q.c q.n X=some x->(ok,ox)=x):=⟨hoz,hox⟩;have HL:Hid _:=HL0;generalize appFn ph q X a D=Y at*;generalize Ver.cmB y=cm at*;clear hLo h ht hX hph hq E HL0 hhe hv hz hy hov hoz hox;go_enter Tryz.func40,Tryz.ntmps40;go_wp2_with fail;rw[<-hb1];clear hW2 hb1;obtain⟨s4,x0,x1,-⟩:=SV.out _ HZ.out;go_cut [7,8] (fun s6 s7 wc=>∃vb,s6=.pointer (some ⟨vb,0,none⟩)/\s7=.bool z/\wc.heap[vb]?=some (.cells (vdC y) 116 (0,0))/\Bz W2 wc)
 case first=>
  go_region_held3 (fun W=>ce W f.sb 4 (pz f.ve)/\ce W w.heap.size 1 (ui q.c)/\ce W w.heap.size 2 (ui q.n)/\Bz W2 W) ((with_reducible refine SV.out _ ?_;with_reducible repeat (first|exact HZ.out|exact H2.out.1|refine Bz.dr ?_|refine Bz.al ?_ _|refine Bz.st ?_ HM.out _ _|refine Bz.st ?_ H2.out.2 _ _))) (first
   |(go_at_call 97;refine(CO.out _ (by with_reducible repeat (first|exact HZ.out|refine Bz.dr ?_|refine Bz.al ?_ _))).mono ?_;rintro e w2 ⟨rfl,hb2⟩;have H2:Hid (Bz W2 w2/\W2.heap.size<=w2.heap.size):=⟨(by refine Bz.on ?_ hb2;with_reducible repeat (first|exact HZ.out|refine Bz.dr ?_|refine Bz.al ?_ _)),Nat.le_trans (by simp) hb2.size⟩;first|((with_reducible have Y3:=Sto.zero_box hb2);obtain⟨y0,y1,y2,y3,y4,y5,y6,y7,g0,g1,g2,g3,g4,g5,g6,g7⟩:=free8 Y3;have Y4:Hid _:=Y3;clear Y3 hb2)|clear hb2))
  all_goals
   go_wp2_with fail;go_meet;first
   |with_reducible exact⟨_,rfl,rfl,new8,Bz.al H2.out.1 _⟩
   |with_reducible exact⟨_,rfl,rfl,set8 Y4.out,bz8 H2.out.1 HM.out⟩
 case rest=>
  obtain⟨vb,rfl,rfl,hob,hb⟩:=hcut;have H3:Hid _:=SZ.out _ hb;clear hb s4 x0 x1 SV CO SZ HZ HM H0;cases z
  case false=>
   have HL2:Hid (Y=_):=HL.out;simp only[Bool.false_and,Bool.false_eq_true,if_false]at HL2;clear C2 HL hob;obtain⟨c1,c2,-,-⟩:=SB.out _ _ _ H3.out;go_wp2_with fail;refine(CW.out _ H3.out).mono ?_;rintro e w5 ⟨rfl,hq⟩;have H5:Hid _:=hq;clear hq CW c1 c2 H3;have H6:Hid _:=NI.out _ _ _ (inC ok ox) H5.out;obtain⟨W6,hW6⟩:=xj (w5.alloc (.cells (inC ok ox) 69));rw[hW6]at H6;obtain⟨bi,hbi⟩:=xj w5.heap.size;rw[hbi]at H6;cases oz
   case false=>
    have hkn:ownF q.c q.n X=none:=by
     cases hkn:ownF q.c q.n X with
     |none=>rfl
     |some r=>have:=HOz.out.1;rw[hkn]at this;cases this
    have HE:Hid (Y=(kinR 9,X,D)):=by show _=_;rw[HL2.out,hkn]
    have H6b:Hid _:=LS.out _ _ _ _ H6.out;clear CH CN CP CL hkn;have K:=H6b;exact re5
   case true=>
    have hkn:ownF q.c q.n X=some (ok,ox):=by
     cases hkn:ownF q.c q.n X with
     |none=>have:=HOz.out.1;rw[hkn]at this;cases this
     |some r=>rw[HOz.out.2 r hkn]
    rw[hkn]at HL2;clear hkn HOz;dsimp only at HL2;generalize (noteF (eApply q.c q.n q.ap q.al) (hearF ph q.ap q.al X a D).2.1 a (hearF ph q.ap q.al X a D).2.2)=N at*;generalize (hearF ph q.ap q.al X a D)=H at*;generalize Clk.lessB q.ap q.al ox.mp ox.ml=lb at*;generalize primF ox X=pr at*;obtain⟨n0,Xn,Dn⟩:=N;obtain⟨h0,Xh,Dh⟩:=H;dsimp only at CH CN HL2;obtain⟨i0,i1,i2,i3,i4,i5,i6,i7,i8,i9,-⟩:=free10 (SI.out _ _ _ _ H6.out);go_wp2_with fail;clear hW6 hbi;refine(CP.out _ _ H6.out).mono ?_;rintro e w7 ⟨rfl,hq⟩;have H7:Hid _:=hq;clear hq CP i0 i1 i2 i3 i4 i5 i6 i7 i8 i9 H6 H5;cases pr
    case true=>
     have HE:Hid (Y=(refR 1,X,D)):=HL2.out;have H7b:Hid _:=LS.out _ _ _ _ H7.out;go_wp2_with fail;refine(CR.out _ _).mono ?_;rintro e w8 ⟨rfl,hb⟩;have H8:Hid _:=ON.out _ _ _ _ H7b.out hb;clear hb;have K:=H8;exact re5
    case false=>
     obtain⟨-,-,c5,c6⟩:=SB.out _ _ _ (LS.out _ _ _ _ H7.out);obtain⟨-,-,-,-,i4,i5,-⟩:=free10 (SI.out _ _ _ _ H7.out);go_wp2_with fail;refine(CL.out _ _ H7.out).mono ?_;rintro e w8 ⟨rfl,hq⟩;have H8:Hid _:=hq;clear hq CL c5 c6 i4 i5 H7;cases lb
     case true=>
      have HE:Hid (Y=(refR 1,X,D)):=HL2.out;have H8b:Hid _:=LS.out _ _ _ _ H8.out;go_wp2_with fail;refine(CR.out _ _).mono ?_;rintro e w9 ⟨rfl,hb⟩;have H9:Hid _:=ON.out _ _ _ _ H8b.out hb;clear hb;have K:=H9;exact re5
     case false=>
      obtain⟨-,-,c5,c6⟩:=SB.out _ _ _ (LS.out _ _ _ _ H8.out);go_wp2_with fail;refine(CH.out _ _ H8.out).mono ?_;rintro e w9 ⟨rfl,hq⟩;have H9a:Hid _:=hq;have H9:Hid _:=LS.out _ _ _ _ H9a.out;clear hq CH c5 c6 H8 H9a;by_cases hh:h0=0
      case neg=>
       have hh':(h0 != 0)=true:=by simp[hh]
       have HE:Hid (Y=(refR h0,Xh,Dh)):=by show _=_;rw[HL2.out];simp[hh]
       clear hh;go_wp2_with fail;refine(CR.out _ _).mono ?_;rintro e w10 ⟨rfl,hb⟩;have H10:Hid _:=ON.out _ _ _ _ H9.out hb;clear hb;have K:=H10;exact re5
      case pos=>
       subst hh;obtain⟨c1,c2,c5,c6⟩:=SB.out _ _ _ H9.out;go_wp2_with fail;refine(CN.out _ _ H9.out).mono ?_;rintro e w12 ⟨rfl,hq⟩;have H12:Hid _:=hq;clear hq CN c1 c2 c5 c6 H9;by_cases hh:n0=0
       case neg=>
        have hh':(n0 != 0)=true:=by simp[hh]
        have HE:Hid (Y=(refR n0,Xn,Dn)):=by show _=_;rw[HL2.out];simp[hh]
        clear hh;go_wp2_with fail;refine(CR.out _ _).mono ?_;rintro e w13 ⟨rfl,hb⟩;have H13:Hid _:=ON.out _ _ _ _ H12.out hb;clear hb;have K:=H13;exact re5
       case pos=>
        subst hh;have HE:Hid (Y=(kinR 9,Xn,Dn)):=by show _=_;rw[HL2.out];simp
        have K:=H12;exact re5
  case true=>
   obtain⟨y0,y1,y2,y3,y4,y5,y6,y7,-⟩:=free8 hob;go_wp2_with fail;refine(C2.out _).mono ?_;rintro e w4 ⟨rfl,hb⟩;have H4:Hid _:=ON.out _ _ _ _ H3.out hb;clear hb C2 hob y0 y1 y2 y3 y4 y5 y6 y7 H3;cases cm
   case false=>
    have HE:Hid (Y=(kinR 9,X,D)):=HL.out;clear CN HL;have K:=H4;exact re5
   case true=>
    have HL2:Hid (Y=_):=HL.out;simp only[Bool.not_true,Bool.and_false,Bool.false_eq_true,if_false]at HL2;clear HL;obtain⟨c1,c2,-,-⟩:=SB.out _ _ _ H4.out;go_wp2_with fail;refine(CW.out _ H4.out).mono ?_;rintro e w5 ⟨rfl,hq⟩;have H5:Hid _:=hq;clear hq CW c1 c2 H4;have H6:Hid _:=NI.out _ _ _ (inC ok ox) H5.out;obtain⟨W6,hW6⟩:=xj (w5.alloc (.cells (inC ok ox) 69));rw[hW6]at H6;obtain⟨bi,hbi⟩:=xj w5.heap.size;rw[hbi]at H6;cases oz
    case false=>
     have hkn:ownF q.c q.n X=none:=by
      cases hkn:ownF q.c q.n X with
      |none=>rfl
      |some r=>have:=HOz.out.1;rw[hkn]at this;cases this
     have HE:Hid (Y=(kinR 9,X,D)):=by show _=_;rw[HL2.out,hkn]
     have H6b:Hid _:=LS.out _ _ _ _ H6.out;clear CH CN CP CL hkn;have K:=H6b;exact re5
    case true=>
     have hkn:ownF q.c q.n X=some (ok,ox):=by
      cases hkn:ownF q.c q.n X with
      |none=>have:=HOz.out.1;rw[hkn]at this;cases this
      |some r=>rw[HOz.out.2 r hkn]
     rw[hkn]at HL2;clear hkn HOz;dsimp only at HL2;generalize (noteF (eApply q.c q.n q.ap q.al) (hearF ph q.ap q.al X a D).2.1 a (hearF ph q.ap q.al X a D).2.2)=N at*;generalize (hearF ph q.ap q.al X a D)=H at*;generalize Clk.lessB q.ap q.al ox.mp ox.ml=lb at*;generalize primF ox X=pr at*;obtain⟨n0,Xn,Dn⟩:=N;obtain⟨h0,Xh,Dh⟩:=H;dsimp only at CH CN HL2;obtain⟨i0,i1,i2,i3,i4,i5,i6,i7,i8,i9,-⟩:=free10 (SI.out _ _ _ _ H6.out);go_wp2_with fail;clear hW6 hbi;refine(CP.out _ _ H6.out).mono ?_;rintro e w7 ⟨rfl,hq⟩;have H7:Hid _:=hq;clear hq CP i0 i1 i2 i3 i4 i5 i6 i7 i8 i9 H6 H5;cases pr
     case true=>
      have HE:Hid (Y=(refR 1,X,D)):=HL2.out;have H7b:Hid _:=LS.out _ _ _ _ H7.out;go_wp2_with fail;refine(CR.out _ _).mono ?_;rintro e w8 ⟨rfl,hb⟩;have H8:Hid _:=ON.out _ _ _ _ H7b.out hb;clear hb;have K:=H8;exact re5
     case false=>
      obtain⟨-,-,c5,c6⟩:=SB.out _ _ _ (LS.out _ _ _ _ H7.out);obtain⟨-,-,-,-,i4,i5,-⟩:=free10 (SI.out _ _ _ _ H7.out);go_wp2_with fail;refine(CL.out _ _ H7.out).mono ?_;rintro e w8 ⟨rfl,hq⟩;have H8:Hid _:=hq;clear hq CL c5 c6 i4 i5 H7;cases lb
      case true=>
       have HE:Hid (Y=(refR 1,X,D)):=HL2.out;have H8b:Hid _:=LS.out _ _ _ _ H8.out;go_wp2_with fail;refine(CR.out _ _).mono ?_;rintro e w9 ⟨rfl,hb⟩;have H9:Hid _:=ON.out _ _ _ _ H8b.out hb;clear hb;have K:=H9;exact re5
      case false=>
       obtain⟨-,-,c5,c6⟩:=SB.out _ _ _ (LS.out _ _ _ _ H8.out);go_wp2_with fail;refine(CH.out _ _ H8.out).mono ?_;rintro e w9 ⟨rfl,hq⟩;have H9a:Hid _:=hq;have H9:Hid _:=LS.out _ _ _ _ H9a.out;clear hq CH c5 c6 H8 H9a;by_cases hh:h0=0
       case neg=>
        have hh':(h0 != 0)=true:=by simp[hh]
        have HE:Hid (Y=(refR h0,Xh,Dh)):=by show _=_;rw[HL2.out];simp[hh]
        clear hh;go_wp2_with fail;refine(CR.out _ _).mono ?_;rintro e w10 ⟨rfl,hb⟩;have H10:Hid _:=ON.out _ _ _ _ H9.out hb;clear hb;have K:=H10;exact re5
       case pos=>
        subst hh;obtain⟨c1,c2,c5,c6⟩:=SB.out _ _ _ H9.out;go_wp2_with fail;refine(CN.out _ _ H9.out).mono ?_;rintro e w12 ⟨rfl,hq⟩;have H12:Hid _:=hq;clear hq CN c1 c2 c5 c6 H9;by_cases hh:n0=0
        case neg=>
         have hh':(n0 != 0)=true:=by simp[hh]
         have HE:Hid (Y=(refR n0,Xn,Dn)):=by show _=_;rw[HL2.out];simp[hh]
         clear hh;go_wp2_with fail;refine(CR.out _ _).mono ?_;rintro e w13 ⟨rfl,hb⟩;have H13:Hid _:=ON.out _ _ _ _ H12.out hb;clear hb;have K:=H13;exact re5
        case pos=>
         subst hh;have HE:Hid (Y=(kinR 9,Xn,Dn)):=by show _=_;rw[HL2.out];simp
         have K:=H12;exact re5
theorem give201(E:Env SA TA BA)(c n sp sl:Int)(h:ShAt SA TA BA f M X a g D w)(ht:X.wt<8900)(hX:XOk X)(hc:Ver.R32 c/\Ver.R32 n)(hs:Ts sp sl):
  Calls Tryz.prog 99 #[pz f.sb,.agg #[ui c,ui n],.agg #[uw sp,ui sl]] w fun e w'=>e=.returned (rpV (giveF c n sp sl X a D).1 sy)/\ShTo SA TA BA f M w (giveF c n sp sl X a D).2.1 a g (giveF c n sp sl X a D).2.2 w':=by
 have HL0:giveF c n sp sl X a D=if(ownF c n X).isSome|| !Clk.lessB sp sl X.sp X.sl then(if(noteF (eUndo c n sp sl) X a D).1≠0 then(refR (noteF (eUndo c n sp sl) X a D).1,(noteF (eUndo c n sp sl) X a D).2)else(kinR 6,(noteF (eUndo c n sp sl) X a D).2))else(kinR 6,X,D):=rfl;obtain⟨b1,hb1⟩:∃b1,b1=w.heap.size+1:=⟨_,rfl⟩;obtain⟨b2,hb2⟩:∃b2,b2=b1+1:=⟨_,rfl⟩;obtain⟨Lo,hLo⟩:∃Lo:List (Nat×Obj),Lo=[(b2,.cells (zC 0 0 0 0) 40),(b1,.cells #[uw sp,ui sl] 28),(w.heap.size,.cells #[ui c,ui n] 26)]:=⟨_,rfl⟩;have H0:Hid (Cx SA TA BA f M w X a g D Lo (((w.alloc (.cells #[ui c,ui n] 26)).alloc (.cells #[uw sp,ui sl] 28)).alloc (.cells (zC 0 0 0 0) 40))):=by show Cx _ _ _ _ _ _ _ _ _ _ _ _;have h1:=(((Cx.start h).new E #[ui c,ui n] 26 (by decide)).new E #[uw sp,ui sl] 28 (by decide)).new E (zC 0 0 0 0) 40 (by decide);rw[size_al2,size_al2,<-hb1,<-hb2,<-hLo]at h1;exact h1
 have SB:Hid (∀(X:Sd) (D:Drm.Dr) W,Cx SA TA BA f M w X a g D Lo W->ce W w.heap.size 0 (ui c)/\ce W w.heap.size 1 (ui n)/\ce W b1 0 (uw sp)/\ce W b1 1 (ui sl)):=fun X D W hW=>by subst hLo;exact⟨hW.has.cell (.tail _ (.tail _ (.head _))) rfl,hW.has.cell (.tail _ (.tail _ (.head _))) rfl,hW.has.cell (.tail _ (.head _)) rfl,hW.has.cell (.tail _ (.head _)) rfl⟩
 have SP:Hid (∀(X:Sd) (D:Drm.Dr) W,Cx SA TA BA f M w X a g D Lo W->W.heap[b2]?=some (.cells (zC 0 0 0 0) 40 (0,0))):=fun X D W hW=>by subst hLo;exact hW.has _ (.head _)
 have HR:Hid (∀(X:Sd) (D:Drm.Dr) W (v0 v1 v2 v3 v4 v5 v6 v7 v8 v9 v10 v11 v12 v13:Value),Cx SA TA BA f M w X a g D Lo W->ShTo SA TA BA f M w X a g D (s14 W b2 v0 v1 v2 v3 v4 v5 v6 v7 v8 v9 v10 v11 v12 v13)):=fun X D W v0 v1 v2 v3 v4 v5 v6 v7 v8 v9 v10 v11 v12 v13 hW=>by subst hLo;exact hW.ret14 E (.head _) (by omega)
 have ON:Hid (∀(X:Sd) (D:Drm.Dr) W W',Cx SA TA BA f M w X a g D Lo W->Bz W W'->Cx SA TA BA f M w X a g D Lo W'):=fun X D W W' hW hb=>hW.on E hb;have CR:Hid (∀e W,Calls Tryz.prog 19 #[iw e] W fun r w'=>r=.returned (.agg (zC 0 e 0 0))/\Below W.heap.size W w'):=fun e W=>refused46 e W;have CS:Hid (∀k p l W,Calls Tryz.prog 90 #[iw k,.agg #[uw p,ui l]] W fun e w'=>e=.returned (.agg (zC k 0 p l))/\Below W.heap.size W w'):=fun k p l W=>said193 k p l W;obtain⟨⟨ok,ox⟩,oz,hov,hoz,hox⟩:=fs_parts (ownF c n X);have CW:Hid (∀W,Cx SA TA BA f M w X a g D Lo W->Calls Tryz.prog 89 #[pz f.sb,.agg #[ui c,ui n]] W fun e w'=>e=.returned (.tuple #[.agg (inC ok ox),.bool oz])/\Cx SA TA BA f M w X a g D Lo w'):=fun W hW=>by obtain⟨M9,h9,-,-⟩:=hW.sh;have:=own192 E c n h9 (by omega);rw[hov]at this;exact this.mono fun e w' h=>⟨h.1,hW.on E h.2⟩
 have SN:Hid (∀W,Cx SA TA BA f M w X a g D Lo W->ce W b1 0 (uw sp)/\ce W b1 1 (ui sl)/\ce W f.sb 5 (uw X.sp)/\ce W f.sb 6 (ui X.sl)):=fun W hW=>⟨(SB.out _ _ _ hW).2.2.1,(SB.out _ _ _ hW).2.2.2,hW.nums.1,hW.nums.2.1⟩;have CL:Hid (∀W,Cx SA TA BA f M w X a g D Lo W->Calls Tryz.prog 87 #[.agg #[uw sp,ui sl],.agg #[uw X.sp,ui X.sl]] W fun r w'=>r=.returned (.bool (Clk.lessB sp sl X.sp X.sl))/\Cx SA TA BA f M w X a g D Lo w'):=fun W hW=>(Clk.less17 sp sl X.sp X.sl W).mono fun r w' h=>⟨h.1,hW.on E h.2⟩;have DN:Hid (∀W k,Cx SA TA BA f M w X a g D Lo W->Cx SA TA BA f M w X a g D Lo (W.drewN k)):=fun W k hW=>hW.on E (Lgs.below_drewN (Below.refl _ _) k);have DW:Hid (∀W,Cx SA TA BA f M w X a g D Lo W->Cx SA TA BA f M w X a g D Lo W.drew):=fun W hW=>hW.drew E;have CN:Hid (∀W Lo,Cx SA TA BA f M w X a g D Lo W->Calls Tryz.prog 95 #[pz f.sb,.agg #[iw 5,ui c,ui n,uw sp,ui sl,uw 0,ui 0,uw 0,ui 0,su,ub 0,.bool false,sy]] W fun r w'=>r=.returned (iw (noteF (eUndo c n sp sl) X a D).1)/\Cx SA TA BA f M w (noteF (eUndo c n sp sl) X a D).2.1 a g (noteF (eUndo c n sp sl) X a D).2.2 Lo w'):=fun W Lo hW=>hW.calls fun M' hM=>by have:=note198 E (eUndo c n sp sl) none 0 hM (by omega) hX.t (ok_undo hc hs) (Nat.zero_le _) (WsIn.nil _ _);rw[enV_undo hc hs]at this;exact this
 rw[<-hoz]at HL0;have HL:Hid _:=HL0;generalize giveF c n sp sl X a D=Y at*;generalize (noteF (eUndo c n sp sl) X a D)=N at*;generalize hlb:Clk.lessB sp sl X.sp X.sl=lb at*;clear hLo h ht hX hc hs E HL0 hlb hov hoz hox;obtain⟨n0,Xn,Dn⟩:=N;dsimp only at CN HL;obtain⟨W2,hW2⟩:=xj (((w.alloc (.cells #[ui c,ui n] 26)).alloc (.cells #[uw sp,ui sl] 28)).alloc (.cells (zC 0 0 0 0) 40));rw[hW2]at H0;obtain⟨c1,c2,-,-⟩:=SB.out _ _ _ H0.out;go_enter Tryz.func99,Tryz.ntmps99;go_wp2_with fail;simp only[<-hb1,<-hb2];clear hW2 hb1 hb2;refine(CW.out _ H0.out).mono ?_;rintro e w3 ⟨rfl,hq⟩;have H3:Hid _:=hq;clear hq CW c1 c2 H0;have H4:Hid (Cx SA TA BA f M w X a g D Lo (w3.alloc (.cells (inC ok ox) 69))):=ON.out _ _ _ _ H3.out ((Below.refl _ _).alloc (Nat.le_refl _) _);go_upto_region 2 with fail
 obtain⟨W4,hW4⟩:=xj (w3.alloc (.cells (inC ok ox) 69));rw[hW4]at H4|-;clear hW4 H3;cases oz
 case true=>
  have HL2:Hid (Y=if n0≠0 then(refR n0,Xn,Dn)else(kinR 6,Xn,Dn)):=HL.out;clear HL CL
  go_quiet (fail)
  clear SN;have H5:Hid _:=DN.out _ nq H4.out;clear H4 DW;obtain⟨c1,c2,c3,c4⟩:=SB.out _ _ _ H5.out;go_wp2_with fail;refine(CN.out _ _ H5.out).mono ?_;rintro e w6 ⟨rfl,hq⟩;have H6:Hid _:=hq;clear hq CN c1 c2 c3 c4 H5;by_cases hh:n0=0
  case neg=>
   have hh':(n0 != 0)=true:=by simp[hh]
   have HE:Hid (Y=(refR n0,Xn,Dn)):=by show _=_;rw[HL2.out];simp[hh]
   clear hh;go_wp2_with fail;refine(CR.out _ _).mono ?_;rintro e w7 ⟨rfl,hb⟩;have H7:Hid _:=ON.out _ _ _ _ H6.out hb;clear hb;have K:=H7;exact re5
  case pos=>
   subst hh;have HE:Hid (Y=(kinR 6,Xn,Dn)):=by show _=_;rw[HL2.out];simp
   have K:=H6;exact re5
 case false=>
  go_region_held3 (fun W=>ce W b1 0 (uw sp)/\ce W b1 1 (ui sl)/\ce W f.sb 5 (uw X.sp)/\ce W f.sb 6 (ui X.sl)) (first|exact SN.out _ H4.out|exact SN.out _ (DW.out _ H4.out)|exact SN.out _ H5.out) (first
   |(go_at_call 87;refine(CL.out _ (DW.out _ H4.out)).mono ?_;rintro e w5 ⟨rfl,hq⟩;have H5:Hid _:=hq;clear hq))
  rename_i hHeld;clear hHeld SN CL DW H4;cases lb
  case true=>
   have HE:Hid (Y=(kinR 6,X,D)):=HL.out;clear CN HL;have K:=H5;exact re5
  case false=>
   have HL2:Hid (Y=if n0≠0 then(refR n0,Xn,Dn)else(kinR 6,Xn,Dn)):=HL.out;clear HL;obtain⟨c1,c2,c3,c4⟩:=SB.out _ _ _ H5.out;go_wp2_with fail;refine(CN.out _ _ H5.out).mono ?_;rintro e w6 ⟨rfl,hq⟩;have H6:Hid _:=hq;clear hq CN c1 c2 c3 c4 H5;by_cases hh:n0=0
   case neg=>
    have hh':(n0 != 0)=true:=by simp[hh]
    have HE:Hid (Y=(refR n0,Xn,Dn)):=by show _=_;rw[HL2.out];simp[hh]
    clear hh;go_wp2_with fail;refine(CR.out _ _).mono ?_;rintro e w7 ⟨rfl,hb⟩;have H7:Hid _:=ON.out _ _ _ _ H6.out hb;clear hb;have K:=H7;exact re5
   case pos=>
    subst hh;have HE:Hid (Y=(kinR 6,Xn,Dn)):=by show _=_;rw[HL2.out];simp
    have K:=H6;exact re5
theorem undo97(E:Env SA TA BA)(q:Rq)(wa:Option Addr)(wc:Nat)(sa:Option Addr)(sc:Nat)(h:ShAt SA TA BA f M X a g D w)(ht:X.wt<8900)(hX:XOk X)(hq:RqOk q):
  Calls Tryz.prog 41 #[pz f.sb,.agg (rqC q.k q wa wc sa sc)] w fun e w'=>e=.returned (rpV (undFn q X a D).1 sy)/\ShTo SA TA BA f M w (undFn q X a D).2.1 a g (undFn q X a D).2.2 w':=by
 have HL0:undFn q X a D=match knownF q.c q.n X with
  |some r=>(r,X,D)
  |none=>(giveF q.c q.n q.sp q.sl X a D):=rfl
 obtain⟨b1,Lo,hb1,hLo,H0,SP,HR,ON,NW,CR,CS⟩:=setq E h q.k q wa wc sa sc;have SB:Hid (∀(X:Sd) (D:Drm.Dr) W,Cx SA TA BA f M w X a g D Lo W->ce W w.heap.size 1 (ui q.c)/\ce W w.heap.size 2 (ui q.n)/\ce W w.heap.size 3 (uw q.sp)/\ce W w.heap.size 4 (ui q.sl)):=fun X D W hW=>by subst hLo;exact⟨hW.has.cell (.tail _ (.head _)) rfl,hW.has.cell (.tail _ (.head _)) rfl,hW.has.cell (.tail _ (.head _)) rfl,hW.has.cell (.tail _ (.head _)) rfl⟩
 obtain⟨kr,kz,hkv,hkz,hkr⟩:=kn_parts (knownF q.c q.n X);have CK:Hid (∀W,Cx SA TA BA f M w X a g D Lo W->Calls Tryz.prog 88 #[pz f.sb,.agg #[ui q.c,ui q.n]] W fun e w'=>e=.returned (.tuple #[.agg (rpD kr none 0 0),.bool kz])/\Cx SA TA BA f M w X a g D Lo w'):=fun W hW=>by obtain⟨M9,h9,-,-⟩:=hW.sh;have:=known191 E q.c q.n h9 (by omega) hq.c;rw[hkv]at this;exact this.mono fun e w' h=>⟨h.1,hW.on E h.2⟩
 have CG:Hid (∀W Lo,Cx SA TA BA f M w X a g D Lo W->Calls Tryz.prog 99 #[pz f.sb,.agg #[ui q.c,ui q.n],.agg #[uw q.sp,ui q.sl]] W fun r w'=>r=.returned (rpV (giveF q.c q.n q.sp q.sl X a D).1 sy)/\Cx SA TA BA f M w (giveF q.c q.n q.sp q.sl X a D).2.1 a g (giveF q.c q.n q.sp q.sl X a D).2.2 Lo w'):=fun W Lo hW=>hW.calls fun M' hM=>give201 E q.c q.n q.sp q.sl hM (by omega) hX hq.c hq.s;have HKz:Hid (kz=(knownF q.c q.n X).isSome/\∀x,knownF q.c q.n X=some x->kr=x):=⟨hkz,hkr⟩;have HL:Hid _:=HL0;generalize undFn q X a D=Y at*;generalize (giveF q.c q.n q.sp q.sl X a D)=G at*;clear hLo h ht hX hq E HL0 hkv hkz hkr;obtain⟨gr,Xg,Dg⟩:=G;dsimp only at CG HL;obtain⟨W2,hW2⟩:=xj ((w.alloc (.cells (rqC q.k q wa wc sa sc) 32)).alloc (.cells (zC 0 0 0 0) 40));rw[hW2]at H0;obtain⟨c1,c2,-⟩:=SB.out _ _ _ H0.out;go_enter Tryz.func41,Tryz.ntmps41;go_wp2_with fail;rw[<-hb1];clear hW2 hb1;refine(CK.out _ H0.out).mono ?_;rintro e w3 ⟨rfl,hq⟩;have H3:Hid _:=hq;clear hq CK c1 c2 H0;have hob:(w3.alloc (.cells (rpD kr none 0 0) 40)).heap[w3.heap.size]?=some (.cells (rpD kr none 0 0) 40 (0,0)):=heap_alloc_new w3 _;have H4:Hid (Cx SA TA BA f M w X a g D Lo (w3.alloc (.cells (rpD kr none 0 0) 40))):=ON.out _ _ _ _ H3.out ((Below.refl _ _).alloc (Nat.le_refl _) _);obtain⟨W4,hW4⟩:=xj (w3.alloc (.cells (rpD kr none 0 0) 40));rw[hW4]at hob H4;cases kz
 case true=>
  have HE:Hid (Y=(kr,X,D)):=by
   show _=_;rw[HL.out];cases hkn:knownF q.c q.n X with
   |none=>have:=HKz.out.1;rw[hkn]at this;cases this
   |some r=>rw[HKz.out.2 r hkn]
  obtain⟨i0,i1,i2,i3,i4,i5,i6,i7,i8,i9,i10,i11,i12,i13,-⟩:=free14 hob;clear hob;have K:=H4;exact re5
 case false=>
  have hkn:knownF q.c q.n X=none:=by
   cases hkn:knownF q.c q.n X with
   |none=>rfl
   |some r=>have:=HKz.out.1;rw[hkn]at this;cases this
  rw[hkn]at HL;clear hob HKz hkn;have HE:Hid (Y=(gr,Xg,Dg)):=HL.out;obtain⟨c1,c2,c3,c4⟩:=SB.out _ _ _ H4.out;go_wp2_with fail;refine(CG.out _ _ H4.out).mono ?_;rintro e w5 ⟨rfl,hq⟩;have H5:Hid _:=hq;clear hq CG c1 c2 c3 c4 H4 hW4 H3;unfold rpV;have K:=H5;exact re5
end Go.Proofs.YtdplfgcoaddbdaaGreat
