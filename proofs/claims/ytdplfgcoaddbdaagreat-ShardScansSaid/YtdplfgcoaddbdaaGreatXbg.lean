import Derived.Test.YtdplfgcoaddbdaaGreatXbf
set_option maxHeartbeats 4000000
set_option maxRecDepth 100000
set_option linter.unusedVariables false
set_option linter.unusedSimpArgs false
namespace Go.Proofs.YtdplfgcoaddbdaaGreat
open Go.RowKit
variable {SA:TyS}{TA:TyT}{BA:TyB}
variable {f:Fp}{M:Nat->Prop}{X:Sd}{a:Int}{g:Nat}{D:Drm.Dr}{w W W':World}{Lo:List (Nat×Obj)}
theorem max_pair{a b p l:Int}(h:0<=a/\0<=b):Clk.maxL [(a,b),(p,l)]=Clk.maxF a b p l:=by
 have e:Clk.maxF 0 0 a b=(a,b):=by
  unfold Clk.maxF;split
  ·rfl
  ·rename_i h1;simp[Clk.lessB]at h1;have h2:a=0:=by omega
   have h3:b=0:=by omega
   rw[h2,h3]
 simp only[Clk.maxL,List.foldl_cons,List.foldl_nil,e]
theorem next_nn{p l:Int}(h:0<=p/\0<=l):0<=(Clk.nextF p l).1/\0<=(Clk.nextF p l).2.1:=by
 unfold Clk.nextF;repeat' split
 all_goals exact⟨by simp;try omega,by simp;try omega⟩
theorem pus_steps(ph:Int)(q:Rq)(X:Sd)(a:Int)(D:Drm.Dr){t1 t2 t3:Int}(ht:Clk.nextF q.ap q.al=(t1,t2,t3)):pusFn ph q X a D=match knownF q.c q.n X with
  |some r=>(r,X,D)
  |none=>match ownF q.c q.n X with
   |none=>(giveF q.c q.n q.sp q.sl X a D)
   |some x=>if primF x.2 X=false then(refR 1,X,D)
    else if Clk.lateB x.2.sp ph then(giveF q.c q.n x.2.sp x.2.sl X a D)
    else if q.ap==0&&q.al==0 then(saidR 8 x.2.mp x.2.ml,X,D)
    else if t3≠0 then(refR t3,X,D)
    else if(hearF ph q.ap q.al X a D).1≠0 then(refR (hearF ph q.ap q.al X a D).1,(hearF ph q.ap q.al X a D).2)
    else(saidR 8 (Clk.maxF x.2.mp x.2.ml t1 t2).1 (Clk.maxF x.2.mp x.2.ml t1 t2).2,{(hearF ph q.ap q.al X a D).2.1 with T:=Lat.rseF q.c q.n t1 t2 (hearF ph q.ap q.al X a D).2.1.T},(hearF ph q.ap q.al X a D).2.2):=by
 unfold pusFn;rw[ht];rfl
theorem push98(E:Env SA TA BA)(ph:Int)(q:Rq)(wa:Option Addr)(wc:Nat)(sa:Option Addr)(sc:Nat)(h:ShAt SA TA BA f M X a g D w)(ht:X.wt<8900)(hX:XOk X)(hph:0<=ph)(hph2:ph<=18446744073709551615)(hq:RqOk q):
  Calls Tryz.prog 42 #[pz f.sb,uw ph,.agg (rqC q.k q wa wc sa sc)] w fun e w'=>e=.returned (rpV (pusFn ph q X a D).1 sy)/\ShTo SA TA BA f M w (pusFn ph q X a D).2.1 a g (pusFn ph q X a D).2.2 w':=by
 obtain⟨t1,t2,t3,hti⟩:∃t1 t2 t3,Clk.nextF q.ap q.al=(t1,t2,t3):=⟨_,_,_,rfl⟩;have HL0:=pus_steps ph q X a D hti;have htn:0<=t1/\0<=t2:=by have:=next_nn (p:=q.ap) (l:=q.al) ⟨hq.a.1.1,hq.a.2.1⟩;rw[hti]at this;exact this
 obtain⟨b1,Lo,hb1,hLo,H0,SP,HR,ON,NW,CR,CS⟩:=setq E h q.k q wa wc sa sc;have SB:Hid (∀(X:Sd) (D:Drm.Dr) W,Cx SA TA BA f M w X a g D Lo W->ce W w.heap.size 1 (ui q.c)/\ce W w.heap.size 2 (ui q.n)/\ce W w.heap.size 3 (uw q.sp)/\ce W w.heap.size 4 (ui q.sl)/\ce W w.heap.size 5 (uw q.ap)/\ce W w.heap.size 6 (ui q.al)):=fun X D W hW=>by subst hLo;exact⟨hW.has.cell (.tail _ (.head _)) rfl,hW.has.cell (.tail _ (.head _)) rfl,hW.has.cell (.tail _ (.head _)) rfl,hW.has.cell (.tail _ (.head _)) rfl,hW.has.cell (.tail _ (.head _)) rfl,hW.has.cell (.tail _ (.head _)) rfl⟩
 obtain⟨kr,kz,hkv,hkz,hkr⟩:=kn_parts (knownF q.c q.n X);have CK:Hid (∀W,Cx SA TA BA f M w X a g D Lo W->Calls Tryz.prog 88 #[pz f.sb,.agg #[ui q.c,ui q.n]] W fun e w'=>e=.returned (.tuple #[.agg (rpD kr none 0 0),.bool kz])/\Cx SA TA BA f M w X a g D Lo w'):=fun W hW=>by obtain⟨M9,h9,-,-⟩:=hW.sh;have:=known191 E q.c q.n h9 (by omega) hq.c;rw[hkv]at this;exact this.mono fun e w' h=>⟨h.1,hW.on E h.2⟩
 obtain⟨⟨ok,ox⟩,oz,hov,hoz,hox⟩:=fs_parts (ownF q.c q.n X);have CW:Hid (∀W,Cx SA TA BA f M w X a g D Lo W->Calls Tryz.prog 89 #[pz f.sb,.agg #[ui q.c,ui q.n]] W fun e w'=>e=.returned (.tuple #[.agg (inC ok ox),.bool oz])/\Cx SA TA BA f M w X a g D Lo w'):=fun W hW=>by obtain⟨M9,h9,-,-⟩:=hW.sh;have:=own192 E q.c q.n h9 (by omega);rw[hov]at this;exact this.mono fun e w' h=>⟨h.1,hW.on E h.2⟩
 have hIm:∀x,ownF q.c q.n X=some x->Ts x.2.sp x.2.sl/\Ts x.2.mp x.2.ml:=fun x hx=>hX.i x (own_mem hx);have CP:Hid (∀W Lo,Cx SA TA BA f M w X a g D Lo W->Calls Tryz.prog 96 #[pz f.sb,.agg (inC ok ox)] W fun r w'=>r=.returned (.bool (primF ox X))/\Cx SA TA BA f M w X a g D Lo w'):=fun W Lo hW=>by obtain⟨M9,h9,-,-⟩:=hW.sh;exact(prim199 E (ok,ox) h9 (by omega)).mono fun r w' h=>⟨h.1,hW.on E h.2⟩
 have CG:Hid (∀W Lo,Cx SA TA BA f M w X a g D Lo W->Calls Tryz.prog 99 #[pz f.sb,.agg #[ui q.c,ui q.n],.agg #[uw q.sp,ui q.sl]] W fun r w'=>r=.returned (rpV (giveF q.c q.n q.sp q.sl X a D).1 sy)/\Cx SA TA BA f M w (giveF q.c q.n q.sp q.sl X a D).2.1 a g (giveF q.c q.n q.sp q.sl X a D).2.2 Lo w'):=fun W Lo hW=>hW.calls fun M' hM=>give201 E q.c q.n q.sp q.sl hM (by omega) hX hq.c hq.s;have CG2:Hid (Ts ox.sp ox.sl->∀W Lo,Cx SA TA BA f M w X a g D Lo W->Calls Tryz.prog 99 #[pz f.sb,.agg #[ui q.c,ui q.n],.agg #[uw ox.sp,ui ox.sl]] W fun r w'=>r=.returned (rpV (giveF q.c q.n ox.sp ox.sl X a D).1 sy)/\Cx SA TA BA f M w (giveF q.c q.n ox.sp ox.sl X a D).2.1 a g (giveF q.c q.n ox.sp ox.sl X a D).2.2 Lo w'):=fun ho W Lo hW=>hW.calls fun M' hM=>give201 E q.c q.n ox.sp ox.sl hM (by omega) hX hq.c ho;have CT:Hid (Ts ox.sp ox.sl->∀W,Calls Tryz.prog 100 #[.agg #[uw ox.sp,ui ox.sl],.agg #[uw ph,ui 0]] W fun r w'=>r=.returned (.bool (Clk.lateB ox.sp ph))/\Below W.heap.size W w'):=fun ho W=>Clk.late15 ox.sp ox.sl ph 0 W ho.1.1 hph hph2;have CX2:Hid (∀W,Calls Tryz.prog 79 #[.agg #[uw q.ap,ui q.al]] W fun r w'=>r=.returned (.tuple #[.agg #[uw t1,ui t2],iw t3])/\Below W.heap.size W w'):=fun W=>by have:=Clk.next19 q.ap q.al W hq.a.1.1 hq.a.2.1;rw[hti]at this;exact this
 have hhe:=hear_ok (f:=ph) (a:=a) (D:=D) hq.a hX;have CH:Hid (∀W Lo,Cx SA TA BA f M w X a g D Lo W->Calls Tryz.prog 92 #[pz f.sb,uw ph,.agg #[uw q.ap,ui q.al]] W fun r w'=>r=.returned (iw (hearF ph q.ap q.al X a D).1)/\Cx SA TA BA f M w (hearF ph q.ap q.al X a D).2.1 a g (hearF ph q.ap q.al X a D).2.2 Lo w'):=fun W Lo hW=>hW.calls fun M' hM=>hear195 E ph q.ap q.al hM (by omega) hX hph hq.a;obtain⟨rb,hrb⟩:=xj (Lat.rseB q.c q.n t1 t2 (hearF ph q.ap q.al X a D).2.1.T);have CRs:Hid (∀W Lo,Cx SA TA BA f M w (hearF ph q.ap q.al X a D).2.1 a g (hearF ph q.ap q.al X a D).2.2 Lo W->Calls Tryz.prog 80 #[pz f.la,.agg #[ui q.c,ui q.n],.agg #[uw t1,ui t2]] W fun r w'=>r=.returned (.bool rb)/\Cx SA TA BA f M w {(hearF ph q.ap q.al X a D).2.1 with T:=Lat.rseF q.c q.n t1 t2 (hearF ph q.ap q.al X a D).2.1.T} a g (hearF ph q.ap q.al X a D).2.2 Lo w'):=fun W Lo hW=>hW.calls fun M' hM=>by have:=sh_raise E q.c q.n t1 t2 hM (wt_T (by rw[hhe.1.wt];omega)) htn;rw[hrb]at this;exact this
 have CM:Hid (Ts ox.mp ox.ml->∀(X:Sd) (D:Drm.Dr) W Lo,Cx SA TA BA f M w X a g D Lo W->Calls Tryz.prog 101 #[.slice (some ⟨W.heap.size,0,none⟩) 2 2] (W.alloc (.cells #[uw ox.mp,ui ox.ml,uw t1,ui t2] 28)) fun r w'=>r=.returned (.agg #[uw (Clk.maxF ox.mp ox.ml t1 t2).1,ui (Clk.maxF ox.mp ox.ml t1 t2).2])/\Cx SA TA BA f M w X a g D Lo w'):=fun ho X D W Lo hW=>by
  have hn:=heap_alloc_new W (.cells #[uw ox.mp,ui ox.ml,uw t1,ui t2] 28);have:=Clk.max23_row W.heap.size (W.alloc (.cells #[uw ox.mp,ui ox.ml,uw t1,ui t2] 28)) (by simp) 2 [(ox.mp,ox.ml),(t1,t2)] rfl (by omega) (fun i hi=>by
   rcases i with _|_|i
   ·exact⟨Drm.blk_cell (k:=0) hn rfl,Drm.blk_cell (k:=1) hn rfl⟩
   ·exact⟨Drm.blk_cell (k:=2) hn rfl,Drm.blk_cell (k:=3) hn rfl⟩
   ·omega)
  rw[max_pair ⟨ho.1.1,ho.2.1⟩]at this;exact this.mono fun r w' h=>⟨h.1,hW.on E (((Below.refl _ _).alloc (Nat.le_refl _) _).trans (h.2.mono (by simp)))⟩
 have LS:Hid (∀(X:Sd) (D:Drm.Dr) W p,Cx SA TA BA f M w X a g D (p::Lo) W->Cx SA TA BA f M w X a g D Lo W):=fun X D W p hW=>hW.less (fun x hx=>.tail _ hx);have LS2:Hid (∀(X:Sd) (D:Drm.Dr) W p p',Cx SA TA BA f M w X a g D (p::p'::Lo) W->Cx SA TA BA f M w X a g D Lo W):=fun X D W p p' hW=>hW.less (fun x hx=>.tail _ (.tail _ hx));have ONL:Hid (∀(X:Sd) (D:Drm.Dr) W W' Lo,Cx SA TA BA f M w X a g D Lo W->Bz W W'->Cx SA TA BA f M w X a g D Lo W'):=fun X D W W' Lo hW hb=>hW.on E hb;have NI:Hid (∀(X:Sd) (D:Drm.Dr) W cs,Cx SA TA BA f M w X a g D Lo W->Cx SA TA BA f M w X a g D ((W.heap.size,.cells cs 69 (0,0))::Lo) (W.alloc (.cells cs 69 (0,0)))):=fun X D W cs hW=>hW.new E cs 69 (by decide);have NT:Hid (∀(X:Sd) (D:Drm.Dr) W Lo cs,Cx SA TA BA f M w X a g D Lo W->Cx SA TA BA f M w X a g D ((W.heap.size,.cells cs 28 (0,0))::Lo) (W.alloc (.cells cs 28 (0,0)))):=fun X D W Lo cs hW=>hW.new E cs 28 (by decide);have SI:Hid (∀(X:Sd) (D:Drm.Dr) W bi,Cx SA TA BA f M w X a g D ((bi,.cells (inC ok ox) 69 (0,0))::Lo) W->W.heap[bi]?=some (.cells (inC ok ox) 69 (0,0))):=fun X D W bi hW=>hW.has _ (.head _);have SI2:Hid (∀(X:Sd) (D:Drm.Dr) W bi bl,Cx SA TA BA f M w X a g D ((bl,.cells #[uw t1,ui t2] 28 (0,0))::(bi,.cells (inC ok ox) 69 (0,0))::Lo) W->W.heap[bi]?=some (.cells (inC ok ox) 69 (0,0))):=fun X D W bi bl hW=>hW.has _ (.tail _ (.head _));have SH:Hid (∀(X:Sd) (D:Drm.Dr) bi bl W,Cx SA TA BA f M w X a g D ((bl,.cells #[uw t1,ui t2] 28 (0,0))::(bi,.cells (inC ok ox) 69 (0,0))::Lo) W->ce W f.sb 3 (pz f.la)/\ce W w.heap.size 1 (ui q.c)/\ce W w.heap.size 2 (ui q.n)/\ce W bl 0 (uw t1)/\ce W bl 1 (ui t2)):=fun X D bi bl W hW=>⟨hW.ptrs.2.2.2.1,(SB.out _ _ _ (LS2.out _ _ _ _ _ hW)).1,(SB.out _ _ _ (LS2.out _ _ _ _ _ hW)).2.1,hW.has.cell (.head _) rfl,hW.has.cell (.head _) rfl⟩;have DW:Hid (∀(X:Sd) (D:Drm.Dr) W Lo,Cx SA TA BA f M w X a g D Lo W->Cx SA TA BA f M w X a g D Lo W.drew):=fun X D W Lo hW=>hW.drew E;have HKz:Hid (kz=(knownF q.c q.n X).isSome/\∀x,knownF q.c q.n X=some x->kr=x):=⟨hkz,hkr⟩;have HOz:Hid (oz=(ownF q.c q.n X).isSome/\∀x,ownF q.c q.n X=some x->(ok,ox)=x):=⟨hoz,hox⟩;have HIm:Hid (∀x,ownF q.c q.n X=some x->Ts x.2.sp x.2.sl/\Ts x.2.mp x.2.ml):=hIm;have HL:Hid _:=HL0;have eq32:∀W,(binOp .eql 28 (.agg #[uw q.ap,ui q.al]) (.agg #[uw 0,ui 0])).run Tryz.prog W=.ok (.bool (q.ap==0&&q.al==0)) W:=fun W=>Clk.run_eql25 _ _ _ _ W;generalize pusFn ph q X a D=Y at*;clear hLo h ht hX hph hph2 hq E HL0 hhe hkv hkz hkr hov hoz hox hrb htn hti hIm;obtain⟨W2,hW2⟩:=xj ((w.alloc (.cells (rqC q.k q wa wc sa sc) 32)).alloc (.cells (zC 0 0 0 0) 40));rw[hW2]at H0;obtain⟨c1,c2,-⟩:=SB.out _ _ _ H0.out;go_enter Tryz.func42,Tryz.ntmps42;go_wp2_with fail;rw[<-hb1];clear hW2 hb1;refine(CK.out _ H0.out).mono ?_;rintro e w3 ⟨rfl,hq⟩;have H3:Hid _:=hq;clear hq CK c1 c2 H0;have hob:(w3.alloc (.cells (rpD kr none 0 0) 40)).heap[w3.heap.size]?=some (.cells (rpD kr none 0 0) 40 (0,0)):=heap_alloc_new w3 _;have H4:Hid (Cx SA TA BA f M w X a g D Lo (w3.alloc (.cells (rpD kr none 0 0) 40))):=ON.out _ _ _ _ H3.out ((Below.refl _ _).alloc (Nat.le_refl _) _);obtain⟨W4,hW4⟩:=xj (w3.alloc (.cells (rpD kr none 0 0) 40));rw[hW4]at hob H4;cases kz
 case true=>
  have HE:Hid (Y=(kr,X,D)):=by
   show _=_;rw[HL.out];cases hkn:knownF q.c q.n X with
   |none=>have:=HKz.out.1;rw[hkn]at this;cases this
   |some r=>rw[HKz.out.2 r hkn]
  obtain⟨i0,i1,i2,i3,i4,i5,i6,i7,i8,i9,i10,i11,i12,i13,-⟩:=free14 hob;clear hob;have K:=H4;exact re5
 case false=>
  have hkn:knownF q.c q.n X=none:=by
   cases hkn:knownF q.c q.n X with
   |none=>rfl
   |some r=>have:=HKz.out.1;rw[hkn]at this;cases this
  rw[hkn]at HL;clear hob HKz hkn;obtain⟨c1,c2,-⟩:=SB.out _ _ _ H4.out;go_wp2_with fail;refine(CW.out _ H4.out).mono ?_;rintro e w5 ⟨rfl,hq⟩;have H5:Hid _:=hq;clear hq CW c1 c2 H4 hW4 H3;have H6:Hid _:=NI.out _ _ _ (inC ok ox) H5.out;obtain⟨W6,hW6⟩:=xj (w5.alloc (.cells (inC ok ox) 69));rw[hW6]at H6;obtain⟨bi,hbi⟩:=xj w5.heap.size;rw[hbi]at H6;cases oz
  case false=>
   have hkn:ownF q.c q.n X=none:=by
    cases hkn:ownF q.c q.n X with
    |none=>rfl
    |some r=>have:=HOz.out.1;rw[hkn]at this;cases this
   rw[hkn]at HL;dsimp only at HL;generalize (giveF q.c q.n q.sp q.sl X a D)=G at*;obtain⟨gr,Xg,Dg⟩:=G;dsimp only at CG HL;have HE:Hid (Y=(gr,Xg,Dg)):=HL.out;have H6b:Hid _:=LS.out _ _ _ _ H6.out;clear CH CP CRs CM CG2 CT CX2 hkn;obtain⟨c1,c2,c3,c4,-⟩:=SB.out _ _ _ H6b.out;go_wp2_with fail;refine(CG.out _ _ H6b.out).mono ?_;rintro e wg ⟨rfl,hq⟩;have HG:Hid _:=hq;clear hq;unfold rpV;have K:=HG;exact re5
  case true=>
   obtain⟨hkn,hts⟩:ownF q.c q.n X=some (ok,ox)/\(Ts ox.sp ox.sl/\Ts ox.mp ox.ml):=by
    cases hkn:ownF q.c q.n X with
    |none=>have:=HOz.out.1;rw[hkn]at this;cases this
    |some r=>
     have h1:=HIm.out r hkn;rw[<-HOz.out.2 r hkn]at h1;exact⟨by rw[HOz.out.2 r hkn],h1⟩
   rw[hkn]at HL;have CG3:Hid _:=CG2.out hts.1;have CT3:Hid _:=CT.out hts.1;have CM3:Hid _:=CM.out hts.2;clear hkn hts CG CG2 CT CM HOz HIm;dsimp only at HL;generalize (giveF q.c q.n ox.sp ox.sl X a D)=G at*;generalize (hearF ph q.ap q.al X a D)=H at*;generalize Clk.maxF ox.mp ox.ml t1 t2=mm at*;generalize Clk.lateB ox.sp ph=lt at*;generalize primF ox X=pr at*;generalize (q.ap==0&&q.al==0)=zz at*;obtain⟨gr,Xg,Dg⟩:=G;obtain⟨h0,Xh,Dh⟩:=H;obtain⟨m1,m2⟩:=mm;dsimp only at CH CG3 CM3 CRs HL;generalize {Xh with T:=Lat.rseF q.c q.n t1 t2 Xh.T}=Xr at*;obtain⟨i0,i1,i2,i3,i4,i5,i6,i7,i8,i9,-⟩:=free10 (SI.out _ _ _ _ H6.out);go_wp2_with fail;clear hW6 hbi;refine(CP.out _ _ H6.out).mono ?_;rintro e w7 ⟨rfl,hq⟩;have H7:Hid _:=hq;clear hq CP i0 i1 i2 i3 i4 i5 i6 i7 i8 i9 H6 H5;cases pr
   case false=>
    have HE:Hid (Y=(refR 1,X,D)):=HL.out;have H7b:Hid _:=LS.out _ _ _ _ H7.out;go_wp2_with fail;refine(CR.out _ _).mono ?_;rintro e w8 ⟨rfl,hb⟩;have H8:Hid _:=ON.out _ _ _ _ H7b.out hb;clear hb;have K:=H8;exact re5
   case true=>
    obtain⟨-,-,i2,i3,-⟩:=free10 (SI.out _ _ _ _ H7.out);go_wp2_with fail;refine(CT3.out _).mono ?_;rintro e w8 ⟨rfl,hb⟩;have H8:Hid _:=ONL.out _ _ _ _ _ H7.out hb;clear hb CT3 i2 i3 H7;cases lt
    case true=>
     have HE:Hid (Y=(gr,Xg,Dg)):=HL.out;have H8b:Hid _:=LS.out _ _ _ _ H8.out;obtain⟨-,-,i2,i3,-⟩:=free10 (SI.out _ _ _ _ H8.out);obtain⟨c1,c2,-⟩:=SB.out _ _ _ H8b.out;go_wp2_with fail;refine(CG3.out _ _ H8b.out).mono ?_;rintro e wg ⟨rfl,hq⟩;have HG:Hid _:=hq;clear hq;unfold rpV;have K:=HG;exact re5
    case false=>
     obtain⟨-,-,-,-,c5,c6⟩:=SB.out _ _ _ (LS.out _ _ _ _ H8.out);obtain⟨-,-,-,-,i4,i5,-⟩:=free10 (SI.out _ _ _ _ H8.out);cases zz
     case true=>
      have HE:Hid (Y=(saidR 8 ox.mp ox.ml,X,D)):=HL.out;have H8b:Hid _:=LS.out _ _ _ _ H8.out;go_wp2_with fail;refine(CS.out _ _ _ _).mono ?_;rintro e w9 ⟨rfl,hb⟩;have H9:Hid _:=ON.out _ _ _ _ H8b.out hb;clear hb i4 i5;have K:=H9;exact re5
     case false=>
      go_wp2_with fail;refine(CX2.out _).mono ?_;rintro e w9 ⟨rfl,hb⟩;have H9:Hid _:=ONL.out _ _ _ _ _ H8.out hb;clear hb CX2 c5 c6 i4 i5 eq32 H8;have H10:Hid _:=NT.out _ _ _ _ #[uw t1,ui t2] H9.out;go_upto_region 14 with fail
      obtain⟨W10,hW10⟩:=xj (w9.alloc (.cells #[uw t1,ui t2] 28));obtain⟨bl,hbl⟩:=xj w9.heap.size;rw[hW10,hbl]at H10;rw[hW10,hbl];clear hW10 hbl H9;by_cases hh:t3=0
      case neg=>
       have hh':(t3 != 0)=true:=by simp[hh]
       have HE:Hid (Y=(refR t3,X,D)):=by show _=_;rw[HL.out];simp[hh]
       have H10b:Hid _:=LS2.out _ _ _ _ _ H10.out;clear hh;go_wp2_with fail;refine(CR.out _ _).mono ?_;rintro e w11 ⟨rfl,hb⟩;have H11:Hid _:=ON.out _ _ _ _ H10b.out hb;clear hb;have K:=H11;exact re5
      case pos=>
       subst hh;obtain⟨-,-,-,-,c5,c6⟩:=SB.out _ _ _ (LS2.out _ _ _ _ _ H10.out);go_wp2_with fail;refine(CH.out _ _ H10.out).mono ?_;rintro e w11 ⟨rfl,hq⟩;have H11:Hid _:=hq;clear hq CH c5 c6 H10;by_cases hh:h0=0
       case neg=>
        have hh':(h0 != 0)=true:=by simp[hh]
        have HE:Hid (Y=(refR h0,Xh,Dh)):=by show _=_;rw[HL.out];simp[hh]
        have H11b:Hid _:=LS2.out _ _ _ _ _ H11.out;clear hh;go_wp2_with fail;refine(CR.out _ _).mono ?_;rintro e w12 ⟨rfl,hb⟩;have H12:Hid _:=ON.out _ _ _ _ H11b.out hb;clear hb;have K:=H12;exact re5
       case pos=>
        subst hh;have HE:Hid (Y=(saidR 8 m1 m2,Xr,Dh)):=by show _=_;rw[HL.out];simp
        clear HL;go_wp2_with fail;go_region_held3 (fun W=>ce W f.sb 3 (pz f.la)/\ce W w.heap.size 1 (ui q.c)/\ce W w.heap.size 2 (ui q.n)/\ce W bl 0 (uw t1)/\ce W bl 1 (ui t2)) (first|exact SH.out _ _ _ _ _ H11.out|exact SH.out _ _ _ _ _ (DW.out _ _ _ _ H11.out)|exact SH.out _ _ _ _ _ H12.out) (first
         |(go_at_call 80;refine(CRs.out _ _ (DW.out _ _ _ _ H11.out)).mono ?_;rintro e w12 ⟨rfl,hq⟩;have H12:Hid _:=hq;clear hq))
        rename_i hHeld;clear hHeld CRs DW H11;obtain⟨-,-,-,k0,k1⟩:=SH.out _ _ _ _ _ H12.out;obtain⟨-,-,-,-,i4,i5,-⟩:=free10 (SI2.out _ _ _ _ _ H12.out);go_wp2_with fail;refine(CM3.out _ _ _ _ H12.out).mono ?_;rintro e w13 ⟨rfl,hq⟩;have H13:Hid _:=LS2.out _ _ _ _ _ hq;clear hq CM3 k0 k1 i4 i5 H12;go_wp2_with fail;refine(CS.out _ _ _ _).mono ?_;rintro e w14 ⟨rfl,hb⟩;have H14:Hid _:=ON.out _ _ _ _ H13.out hb;clear hb;have K:=H14;exact re5
def TOwn(base:Nat)(v:Value)(L:List (Int×Int))(w:World):Prop:=w.ownsRow base 26 2 v L.length (rowC Lat.txc L)
def TAt(B:Nat)(v:Value)(L:List (Int×Int))(w:World):Prop:=RwAt B 2 v L.length (rowC Lat.txc L) w
theorem below_grown_tx{base:Nat}{v:Value}{L:List (Int×Int)}{a w w':World}(hb:Below base a w)(hs:base<=w.heap.size)(hI:TOwn base v L w)(hg:w.grownBy w' v.ownBlock):Below base a w':=
 hb.grown hg hs fun k hk=>(World.ownsRow.lt hI k hk).1
theorem wpList_append_tx{ops:Array Oper}{rest:List Oper}{o:Oper}{a:Act}{Q:Exit->Act->World->Prop}{w:World}(hw:Region.wanted o (yielded ops a.tmps)=true)(s x:Operand)(ho:o.op=.call {callee:=.builtin .append,args:=#[s,x],argTypes:=#[30,30]})(base B:Nat)(L X:List (Int×Int))(v vx:Value)(hs:a.eval s=v)(hx:a.eval x=vx)(hI:TOwn base v L w)(hX:TAt B vx X w)(hB:base<=w.heap.size)(hl:L.length+X.length<=1048576)(h:∀v' w',TOwn base v' (L++X) w'->w.grownBy w' v.ownBlock->wpList Tryz.prog ops Q rest (a.put o.dst v') w'):wpList Tryz.prog ops Q (o::rest) a w:=by obtain⟨i0,hin0,hi0,hi1,hi2⟩:=info_parts info30;refine wpList_append_rw (H:=⟨hI,hX,rowC_cells Lat.txc (fun x u hu=>by simp[Lat.txc]at hu;rcases hu with rfl|rfl<;>rfl) _,hB,hl⟩) Tryz.underlying30 hin0 hi0 hi1 hi2 rfl (by decide) (by decide) s x ho hw hs hx ?_;intro v' w' h1 h2 _;refine h v' w' ?_ h2;unfold TOwn;rw[rowC_append,List.length_append];exact h1
theorem grow310(n:Nat)(w:World)(hn:n<=1048576):
  Calls Tryz.prog 202 #[sy,iw n] w fun e w'=>∃v',e=.returned v'/\TOwn w.heap.size v' [] w'/\Below w.heap.size w w':=by
 obtain⟨i0,hi,hz0,hz1,hz2⟩:=info_parts info30;by_cases h0:n=0
 ·subst h0;go_enter Tryz.func202,Tryz.ntmps202;go_wp2;go_ret;exact⟨_,rfl,Lat.own_nil _ _ _ _,Below.refl _ _⟩
 ·have hrz:=fun ty=>Lib.run_append_grow_zeros (P:=Tryz.prog) w 30 3 ty 26 i0 _ .i64 .i64 Tryz.underlying30 Tryz.underlying3 hi hz0 none 0 0 [] (run_firstCells_none w.drew i0.size 0 0 0) n (by omega) (by rw[hz1];decide) (by omega) (by omega) (by rw[hz2];omega) (by rw[hz2];exact growslice_fits (by omega) (by omega));have hG:=grownCap_ge w (0+n) 0 26;have hG2:=grownCap_le_maxLen w (0+n) 0 26 (by unfold maxLen;omega);simp only[Nat.zero_add]at hrz hG hG2;obtain⟨G,hGe⟩:=xj (grownCap w n 0 26);rw[hGe]at hrz hG hG2;obtain⟨cur,hcur⟩:∃cur,cur=(([]:List Value).toArray++Builtin.zeroCells (Value.agg #[ui 0,ui 0]).cells n++Builtin.zeroCells (Value.agg #[ui 0,ui 0]).cells (G-n)):=⟨_,rfl⟩;rw[<-hcur]at hrz;have HS:Hid (cur.size=G*2):=by show _=_;rw[hcur];simp only[Array.size_append,List.size_toArray,size_zeroCells,List.length_nil];show 0+n*2+(G-n)*2=G*2;omega
  have HG:Hid (G<=maxLen):=hG2;have h1:¬((n:Int)<0):=by omega
  have h2:(0:Int)<n:=by omega
  clear hcur hGe hi hz0 hz1 hz2 hG2;go_enter Tryz.func202,Tryz.ntmps202;go_wp2_with (at_builtin;refine Lib.wpList_append_run _ rfl _ _ _ _ rfl _ _ rfl rfl _ _ (hrz _) ?_);go_ret;refine⟨_,rfl,⟨by simp[rowC],.inr ⟨w.heap.size,G,cur,rfl,Nat.le_refl _,heap_alloc_new w.drew _,Nat.zero_le _,HG.out,HS.out,by simp[rowC]⟩⟩,?_⟩;exact⟨rfl,rfl,rfl,by simp,fun k hk=>heap_alloc_old w.drew _ hk⟩
def dz:Value×List (Int×Int):=(sy,[])
def cat:List (Value×List (Int×Int))->List (Int×Int)
 |[]=>[]
 |x::r=>x.2++cat r
theorem cat_snoc(l:List (Value×List (Int×Int)))(x:Value×List (Int×Int)):cat (l++[x])=cat l++x.2:=by
 induction l with
 |nil=>simp[cat]
 |cons a l ih=>simp[cat,ih]
theorem cat_take{LS:List (Value×List (Int×Int))}{k:Nat}(h:k<LS.length):cat (LS.take (k+1))=cat (LS.take k)++(LS.getD k dz).2:=by rw[List.take_succ_eq_append_getElem h,cat_snoc];simp[List.getD,h]
theorem cat_le(LS:List (Value×List (Int×Int)))(k:Nat):(cat (LS.take k)).length<=(cat LS).length:=by
 induction LS generalizing k with
 |nil=>simp[cat]
 |cons a l ih=>
  cases k with
  |zero=>simp[cat]
  |succ k=>
   have:=ih k;simp only[List.take_succ_cons,cat,List.length_append];omega
theorem concat261(B sb:Nat)(LS:List (Value×List (Int×Int)))(w:World)(hc:∀k,k<LS.length->w.cell? ⟨sb,k,none⟩=some (LS.getD k dz).1)(hv:∀k,k<LS.length->TAt B (LS.getD k dz).1 (LS.getD k dz).2 w)
  (hsb:sb<w.heap.size) (hB:B<=w.heap.size) (hl:(cat LS).length<=1048576) (hn:LS.length<=1000):
  Calls Tryz.prog 157 #[.slice (some ⟨sb,0,none⟩) LS.length LS.length] w fun e w'=>∃v',e=.returned v'/\TAt w'.heap.size v' (cat LS) w'/\Below w.heap.size w w':=by
 have HC:Hid _:=hc;have HV:Hid _:=hv;have HSb:Hid _:=hsb;have HB:Hid _:=hB;have HL:Hid _:=hl;clear hc hv hsb hB hl;go_enter Tryz.func157,Tryz.ntmps157;go_wp2_with fail;go_loopw [3,11] (fun s i wr=>∃k:Nat,k<=LS.length/\i=iw k/\s=iw (cat (LS.take k)).length/\w=wr) (fun _ i _=>LS.length-(intOf i).toNat)
 case atStart=>exact⟨0,Nat.zero_le _,rfl,by simp[cat],rfl⟩
 case round=>
  obtain⟨k,hk,rfl,rfl,rfl⟩:=hrel;by_cases hkl:k<LS.length
  ·have c0:=HC.out k hkl;obtain⟨ao,cap,hvk,-,hlc,hcm,-⟩:=HV.out k hkl;rw[hvk]at c0;clear hvk;have HT:Hid _:=cat_take hkl;have hle:(cat (LS.take k)).length<=1048576:=Nat.le_trans (cat_le LS k) HL.out;have hle2:(cat (LS.take k)).length+(LS.getD k dz).2.length<=1048576:=by have h1:=cat_le LS (k+1);rw[HT.out,List.length_append]at h1;exact Nat.le_trans h1 HL.out
   have HT2:Hid ((cat (LS.take (k+1))).length=(cat (LS.take k)).length+(LS.getD k dz).2.length):=by rw[HT.out];show _=_;simp
   clear HT;generalize (LS.getD k dz).2.length=m at*;generalize (cat (LS.take k)).length=t at*;have hkl':(k:Int)<LS.length:=by omega
   have hadd:IntKind.i64.wrap ((t:Int)+m)=((t+m:Nat):Int):=by simp[IntKind.wrap,IntKind.signed,IntKind.bits];omega
   have hnn:¬(((t+m:Nat):Int)<0):=by omega
   go_wp2_with fail;go_roundw
   case rel=>exact⟨k+1,by omega,by go_num,by rw[HT2.out];go_num,by trivial⟩
   case measure=>simp[intOf];omega
  ·have hkl':¬(k:Int)<LS.length:=by omega
   have HK:Hid (cat (LS.take k)=cat LS):=by rw[List.take_of_length_le (by omega)];exact rfl
   rw[HK.out];clear HK;go_wp2_with fail;refine(grow310 _ _ HL.out).mono ?_;rintro e w1 ⟨v1,rfl,ho1,hb1⟩;have HO:Hid _:=ho1;have H1:Hid _:=hb1;clear ho1 hb1;go_wp2_with fail;go_loopw [6,27] (fun s i wr=>∃k:Nat,k<=LS.length/\i=iw k/\TOwn w.heap.size s (cat (LS.take k)) wr/\Below w.heap.size w wr) (fun _ i _=>LS.length-(intOf i).toNat)
   case atStart=>exact⟨0,Nat.zero_le _,rfl,HO.out,H1.out⟩
   case round=>
    obtain⟨k,hk,rfl,hown,hbr⟩:=hrel;have HOk:Hid _:=hown;have HBr:Hid _:=hbr;clear hown hbr;by_cases hkl:k<LS.length
    ·have c0:wr.cell? ⟨sb,k,none⟩=some (LS.getD k dz).1:=by rw[HBr.out.cell (p:=⟨_,_,none⟩) HSb.out];exact HC.out k hkl
     have HVk:Hid (TAt w.heap.size (LS.getD k dz).1 (LS.getD k dz).2 wr):=RwAt.on (RwAt.le (HV.out k hkl) HB.out) HBr.out;have HT:Hid _:=cat_take hkl;have HLe:Hid ((cat (LS.take k)).length+(LS.getD k dz).2.length<=1048576):=by have h1:=cat_le LS (k+1);rw[HT.out,List.length_append]at h1;exact Nat.le_trans h1 HL.out
     generalize (LS.getD k dz).1=vk at*;generalize (LS.getD k dz).2=Xk at*;have hkl':(k:Int)<LS.length:=by omega
     go_wp2_with (at_builtin;refine wpList_append_tx rfl _ _ rfl w.heap.size w.heap.size (cat (LS.take k)) Xk _ _ rfl rfl HOk.out HVk.out HBr.out.size HLe.out ?_);intro v' w2 hown hg;have HO2:Hid (TOwn w.heap.size v' (cat (LS.take (k+1))) w2):=by rw[HT.out];exact hown
     have HB2:Hid (Below w.heap.size w w2):=below_grown_tx HBr.out HBr.out.size HOk.out hg;clear hown hg;go_wp2_with fail;go_roundw
     case rel=>exact⟨k+1,by omega,by go_num,HO2.out,HB2.out⟩
     case measure=>simp[intOf];omega
    ·have hkl':¬(k:Int)<LS.length:=by omega
     go_wp2;go_ret;have hf:=HOk.out;rw[List.take_of_length_le (by omega)]at hf;exact⟨_,rfl,rw_own hf,HBr.out⟩
theorem SkIn.kept{L:List (Int×Int)}{ao:Option Addr}{cp:Nat}(h:TAt w.heap.size (.slice ao L.length cp) L w)(hn:0<L.length->∀k,(Value.slice ao L.length cp).ownBlock=some k->¬M k)(hk:Kept M w W):TAt W.heap.size (.slice ao L.length cp) L W:=by
 rcases Nat.eq_zero_or_pos L.length with e|e
 ·have:L=[]:=List.eq_nil_of_length_eq_zero e;subst this;obtain⟨ao',cap',e1,e2,e3,e4,e5⟩:=h;refine⟨ao',cap',e1,e2,e3,e4,fun h0=>?_⟩;obtain⟨b,off,rfl,-,-⟩:=e5 h0;exact⟨b,off,rfl,fun h=>absurd h (by simp),fun j u hj=>by simp[rowC]at hj⟩
 ·exact RwAt.le (rw_keep h hk (hn e)) hk.size
theorem hind188(E:Env SA TA BA)(ph:Int)(q:Rq)(lo hi:List UInt8)(wa:Option Addr)(wc:Nat)(sa:Option Addr)(sc:Nat)(h:ShAt SA TA BA f M X a g D w)(ht:X.wt<8900)(hX:XOk X)(hph:0<=ph)(hq:RqOk q)(hsk:q.sk.length<=16)(hsi:TAt w.heap.size (.slice sa q.sk.length sc) q.sk w)(hsn:0<q.sk.length->∀k,(Value.slice sa q.sk.length sc).ownBlock=some k->¬M k):
  Calls Tryz.prog 84 #[pz f.sb,uw ph,.agg (rqC q.k q wa wc sa sc),sd lo,sd hi] w fun e w'=>e=.returned (knV (hindF ph q lo hi X a D).1)/\ShTo SA TA BA f M w (hindF ph q lo hi X a D).2.1 a g (hindF ph q lo hi X a D).2.2 w':=by
 have HL0:hindF ph q lo hi X a D=if Clk.lessB q.sp q.sl X.sp X.sl then(some (refR 30),X,D)else if(hearF ph q.sp q.sl X a D).1≠0 then(some (refR (hearF ph q.sp q.sl X a D).1),(hearF ph q.sp q.sl X a D).2)else((Lat.firstF lo hi q.sp q.sl ((q.c,q.n)::q.sk) (hearF ph q.sp q.sl X a D).2.1.T).map (fun x=>lockR x.2),(hearF ph q.sp q.sl X a D).2):=rfl;obtain⟨b1,Lo,hb1,hLo,H0,SP,HR,ON,NW,CR,CS⟩:=setq E h q.k q wa wc sa sc;have SB:Hid (∀(X:Sd) (D:Drm.Dr) W,Cx SA TA BA f M w X a g D Lo W->ce W w.heap.size 1 (ui q.c)/\ce W w.heap.size 2 (ui q.n)/\ce W w.heap.size 3 (uw q.sp)/\ce W w.heap.size 4 (ui q.sl)/\ce W w.heap.size 12 (.slice sa q.sk.length sc)):=fun X D W hW=>by subst hLo;exact⟨hW.has.cell (.tail _ (.head _)) rfl,hW.has.cell (.tail _ (.head _)) rfl,hW.has.cell (.tail _ (.head _)) rfl,hW.has.cell (.tail _ (.head _)) rfl,hW.has.cell (.tail _ (.head _)) rfl⟩
 have SN:Hid (∀W,Cx SA TA BA f M w X a g D Lo W->ce W w.heap.size 3 (uw q.sp)/\ce W w.heap.size 4 (ui q.sl)/\ce W f.sb 5 (uw X.sp)/\ce W f.sb 6 (ui X.sl)):=fun W hW=>⟨(SB.out _ _ _ hW).2.2.1,(SB.out _ _ _ hW).2.2.2.1,hW.nums.1,hW.nums.2.1⟩;have CL:Hid (∀W,Cx SA TA BA f M w X a g D Lo W->Calls Tryz.prog 87 #[.agg #[uw q.sp,ui q.sl],.agg #[uw X.sp,ui X.sl]] W fun r w'=>r=.returned (.bool (Clk.lessB q.sp q.sl X.sp X.sl))/\Cx SA TA BA f M w X a g D Lo w'):=fun W hW=>(Clk.less17 q.sp q.sl X.sp X.sl W).mono fun r w' h=>⟨h.1,hW.on E h.2⟩;have DW:Hid (∀W,Cx SA TA BA f M w X a g D Lo W->Cx SA TA BA f M w X a g D Lo W.drew):=fun W hW=>hW.drew E;have hhe:=hear_ok (f:=ph) (a:=a) (D:=D) hq.s hX;have CH:Hid (∀W,Cx SA TA BA f M w X a g D Lo W->Calls Tryz.prog 92 #[pz f.sb,uw ph,.agg #[uw q.sp,ui q.sl]] W fun r w'=>r=.returned (iw (hearF ph q.sp q.sl X a D).1)/\Cx SA TA BA f M w (hearF ph q.sp q.sl X a D).2.1 a g (hearF ph q.sp q.sl X a D).2.2 Lo w'):=fun W hW=>hW.calls fun M' hM=>hear195 E ph q.sp q.sl hM (by omega) hX hph hq.s;have CC:Hid (∀(X:Sd) (D:Drm.Dr) W,Cx SA TA BA f M w X a g D Lo W->Calls Tryz.prog 157 #[.slice (some ⟨W.heap.size+1,0,none⟩) 2 2] ((W.alloc (.cells #[ui q.c,ui q.n] 26)).alloc (.cells #[.slice (some ⟨W.heap.size,0,none⟩) 1 1,.slice sa q.sk.length sc] 30)) fun e w'=>∃v',e=.returned v'/\TAt w'.heap.size v' ((q.c,q.n)::q.sk) w'/\Cx SA TA BA f M w X a g D Lo w'):=fun X D W hW=>by
  have h1:=SkIn.kept hsi hsn hW.kp;have hn1:=heap_alloc_new W (.cells #[ui q.c,ui q.n] 26);have b0:Below W.heap.size W (W.alloc (.cells #[ui q.c,ui q.n] 26)):=(Below.refl _ _).alloc (Nat.le_refl _) _;have b1:Below W.heap.size W ((W.alloc (.cells #[ui q.c,ui q.n] 26)).alloc (.cells #[.slice (some ⟨W.heap.size,0,none⟩) 1 1,.slice sa q.sk.length sc] 30)):=b0.alloc (by simp) _;have b2:Below (W.heap.size+1) (W.alloc (.cells #[ui q.c,ui q.n] 26)) ((W.alloc (.cells #[ui q.c,ui q.n] 26)).alloc (.cells #[.slice (some ⟨W.heap.size,0,none⟩) 1 1,.slice sa q.sk.length sc] 30)):=(Below.refl _ _).alloc (by simp) _;have hn2:=heap_alloc_new (W.alloc (.cells #[ui q.c,ui q.n] 26)) (.cells #[.slice (some ⟨W.heap.size,0,none⟩) 1 1,.slice sa q.sk.length sc] 30);rw[size_al2]at hn2;have r1:TAt (W.heap.size+1) (.slice (some ⟨W.heap.size,0,none⟩) 1 1) [(q.c,q.n)] (W.alloc (.cells #[ui q.c,ui q.n] 26)):=row_one Lat.txc 2 (fun _=>rfl) (q.c,q.n) 26 W (fun j u hj=>by
   match j,hj with
   |0,hj=>simp[Lat.txc]at hj;rw[<-hj];simp[go_sem,Lat.txc]
   |1,hj=>simp[Lat.txc]at hj;rw[<-hj];simp[go_sem,Lat.txc]
   |j+2,hj=>simp[Lat.txc]at hj)
  have:=concat261 (W.heap.size+1) (W.heap.size+1) [(.slice (some ⟨W.heap.size,0,none⟩) 1 1,[(q.c,q.n)]),(.slice sa q.sk.length sc,q.sk)] ((W.alloc (.cells #[ui q.c,ui q.n] 26)).alloc (.cells #[.slice (some ⟨W.heap.size,0,none⟩) 1 1,.slice sa q.sk.length sc] 30)) (fun k hk=>by
    match k,hk with
    |0,_=>exact Drm.blk_cell (k:=0) hn2 rfl
    |1,_=>exact Drm.blk_cell (k:=1) hn2 rfl
    |k+2,hk=>simp at hk;omega) (fun k hk=>by
    match k,hk with
    |0,_=>exact RwAt.on r1 b2
    |1,_=>exact RwAt.le (RwAt.on h1 b1) (by omega)
    |k+2,hk=>simp at hk;omega) (by simp) (by simp) (by simp[cat];omega) (by simp)
  refine this.mono ?_;rintro e w' ⟨v',rfl,ha,hb⟩;refine⟨v',rfl,?_,hW.on E (b1.trans (hb.mono b1.size))⟩;simpa[cat]using ha
 obtain⟨⟨ok,ox⟩,oz,hov,hoz,hox⟩:=fs_parts (Lat.firstF lo hi q.sp q.sl ((q.c,q.n)::q.sk) (hearF ph q.sp q.sl X a D).2.1.T);have CF:Hid (∀W6 v',TAt W6.heap.size v' ((q.c,q.n)::q.sk) W6->Cx SA TA BA f M w (hearF ph q.sp q.sl X a D).2.1 a g (hearF ph q.sp q.sl X a D).2.2 Lo W6->∀W,Bz W6 W->Calls Tryz.prog 158 #[pz f.la,sd lo,sd hi,.agg #[uw q.sp,ui q.sl],v'] W fun e w'=>e=.returned (.tuple #[.agg (inC ok ox),.bool oz])/\Below W.heap.size W w'):=fun W6 v' hv hW W hb=>by obtain⟨M9,h9,-,-⟩:=(hW.on E hb).sh;have:=sh_first E lo hi q.sp q.sl ((q.c,q.n)::q.sk) v' h9 (wt_T (by rw[hhe.1.wt];omega)) (RwAt.le (RwAt.on hv hb) hb.size);rw[hov]at this;exact this
 have CK:Hid (∀W,Calls Tryz.prog 159 #[.agg (inC ok ox)] W fun e w'=>e=.returned (.agg #[iw 3,iw 0,.bool false,su,sy,ui ox.c,ui ox.n,uw ox.sp,ui ox.sl,uw 0,ui 0,sd ox.prim,uw 0,ui 0])/\Below W.heap.size W w'):=fun W=>locked263 (ok,ox) W;have SV:Hid (∀(X:Sd) (D:Drm.Dr) W6,Cx SA TA BA f M w X a g D Lo W6->∀W,Bz W6 W->ce W f.sb 3 (pz f.la)/\ce W w.heap.size 3 (uw q.sp)/\ce W w.heap.size 4 (ui q.sl)/\Bz W6 W):=fun X D W6 hW W hb=>⟨(hW.on E hb).ptrs.2.2.2.1,(SB.out _ _ _ (hW.on E hb)).2.2.1,(SB.out _ _ _ (hW.on E hb)).2.2.2.1,hb⟩;have HO:Hid ((Lat.firstF lo hi q.sp q.sl ((q.c,q.n)::q.sk) (hearF ph q.sp q.sl X a D).2.1.T).map (fun x=>lockR x.2)=if oz then some (lockR ox)else none):=by
  show _=_;cases ho:(Lat.firstF lo hi q.sp q.sl ((q.c,q.n)::q.sk) (hearF ph q.sp q.sl X a D).2.1.T)with
  |none=>rw[ho]at hoz;rw[hoz];rfl
  |some u=>rw[ho]at hoz;rw[hoz];have:=hox u ho;rw[<-this];rfl
 rw[HO.out]at HL0;have HL:Hid _:=HL0;generalize hindF ph q lo hi X a D=Y at*;generalize (hearF ph q.sp q.sl X a D)=H at*;generalize hlb:Clk.lessB q.sp q.sl X.sp X.sl=lb at*;clear hLo h ht hX hph hq hsk hsi hsn E HL0 hhe hlb hov hoz hox HO;obtain⟨h0,Xh,Dh⟩:=H;dsimp only at CH CF HL;obtain⟨W2,hW2⟩:=xj ((w.alloc (.cells (rqC q.k q wa wc sa sc) 32)).alloc (.cells (zC 0 0 0 0) 40));rw[hW2]at H0;go_enter Tryz.func84,Tryz.ntmps84;go_wp2_with fail;rw[<-hb1];clear hW2 hb1;go_region_held3 (fun W=>ce W w.heap.size 3 (uw q.sp)/\ce W w.heap.size 4 (ui q.sl)/\ce W f.sb 5 (uw X.sp)/\ce W f.sb 6 (ui X.sl)) (first|exact SN.out _ H0.out|exact SN.out _ (DW.out _ H0.out)|exact SN.out _ H2.out) (first
  |(go_at_call 87;refine(CL.out _ (DW.out _ H0.out)).mono ?_;rintro e w2 ⟨rfl,hq⟩;have H2:Hid _:=hq;clear hq))
 rename_i hHeld;clear hHeld CL DW SN H0;cases lb
 case true=>
  have HE:Hid (Y=(some (refR 30),X,D)):=HL.out;clear CF CC CH SV CK;go_wp2_with fail;refine(CR.out _ _).mono ?_;rintro e w3 ⟨rfl,hb⟩;have H3:Hid _:=ON.out _ _ _ _ H2.out hb;clear hb;obtain⟨z0,z1,z2,z3,z4,z5,z6,z7,z8,z9,z10,z11,z12,z13,g0,g1,g2,g3,g4,g5,g6,g7,g8,g9,g10,g11,g12,g13⟩:=free14 (SP.out _ _ _ H3.out);go_wp2_with fail;refine bodyPost_ret (res14t rfl rfl rfl (set14 (SP.out _ _ _ H3.out))) rfl ?_;rw[HE.out];exact⟨rfl,HR.out _ _ _ _ _ _ _ _ _ _ _ _ _ _ _ _ _ H3.out⟩
 case false=>
  obtain⟨-,-,c3,c4,-⟩:=SB.out _ _ _ H2.out;go_wp2_with fail;refine(CH.out _ H2.out).mono ?_;rintro e w3 ⟨rfl,hq⟩;have H3:Hid _:=hq;clear hq CH c3 c4 H2;by_cases hh:h0=0
  case neg=>
   have hh':(h0 != 0)=true:=by simp[hh]
   have HE:Hid (Y=(some (refR h0),Xh,Dh)):=by show _=_;rw[HL.out];simp[hh]
   clear hh CF CC SV CK;go_wp2_with fail;refine(CR.out _ _).mono ?_;rintro e w4 ⟨rfl,hb⟩;have H4:Hid _:=ON.out _ _ _ _ H3.out hb;clear hb;obtain⟨z0,z1,z2,z3,z4,z5,z6,z7,z8,z9,z10,z11,z12,z13,g0,g1,g2,g3,g4,g5,g6,g7,g8,g9,g10,g11,g12,g13⟩:=free14 (SP.out _ _ _ H4.out);go_wp2_with fail;refine bodyPost_ret (res14t rfl rfl rfl (set14 (SP.out _ _ _ H4.out))) rfl ?_;rw[HE.out];exact⟨rfl,HR.out _ _ _ _ _ _ _ _ _ _ _ _ _ _ _ _ _ H4.out⟩
  case pos=>
   subst hh;have HL2:Hid (Y=(if oz then some (lockR ox)else none,Xh,Dh)):=by show _=_;rw[HL.out];simp
   obtain⟨c1,c2,-,-,-⟩:=SB.out _ _ _ H3.out;have CC2:Hid _:=CC.out _ _ _ H3.out;have H4:Hid (Cx SA TA BA f M w Xh a g Dh Lo (w3.alloc (.cells #[ui q.c,ui q.n] 26))):=ON.out _ _ _ _ H3.out ((Below.refl _ _).alloc (Nat.le_refl _) _);obtain⟨W4,hW4⟩:=xj (w3.alloc (.cells #[ui q.c,ui q.n] 26));have hs4:w3.heap.size+1=W4.heap.size:=by rw[<-hW4];simp
   rw[hW4]at CC2 H4;rw[hs4]at CC2;clear hs4 CC;obtain⟨-,-,-,-,c12⟩:=SB.out _ _ _ H4.out;clear HL;go_wp2_with fail;clear hW4;refine Calls.mono CC2.out ?_;rintro e W6 ⟨v',rfl,ha,hq⟩;have H6:Hid _:=hq;have CF2:Hid _:=CF.out W6 v' ha hq;have SV2:Hid _:=SV.out _ _ W6 hq;have SZ:Hid (∀W,Bz W6 W->Cx SA TA BA f M w Xh a g Dh Lo W):=fun W hb=>ON.out _ _ _ _ hq hb;have HZ:Hid (Bz W6 W6):=Below.refl _ _;have HM:Hid (W6.heap.size<=W6.heap.size):=Nat.le_refl _;clear hq ha CF CC2 SV c1 c2 c12 H3 H4;go_upto_region 7 with fail
   obtain⟨s3,x3,x4,-⟩:=SV2.out _ HZ.out;go_cut [14,15] (fun s6 s7 wc=>∃vb,s6=.pointer (some ⟨vb,0,none⟩)/\s7=.bool oz/\wc.heap[vb]?=some (.cells (inC ok ox) 69 (0,0))/\Bz W6 wc)
   case first=>
    go_region_held3 (fun W=>ce W f.sb 3 (pz f.la)/\ce W w.heap.size 3 (uw q.sp)/\ce W w.heap.size 4 (ui q.sl)/\Bz W6 W) ((with_reducible refine SV2.out _ ?_;with_reducible repeat (first|exact HZ.out|exact H7.out.1|refine Bz.dr ?_|refine Bz.al ?_ _|refine Bz.st ?_ HM.out _ _|refine Bz.st ?_ H7.out.2 _ _))) (first
     |(go_at_call 158;refine(CF2.out _ (by with_reducible repeat (first|exact HZ.out|refine Bz.dr ?_|refine Bz.al ?_ _))).mono ?_;rintro e w7 ⟨rfl,hb2⟩;have H7:Hid (Bz W6 w7/\W6.heap.size<=w7.heap.size):=⟨(by refine Bz.on ?_ hb2;with_reducible repeat (first|exact HZ.out|refine Bz.dr ?_|refine Bz.al ?_ _)),Nat.le_trans (by simp) hb2.size⟩;first|((with_reducible have Y3:=Sto.zero_box hb2);obtain⟨y0,y1,y2,y3,y4,y5,y6,y7,y8,y9,g0,g1,g2,g3,g4,g5,g6,g7,g8,g9⟩:=free10 Y3;have Y4:Hid _:=Y3;clear Y3 hb2)|clear hb2))
    all_goals
     go_wp2_with fail;go_meet;first
     |with_reducible exact⟨_,rfl,rfl,new10,Bz.al H7.out.1 _⟩
     |with_reducible exact⟨_,rfl,rfl,set10 Y4.out,bz10 H7.out.1 HM.out⟩
   case rest=>
    obtain⟨vb,rfl,rfl,hob,hb⟩:=hcut;have H8:Hid _:=SZ.out _ hb;clear hb s3 x3 x4 SV2 CF2 SZ HZ HM H6;cases oz
    case false=>
     have HE:Hid (Y=(none,Xh,Dh)):=HL2.out;clear hob CK;obtain⟨z0,z1,z2,z3,z4,z5,z6,z7,z8,z9,z10,z11,z12,z13,g0,g1,g2,g3,g4,g5,g6,g7,g8,g9,g10,g11,g12,g13⟩:=free14 (SP.out _ _ _ H8.out);go_wp2_with fail;refine bodyPost_ret (res14t rfl rfl rfl (set14 (SP.out _ _ _ H8.out))) rfl ?_;rw[HE.out];exact⟨rfl,HR.out _ _ _ _ _ _ _ _ _ _ _ _ _ _ _ _ _ H8.out⟩
    case true=>
     have HE:Hid (Y=(some (lockR ox),Xh,Dh)):=HL2.out;obtain⟨i0,i1,i2,i3,i4,i5,i6,i7,i8,i9,-⟩:=free10 hob;go_wp2_with fail;refine(CK.out _).mono ?_;rintro e w9 ⟨rfl,hb⟩;have H9:Hid _:=ON.out _ _ _ _ H8.out hb;clear hb CK hob i0 i1 i2 i3 i4 i5 i6 i7 i8 i9;obtain⟨z0,z1,z2,z3,z4,z5,z6,z7,z8,z9,z10,z11,z12,z13,g0,g1,g2,g3,g4,g5,g6,g7,g8,g9,g10,g11,g12,g13⟩:=free14 (SP.out _ _ _ H9.out);go_wp2_with fail;refine bodyPost_ret (res14t rfl rfl rfl (set14 (SP.out _ _ _ H9.out))) rfl ?_;rw[HE.out];exact⟨rfl,HR.out _ _ _ _ _ _ _ _ _ _ _ _ _ _ _ _ _ H9.out⟩
theorem hind_same(ph:Int)(q:Rq)(lo hi:List UInt8)(X:Sd)(a:Int)(D:Drm.Dr)(hs:Ts q.sp q.sl)(hX:XOk X):(hindF ph q lo hi X a D).2.1.wt=X.wt:=by
 unfold hindF;have hhe:=hear_ok (f:=ph) (a:=a) (D:=D) hs hX;repeat' split
 ·rfl
 ·exact hhe.1.wt
 ·exact hhe.1.wt
theorem nul_cat(k:List UInt8):(bs k)++(⟨#[0]⟩:ByteArray)=bs (k++[0]):=by apply ByteArray.ext;simp[bs]
theorem get92(E:Env SA TA BA)(ph:Int)(q:Rq)(wa:Option Addr)(wc:Nat)(sa:Option Addr)(sc:Nat)(h:ShAt SA TA BA f M X a g D w)(ht:X.wt<8900)(hX:XOk X)(hph:0<=ph)(hq:RqOk q)(hk:q.key.length<=32)(hsk:q.sk.length<=16)(hsi:TAt w.heap.size (.slice sa q.sk.length sc) q.sk w)(hsn:0<q.sk.length->∀k,(Value.slice sa q.sk.length sc).ownBlock=some k->¬M k/\k<w.heap.size):
  Calls Tryz.prog 36 #[pz f.sb,uw ph,.agg (rqC q.k q wa wc sa sc)] w fun e w'=>e=.returned (rpV (getFn ph q X a D).1 sy)/\ShTo SA TA BA f M w (getFn ph q X a D).2.1 a g (getFn ph q X a D).2.2 w':=by
 have HL0:getFn ph q X a D=match (hindF ph q q.key (q.key++[0]) X a D).1 with
  |some r=>(r,(hindF ph q q.key (q.key++[0]) X a D).2)
  |none=>({Rp.zero with k:=1,found:=(Sto.getV (Sto.seeF (Sto.chainF q.key (hindF ph q q.key (q.key++[0]) X a D).2.1.S) q.sp q.sl)).2,val:=(Sto.getV (Sto.seeF (Sto.chainF q.key (hindF ph q q.key (q.key++[0]) X a D).2.1.S) q.sp q.sl)).1},(hindF ph q q.key (q.key++[0]) X a D).2):=rfl
 obtain⟨b1,Lo,hb1,hLo,H0,SP,HR,ON,NW,CR,CS⟩:=setq E h q.k q wa wc sa sc;have SB:=setb H0 hLo;obtain⟨kr,kz,hkv,hkz,hkr⟩:=kn_parts (hindF ph q q.key (q.key++[0]) X a D).1;have CK:Hid (∀W,Cx SA TA BA f M w X a g D Lo W->Calls Tryz.prog 84 #[pz f.sb,uw ph,.agg (rqC q.k q wa wc sa sc),sd q.key,.string (bs (q.key++[0]))] W fun e w'=>e=.returned (.tuple #[.agg (rpD kr none 0 0),.bool kz])/\Cx SA TA BA f M w (hindF ph q q.key (q.key++[0]) X a D).2.1 a g (hindF ph q q.key (q.key++[0]) X a D).2.2 Lo w'):=fun W hW=>by
  obtain⟨M9,h9,h8,h7⟩:=hW.sh;have:=hind188 E ph q q.key (q.key++[0]) wa wc sa sc h9 (by omega) hX hph hq hsk (SkIn.kept hsi (fun h0 k hk=>(hsn h0 k hk).1) hW.kp) (fun h0 k hk hm=>by
   rcases h8 k hm with e1|e1
   ·exact(hsn h0 k hk).1 e1
   ·have:=(hsn h0 k hk).2;omega)
  rw[hkv]at this;exact this.mono fun r w' h=>⟨h.1,hW.next h8 h7 h.2⟩
 have hwt:=hind_same ph q q.key (q.key++[0]) X a D hq.s hX;obtain⟨gv,gb,hgv⟩:∃gv gb,(Sto.getV (Sto.seeF (Sto.chainF q.key (hindF ph q q.key (q.key++[0]) X a D).2.1.S) q.sp q.sl))=(gv,gb):=⟨_,_,rfl⟩;have CG:Hid (∀W,Cx SA TA BA f M w (hindF ph q q.key (q.key++[0]) X a D).2.1 a g (hindF ph q q.key (q.key++[0]) X a D).2.2 Lo W->Calls Tryz.prog 85 #[pz f.st,sd q.key,.agg #[uw q.sp,ui q.sl]] W fun e w'=>e=.returned (.tuple #[sd gv,.bool gb])/\Cx SA TA BA f M w (hindF ph q q.key (q.key++[0]) X a D).2.1 a g (hindF ph q q.key (q.key++[0]) X a D).2.2 Lo w'):=fun W hW=>by obtain⟨M9,h9,-,-⟩:=hW.sh;have:=sh_get E q.key q.sp q.sl h9 (wt_S (by omega));rw[hgv]at this;exact this.mono fun r w' h=>⟨h.1,hW.on E h.2⟩
 have SH:Hid (∀(X:Sd) (D:Drm.Dr) W,Cx SA TA BA f M w X a g D Lo W->ce W f.sb 2 (pz f.st)/\ce W w.heap.size 7 (sd q.key)/\ce W w.heap.size 3 (uw q.sp)/\ce W w.heap.size 4 (ui q.sl)):=fun X D W hW=>by obtain⟨-,-,-,c3,c4,-,-,c7,-⟩:=SB.out _ _ _ hW;exact⟨hW.ptrs.2.2.1,c7,c3,c4⟩
 have DW:Hid (∀(X:Sd) (D:Drm.Dr) W,Cx SA TA BA f M w X a g D Lo W->Cx SA TA BA f M w X a g D Lo W.drew):=fun X D W hW=>hW.drew E;have nul:(bs q.key).size<=9223372036854775806:=by rw[bs_size];omega
 have NC:Hid ((bs q.key)++(⟨#[0]⟩:ByteArray)=bs (q.key++[0])):=nul_cat q.key;have HKz:Hid (kz=(hindF ph q q.key (q.key++[0]) X a D).1.isSome/\∀x,(hindF ph q q.key (q.key++[0]) X a D).1=some x->kr=x):=⟨hkz,hkr⟩;rw[hgv]at HL0;have HL:Hid _:=HL0;generalize getFn ph q X a D=Y at*;generalize (hindF ph q q.key (q.key++[0]) X a D)=H at*;obtain⟨ho,Xh,Dh⟩:=H;dsimp only at CK CG HL HKz;clear hLo h ht hX hph hq hsk hsi hsn hk E HL0 hkv hkz hkr hwt hgv;obtain⟨W2,hW2⟩:=xj ((w.alloc (.cells (rqC q.k q wa wc sa sc) 32)).alloc (.cells (zC 0 0 0 0) 40));rw[hW2]at H0;obtain⟨c0,c1,c2,c3,c4,c5,c6,c7,c8,c9,c10,c11,c12⟩:=SB.out _ _ _ H0.out;go_enter Tryz.func36,Tryz.ntmps36;go_wp2_with fail;rw[<-hb1,NC.out];clear hW2 hb1 NC;refine(CK.out _ H0.out).mono ?_;rintro e w3 ⟨rfl,hq⟩;have H3:Hid _:=hq;clear hq CK c0 c1 c2 c3 c4 c5 c6 c7 c8 c9 c10 c11 c12 nul H0;have hob:(w3.alloc (.cells (rpD kr none 0 0) 40)).heap[w3.heap.size]?=some (.cells (rpD kr none 0 0) 40 (0,0)):=heap_alloc_new w3 _;have H4:Hid (Cx SA TA BA f M w Xh a g Dh Lo (w3.alloc (.cells (rpD kr none 0 0) 40))):=ON.out _ _ _ _ H3.out ((Below.refl _ _).alloc (Nat.le_refl _) _);go_upto_region 2 with fail
 obtain⟨W4,hW4⟩:=xj (w3.alloc (.cells (rpD kr none 0 0) 40));rw[hW4]at hob H4|-;clear hW4 H3;cases kz
 case true=>
  have HE:Hid (Y=(kr,Xh,Dh)):=by
   show _=_;rw[HL.out];cases ho with
   |none=>have:=HKz.out.1;cases this
   |some r=>rw[HKz.out.2 r rfl]
  obtain⟨i0,i1,i2,i3,i4,i5,i6,i7,i8,i9,i10,i11,i12,i13,-⟩:=free14 hob;clear hob CG SH DW;have K:=H4;exact re5
 case false=>
  have HE:Hid (Y=({Rp.zero with k:=1,found:=gb,val:=gv},Xh,Dh)):=by
   show _=_;rw[HL.out];cases ho with
   |none=>rfl
   |some r=>have:=HKz.out.1;cases this
  clear hob HKz HL;go_wp2_with fail;go_region_held3 (fun W=>ce W f.sb 2 (pz f.st)/\ce W w.heap.size 7 (sd q.key)/\ce W w.heap.size 3 (uw q.sp)/\ce W w.heap.size 4 (ui q.sl)) (first|exact SH.out _ _ _ H4.out|exact SH.out _ _ _ (DW.out _ _ _ H4.out)|exact SH.out _ _ _ H5.out) (first
   |(go_at_call 85;refine(CG.out _ (DW.out _ _ _ H4.out)).mono ?_;rintro e w5 ⟨rfl,hq⟩;have H5:Hid _:=hq;clear hq))
  rename_i hHeld;clear hHeld CG SH DW H4;have K:=H5;exact re5
end Go.Proofs.YtdplfgcoaddbdaaGreat
namespace Go.Proofs.YtdplfgcoaddbdaaGreat
variable {X:Sd}{a:Int}{D:Drm.Dr}
theorem hind_prs0{ph:Int}{q:Rq}{lo hi:List UInt8}{r:Rp}(h:(hindF ph q lo hi X a D).1=some r):r.prs=[]:=by
 unfold hindF at h;split at h
 ·injection h with h;rw[<-h];rfl
 ·split at h
  ·injection h with h;rw[<-h];rfl
  ·obtain⟨x,-,e⟩:=Option.map_eq_some_iff.1 h;rw[<-e];rfl
theorem kn_prs{c n:Int}{r:Rp}(h:knownF c n X=some r):r.prs=[]:=by
 unfold knownF at h;split at h
 ·injection h with h;rw[<-h];split<;>rfl
 ·obtain⟨v,-,e⟩:=Option.map_eq_some_iff.1 h;rw[<-e];rfl
theorem cont_prs{k:List UInt8}{sp sl:Int}{r:Rp}(h:contF k sp sl X=some r):r.prs=[]:=by
 unfold contF at h;repeat' split at h
 all_goals first|(injection h with h;rw[<-h];rfl)|cases h
theorem give_prs(c n sp sl:Int):(giveF c n sp sl X a D).1.prs=[]:=by
 unfold giveF;repeat' split
 all_goals rfl
theorem get_prs(ph:Int)(q:Rq):(getFn ph q X a D).1.prs=[]:=by
 unfold getFn;split
 ·rename_i h;exact hind_prs0 h
 ·rfl
theorem lay_prs(ph:Int)(q:Rq):(layFn ph q X a D).1.prs=[]:=by
 rw[lay_steps];split
 ·rfl
 ·split
  ·rename_i h;exact kn_prs h
  ·split
   ·rfl
   ·split
    ·rename_i h;obtain⟨x,-,e⟩:=List.exists_of_findSome?_eq_some h;exact cont_prs e
    ·dsimp only;repeat' split
     all_goals rfl
theorem dec_prs(ph:Int)(q:Rq):(decFn ph q X a D).1.prs=[]:=by
 rw[dec_steps];split
 ·rename_i h;exact kn_prs h
 ·repeat' split
  all_goals rfl
theorem app_prs(ph:Int)(q:Rq):(appFn ph q X a D).1.prs=[]:=by
 obtain⟨y,z,hv,hz,hy⟩:=vof_parts (Ver.getB q.c q.n X.K);rw[app_steps ph q X a D hz hy];repeat' split
 all_goals rfl
theorem und_prs(q:Rq):(undFn q X a D).1.prs=[]:=by
 unfold undFn;split
 ·rename_i h;exact kn_prs h
 ·exact give_prs _ _ _ _
theorem pus_prs(ph:Int)(q:Rq):(pusFn ph q X a D).1.prs=[]:=by
 rw[pus_steps ph q X a D rfl];split
 ·rename_i h;exact kn_prs h
 ·repeat' split
  all_goals first|rfl|exact give_prs _ _ _ _
theorem saf_prs(q:Rq):(safFn q X a D).1.prs=[]:=by
 unfold safFn;repeat' split
 all_goals rfl
theorem don_prs(q:Rq):(donFn q X a D).1.prs=[]:=by
 unfold donFn;repeat' split
 all_goals rfl
end Go.Proofs.YtdplfgcoaddbdaaGreat
