import Derived.Test.YtdplfgcoaddbdaaGreatWbi
set_option maxHeartbeats 4000000
set_option maxRecDepth 100000
set_option linter.unusedVariables false
set_option linter.unusedSimpArgs false
namespace Go.Proofs.YtdplfgcoaddbdaaGreat
open Go.RowKit
variable {SA:TyS}{TA:TyT}{BA:TyB}
variable {f:Fp}{M:Nat->Prop}{X:Sd}{a:Int}{g:Nat}{D:Drm.Dr}{w W W':World}{Lo:List (Nat×Obj)}
theorem SkIn.kept{L:List (Int×Int)}{ao:Option Addr}{cp:Nat}(h:TAt w.heap.size (.slice ao L.length cp) L w)(hn:0<L.length->∀k,(Value.slice ao L.length cp).ownBlock=some k->¬M k)(hk:Kept M w W):TAt W.heap.size (.slice ao L.length cp) L W:=by
 rcases Nat.eq_zero_or_pos L.length with e|e
 ·have:L=[]:=List.eq_nil_of_length_eq_zero e;subst this;obtain⟨ao',cap',e1,e2,e3,e4,e5⟩:=h;refine⟨ao',cap',e1,e2,e3,e4,fun h0=>?_⟩;obtain⟨b,off,rfl,-,-⟩:=e5 h0;exact⟨b,off,rfl,fun h=>absurd h (by simp),fun j u hj=>by simp[rowC]at hj⟩
 ·exact RwAt.le (rw_keep h hk (hn e)) hk.size
theorem hind188(E:Env SA TA BA)(ph:Int)(q:Rq)(lo hi:List UInt8)(wa:Option Addr)(wc:Nat)(sa:Option Addr)(sc:Nat)(h:ShAt SA TA BA f M X a g D w)(ht:X.wt<8900)(hX:XOk X)(hph:0<=ph)(hq:RqOk q)(hsk:q.sk.length<=16)(hsi:TAt w.heap.size (.slice sa q.sk.length sc) q.sk w)(hsn:0<q.sk.length->∀k,(Value.slice sa q.sk.length sc).ownBlock=some k->¬M k):
  Calls Tryz.prog 84 #[pz f.sb,uw ph,.agg (rqC q.k q wa wc sa sc),sd lo,sd hi] w fun e w'=>e=.returned (knV (hindF ph q lo hi X a D).1)/\ShTo SA TA BA f M w (hindF ph q lo hi X a D).2.1 a g (hindF ph q lo hi X a D).2.2 w':=by
 have HL0:hindF ph q lo hi X a D=if Clk.lessB q.sp q.sl X.sp X.sl then(some (refR 30),X,D)else if(hearF ph q.sp q.sl X a D).1≠0 then(some (refR (hearF ph q.sp q.sl X a D).1),(hearF ph q.sp q.sl X a D).2)else((Lat.firstF lo hi q.sp q.sl ((q.c,q.n)::q.sk) (hearF ph q.sp q.sl X a D).2.1.T).map (fun x=>lockR x.2),(hearF ph q.sp q.sl X a D).2):=rfl;obtain⟨b1,Lo,hb1,hLo,H0,SP,HR,ON,NW,CR,CS⟩:=setq E h q.k q wa wc sa sc;have SB:Hid (∀(X:Sd) (D:Drm.Dr) W,Cx SA TA BA f M w X a g D Lo W->ce W w.heap.size 1 (ui q.c)/\ce W w.heap.size 2 (ui q.n)/\ce W w.heap.size 3 (uw q.sp)/\ce W w.heap.size 4 (ui q.sl)/\ce W w.heap.size 12 (.slice sa q.sk.length sc)):=fun X D W hW=>by subst hLo;exact⟨hW.has.cell (.tail _ (.head _)) rfl,hW.has.cell (.tail _ (.head _)) rfl,hW.has.cell (.tail _ (.head _)) rfl,hW.has.cell (.tail _ (.head _)) rfl,hW.has.cell (.tail _ (.head _)) rfl⟩
 have SN:Hid (∀W,Cx SA TA BA f M w X a g D Lo W->ce W w.heap.size 3 (uw q.sp)/\ce W w.heap.size 4 (ui q.sl)/\ce W f.sb 5 (uw X.sp)/\ce W f.sb 6 (ui X.sl)):=fun W hW=>⟨(SB.out _ _ _ hW).2.2.1,(SB.out _ _ _ hW).2.2.2.1,hW.nums.1,hW.nums.2.1⟩;have CL:Hid (∀W,Cx SA TA BA f M w X a g D Lo W->Calls Tryz.prog 87 #[.agg #[uw q.sp,ui q.sl],.agg #[uw X.sp,ui X.sl]] W fun r w'=>r=.returned (.bool (Clk.lessB q.sp q.sl X.sp X.sl))/\Cx SA TA BA f M w X a g D Lo w'):=fun W hW=>(Clk.less17 q.sp q.sl X.sp X.sl W).mono fun r w' h=>⟨h.1,hW.on E h.2⟩;have DW:Hid (∀W,Cx SA TA BA f M w X a g D Lo W->Cx SA TA BA f M w X a g D Lo W.drew):=fun W hW=>hW.drew E;have hhe:=hear_ok (f:=ph) (a:=a) (D:=D) hq.s hX;have CH:Hid (∀W,Cx SA TA BA f M w X a g D Lo W->Calls Tryz.prog 92 #[pz f.sb,uw ph,.agg #[uw q.sp,ui q.sl]] W fun r w'=>r=.returned (iw (hearF ph q.sp q.sl X a D).1)/\Cx SA TA BA f M w (hearF ph q.sp q.sl X a D).2.1 a g (hearF ph q.sp q.sl X a D).2.2 Lo w'):=fun W hW=>hW.calls fun M' hM=>hear195 E ph q.sp q.sl hM (by omega) hX hph hq.s;have CC:Hid (∀(X:Sd) (D:Drm.Dr) W,Cx SA TA BA f M w X a g D Lo W->Calls Tryz.prog 157 #[.slice (some ⟨W.heap.size+1,0,none⟩) 2 2] ((W.alloc (.cells #[ui q.c,ui q.n] 26)).alloc (.cells #[.slice (some ⟨W.heap.size,0,none⟩) 1 1,.slice sa q.sk.length sc] 30)) fun e w'=>∃v',e=.returned v'/\TAt w'.heap.size v' ((q.c,q.n)::q.sk) w'/\Cx SA TA BA f M w X a g D Lo w'):=fun X D W hW=>by
  have h1:=SkIn.kept hsi hsn hW.kp;have hn1:=heap_alloc_new W (.cells #[ui q.c,ui q.n] 26);have b0:Below W.heap.size W (W.alloc (.cells #[ui q.c,ui q.n] 26)):=(Below.refl _ _).alloc (Nat.le_refl _) _;have b1:Below W.heap.size W ((W.alloc (.cells #[ui q.c,ui q.n] 26)).alloc (.cells #[.slice (some ⟨W.heap.size,0,none⟩) 1 1,.slice sa q.sk.length sc] 30)):=b0.alloc (by simp) _;have b2:Below (W.heap.size+1) (W.alloc (.cells #[ui q.c,ui q.n] 26)) ((W.alloc (.cells #[ui q.c,ui q.n] 26)).alloc (.cells #[.slice (some ⟨W.heap.size,0,none⟩) 1 1,.slice sa q.sk.length sc] 30)):=(Below.refl _ _).alloc (by simp) _;have hn2:=heap_alloc_new (W.alloc (.cells #[ui q.c,ui q.n] 26)) (.cells #[.slice (some ⟨W.heap.size,0,none⟩) 1 1,.slice sa q.sk.length sc] 30);rw[size_al2]at hn2;have r1:TAt (W.heap.size+1) (.slice (some ⟨W.heap.size,0,none⟩) 1 1) [(q.c,q.n)] (W.alloc (.cells #[ui q.c,ui q.n] 26)):=row_one Lat.txc 2 (fun _=>rfl) (q.c,q.n) 26 W (fun j u hj=>by
   match j,hj with
   |0,hj=>simp[Lat.txc]at hj;rw[<-hj];simp[go_sem,Lat.txc]
   |1,hj=>simp[Lat.txc]at hj;rw[<-hj];simp[go_sem,Lat.txc]
   |j+2,hj=>simp[Lat.txc]at hj)
  have:=concat261 (W.heap.size+1) (W.heap.size+1) [(.slice (some ⟨W.heap.size,0,none⟩) 1 1,[(q.c,q.n)]),(.slice sa q.sk.length sc,q.sk)] ((W.alloc (.cells #[ui q.c,ui q.n] 26)).alloc (.cells #[.slice (some ⟨W.heap.size,0,none⟩) 1 1,.slice sa q.sk.length sc] 30)) (fun k hk=>by
    match k,hk with
    |0,_=>exact Drm.blk_cell (k:=0) hn2 rfl
    |1,_=>exact Drm.blk_cell (k:=1) hn2 rfl
    |k+2,hk=>simp at hk;omega) (fun k hk=>by
    match k,hk with
    |0,_=>exact RwAt.on r1 b2
    |1,_=>exact RwAt.le (RwAt.on h1 b1) (by omega)
    |k+2,hk=>simp at hk;omega) (by simp) (by simp) (by simp[cat];omega) (by simp)
  refine this.mono ?_;rintro e w' ⟨v',rfl,ha,hb⟩;refine⟨v',rfl,?_,hW.on E (b1.trans (hb.mono b1.size))⟩;simpa[cat]using ha
 obtain⟨⟨ok,ox⟩,oz,hov,hoz,hox⟩:=fs_parts (Lat.firstF lo hi q.sp q.sl ((q.c,q.n)::q.sk) (hearF ph q.sp q.sl X a D).2.1.T);have CF:Hid (∀W6 v',TAt W6.heap.size v' ((q.c,q.n)::q.sk) W6->Cx SA TA BA f M w (hearF ph q.sp q.sl X a D).2.1 a g (hearF ph q.sp q.sl X a D).2.2 Lo W6->∀W,Bz W6 W->Calls Tryz.prog 158 #[pz f.la,sd lo,sd hi,.agg #[uw q.sp,ui q.sl],v'] W fun e w'=>e=.returned (.tuple #[.agg (inC ok ox),.bool oz])/\Below W.heap.size W w'):=fun W6 v' hv hW W hb=>by obtain⟨M9,h9,-,-⟩:=(hW.on E hb).sh;have:=sh_first E lo hi q.sp q.sl ((q.c,q.n)::q.sk) v' h9 (wt_T (by rw[hhe.1.wt];omega)) (RwAt.le (RwAt.on hv hb) hb.size);rw[hov]at this;exact this
 have CK:Hid (∀W,Calls Tryz.prog 159 #[.agg (inC ok ox)] W fun e w'=>e=.returned (.agg #[iw 3,iw 0,.bool false,su,sy,ui ox.c,ui ox.n,uw ox.sp,ui ox.sl,uw 0,ui 0,sd ox.prim,uw 0,ui 0])/\Below W.heap.size W w'):=fun W=>locked263 (ok,ox) W;have SV:Hid (∀(X:Sd) (D:Drm.Dr) W6,Cx SA TA BA f M w X a g D Lo W6->∀W,Bz W6 W->ce W f.sb 3 (pz f.la)/\ce W w.heap.size 3 (uw q.sp)/\ce W w.heap.size 4 (ui q.sl)/\Bz W6 W):=fun X D W6 hW W hb=>⟨(hW.on E hb).ptrs.2.2.2.1,(SB.out _ _ _ (hW.on E hb)).2.2.1,(SB.out _ _ _ (hW.on E hb)).2.2.2.1,hb⟩;have HO:Hid ((Lat.firstF lo hi q.sp q.sl ((q.c,q.n)::q.sk) (hearF ph q.sp q.sl X a D).2.1.T).map (fun x=>lockR x.2)=if oz then some (lockR ox)else none):=by
  show _=_;cases ho:(Lat.firstF lo hi q.sp q.sl ((q.c,q.n)::q.sk) (hearF ph q.sp q.sl X a D).2.1.T)with
  |none=>rw[ho]at hoz;rw[hoz];rfl
  |some u=>rw[ho]at hoz;rw[hoz];have:=hox u ho;rw[<-this];rfl
 rw[HO.out]at HL0;have HL:Hid _:=HL0;generalize hindF ph q lo hi X a D=Y at*;generalize (hearF ph q.sp q.sl X a D)=H at*;generalize hlb:Clk.lessB q.sp q.sl X.sp X.sl=lb at*;clear hLo h ht hX hph hq hsk hsi hsn E HL0 hhe hlb hov hoz hox HO;obtain⟨h0,Xh,Dh⟩:=H;dsimp only at CH CF HL;obtain⟨W2,hW2⟩:=xj ((w.alloc (.cells (rqC q.k q wa wc sa sc) 32)).alloc (.cells (zC 0 0 0 0) 40));rw[hW2]at H0;go_enter Tryz.func84,Tryz.ntmps84;go_wp2_with fail;rw[<-hb1];clear hW2 hb1;go_region_held3 (fun W=>ce W w.heap.size 3 (uw q.sp)/\ce W w.heap.size 4 (ui q.sl)/\ce W f.sb 5 (uw X.sp)/\ce W f.sb 6 (ui X.sl)) (first|exact SN.out _ H0.out|exact SN.out _ (DW.out _ H0.out)|exact SN.out _ H2.out) (first
  |(go_at_call 87;refine(CL.out _ (DW.out _ H0.out)).mono ?_;rintro e w2 ⟨rfl,hq⟩;have H2:Hid _:=hq;clear hq))
 rename_i hHeld;clear hHeld CL DW SN H0;cases lb
 case true=>
  have HE:Hid (Y=(some (refR 30),X,D)):=HL.out;clear CF CC CH SV CK;go_wp2_with fail;refine(CR.out _ _).mono ?_;rintro e w3 ⟨rfl,hb⟩;have H3:Hid _:=ON.out _ _ _ _ H2.out hb;clear hb;obtain⟨z0,z1,z2,z3,z4,z5,z6,z7,z8,z9,z10,z11,z12,z13,g0,g1,g2,g3,g4,g5,g6,g7,g8,g9,g10,g11,g12,g13⟩:=free14 (SP.out _ _ _ H3.out);go_wp2_with fail;refine bodyPost_ret (res14t rfl rfl rfl (set14 (SP.out _ _ _ H3.out))) rfl ?_;rw[HE.out];exact⟨rfl,HR.out _ _ _ _ _ _ _ _ _ _ _ _ _ _ _ _ _ H3.out⟩
 case false=>
  obtain⟨-,-,c3,c4,-⟩:=SB.out _ _ _ H2.out;go_wp2_with fail;refine(CH.out _ H2.out).mono ?_;rintro e w3 ⟨rfl,hq⟩;have H3:Hid _:=hq;clear hq CH c3 c4 H2;by_cases hh:h0=0
  case neg=>
   have hh':(h0 != 0)=true:=by simp[hh]
   have HE:Hid (Y=(some (refR h0),Xh,Dh)):=by show _=_;rw[HL.out];simp[hh]
   clear hh CF CC SV CK;go_wp2_with fail;refine(CR.out _ _).mono ?_;rintro e w4 ⟨rfl,hb⟩;have H4:Hid _:=ON.out _ _ _ _ H3.out hb;clear hb;obtain⟨z0,z1,z2,z3,z4,z5,z6,z7,z8,z9,z10,z11,z12,z13,g0,g1,g2,g3,g4,g5,g6,g7,g8,g9,g10,g11,g12,g13⟩:=free14 (SP.out _ _ _ H4.out);go_wp2_with fail;refine bodyPost_ret (res14t rfl rfl rfl (set14 (SP.out _ _ _ H4.out))) rfl ?_;rw[HE.out];exact⟨rfl,HR.out _ _ _ _ _ _ _ _ _ _ _ _ _ _ _ _ _ H4.out⟩
  case pos=>
   subst hh;have HL2:Hid (Y=(if oz then some (lockR ox)else none,Xh,Dh)):=by show _=_;rw[HL.out];simp
   obtain⟨c1,c2,-,-,-⟩:=SB.out _ _ _ H3.out;have CC2:Hid _:=CC.out _ _ _ H3.out;have H4:Hid (Cx SA TA BA f M w Xh a g Dh Lo (w3.alloc (.cells #[ui q.c,ui q.n] 26))):=ON.out _ _ _ _ H3.out ((Below.refl _ _).alloc (Nat.le_refl _) _);obtain⟨W4,hW4⟩:=xj (w3.alloc (.cells #[ui q.c,ui q.n] 26));have hs4:w3.heap.size+1=W4.heap.size:=by rw[<-hW4];simp
   rw[hW4]at CC2 H4;rw[hs4]at CC2;clear hs4 CC;obtain⟨-,-,-,-,c12⟩:=SB.out _ _ _ H4.out;clear HL;go_wp2_with fail;clear hW4;refine Calls.mono CC2.out ?_;rintro e W6 ⟨v',rfl,ha,hq⟩;have H6:Hid _:=hq;have CF2:Hid _:=CF.out W6 v' ha hq;have SV2:Hid _:=SV.out _ _ W6 hq;have SZ:Hid (∀W,Bz W6 W->Cx SA TA BA f M w Xh a g Dh Lo W):=fun W hb=>ON.out _ _ _ _ hq hb;have HZ:Hid (Bz W6 W6):=Below.refl _ _;have HM:Hid (W6.heap.size<=W6.heap.size):=Nat.le_refl _;clear hq ha CF CC2 SV c1 c2 c12 H3 H4;go_upto_region 7 with fail
   obtain⟨s3,x3,x4,-⟩:=SV2.out _ HZ.out;go_cut [14,15] (fun s6 s7 wc=>∃vb,s6=.pointer (some ⟨vb,0,none⟩)/\s7=.bool oz/\wc.heap[vb]?=some (.cells (inC ok ox) 69 (0,0))/\Bz W6 wc)
   case first=>
    go_region_held3 (fun W=>ce W f.sb 3 (pz f.la)/\ce W w.heap.size 3 (uw q.sp)/\ce W w.heap.size 4 (ui q.sl)/\Bz W6 W) ((with_reducible refine SV2.out _ ?_;with_reducible repeat (first|exact HZ.out|exact H7.out.1|refine Bz.dr ?_|refine Bz.al ?_ _|refine Bz.st ?_ HM.out _ _|refine Bz.st ?_ H7.out.2 _ _))) (first
     |(go_at_call 158;refine(CF2.out _ (by with_reducible repeat (first|exact HZ.out|refine Bz.dr ?_|refine Bz.al ?_ _))).mono ?_;rintro e w7 ⟨rfl,hb2⟩;have H7:Hid (Bz W6 w7/\W6.heap.size<=w7.heap.size):=⟨(by refine Bz.on ?_ hb2;with_reducible repeat (first|exact HZ.out|refine Bz.dr ?_|refine Bz.al ?_ _)),Nat.le_trans (by simp) hb2.size⟩;first|((with_reducible have Y3:=Sto.zero_box hb2);obtain⟨y0,y1,y2,y3,y4,y5,y6,y7,y8,y9,g0,g1,g2,g3,g4,g5,g6,g7,g8,g9⟩:=free10 Y3;have Y4:Hid _:=Y3;clear Y3 hb2)|clear hb2))
    all_goals
     go_wp2_with fail;go_meet;first
     |with_reducible exact⟨_,rfl,rfl,new10,Bz.al H7.out.1 _⟩
     |with_reducible exact⟨_,rfl,rfl,set10 Y4.out,bz10 H7.out.1 HM.out⟩
   case rest=>
    obtain⟨vb,rfl,rfl,hob,hb⟩:=hcut;have H8:Hid _:=SZ.out _ hb;clear hb s3 x3 x4 SV2 CF2 SZ HZ HM H6;cases oz
    case false=>
     have HE:Hid (Y=(none,Xh,Dh)):=HL2.out;clear hob CK;obtain⟨z0,z1,z2,z3,z4,z5,z6,z7,z8,z9,z10,z11,z12,z13,g0,g1,g2,g3,g4,g5,g6,g7,g8,g9,g10,g11,g12,g13⟩:=free14 (SP.out _ _ _ H8.out);go_wp2_with fail;refine bodyPost_ret (res14t rfl rfl rfl (set14 (SP.out _ _ _ H8.out))) rfl ?_;rw[HE.out];exact⟨rfl,HR.out _ _ _ _ _ _ _ _ _ _ _ _ _ _ _ _ _ H8.out⟩
    case true=>
     have HE:Hid (Y=(some (lockR ox),Xh,Dh)):=HL2.out;obtain⟨i0,i1,i2,i3,i4,i5,i6,i7,i8,i9,-⟩:=free10 hob;go_wp2_with fail;refine(CK.out _).mono ?_;rintro e w9 ⟨rfl,hb⟩;have H9:Hid _:=ON.out _ _ _ _ H8.out hb;clear hb CK hob i0 i1 i2 i3 i4 i5 i6 i7 i8 i9;obtain⟨z0,z1,z2,z3,z4,z5,z6,z7,z8,z9,z10,z11,z12,z13,g0,g1,g2,g3,g4,g5,g6,g7,g8,g9,g10,g11,g12,g13⟩:=free14 (SP.out _ _ _ H9.out);go_wp2_with fail;refine bodyPost_ret (res14t rfl rfl rfl (set14 (SP.out _ _ _ H9.out))) rfl ?_;rw[HE.out];exact⟨rfl,HR.out _ _ _ _ _ _ _ _ _ _ _ _ _ _ _ _ _ H9.out⟩
theorem hind_same(ph:Int)(q:Rq)(lo hi:List UInt8)(X:Sd)(a:Int)(D:Drm.Dr)(hs:Ts q.sp q.sl)(hX:XOk X):(hindF ph q lo hi X a D).2.1.wt=X.wt:=by
 unfold hindF;have hhe:=hear_ok (f:=ph) (a:=a) (D:=D) hs hX;repeat' split
 ·rfl
 ·exact hhe.1.wt
 ·exact hhe.1.wt
theorem nul_cat(k:List UInt8):(bs k)++(⟨#[0]⟩:ByteArray)=bs (k++[0]):=by apply ByteArray.ext;simp[bs]
theorem get92(E:Env SA TA BA)(ph:Int)(q:Rq)(wa:Option Addr)(wc:Nat)(sa:Option Addr)(sc:Nat)(h:ShAt SA TA BA f M X a g D w)(ht:X.wt<8900)(hX:XOk X)(hph:0<=ph)(hq:RqOk q)(hk:q.key.length<=32)(hsk:q.sk.length<=16)(hsi:TAt w.heap.size (.slice sa q.sk.length sc) q.sk w)(hsn:0<q.sk.length->∀k,(Value.slice sa q.sk.length sc).ownBlock=some k->¬M k/\k<w.heap.size):
  Calls Tryz.prog 36 #[pz f.sb,uw ph,.agg (rqC q.k q wa wc sa sc)] w fun e w'=>e=.returned (rpV (getFn ph q X a D).1 sy)/\ShTo SA TA BA f M w (getFn ph q X a D).2.1 a g (getFn ph q X a D).2.2 w':=by
 have HL0:getFn ph q X a D=match (hindF ph q q.key (q.key++[0]) X a D).1 with
  |some r=>(r,(hindF ph q q.key (q.key++[0]) X a D).2)
  |none=>({Rp.zero with k:=1,found:=(Sto.getV (Sto.seeF (Sto.chainF q.key (hindF ph q q.key (q.key++[0]) X a D).2.1.S) q.sp q.sl)).2,val:=(Sto.getV (Sto.seeF (Sto.chainF q.key (hindF ph q q.key (q.key++[0]) X a D).2.1.S) q.sp q.sl)).1},(hindF ph q q.key (q.key++[0]) X a D).2):=rfl
 obtain⟨b1,Lo,hb1,hLo,H0,SP,HR,ON,NW,CR,CS⟩:=setq E h q.k q wa wc sa sc;have SB:=setb H0 hLo;obtain⟨kr,kz,hkv,hkz,hkr⟩:=kn_parts (hindF ph q q.key (q.key++[0]) X a D).1;have CK:Hid (∀W,Cx SA TA BA f M w X a g D Lo W->Calls Tryz.prog 84 #[pz f.sb,uw ph,.agg (rqC q.k q wa wc sa sc),sd q.key,.string (bs (q.key++[0]))] W fun e w'=>e=.returned (.tuple #[.agg (rpD kr none 0 0),.bool kz])/\Cx SA TA BA f M w (hindF ph q q.key (q.key++[0]) X a D).2.1 a g (hindF ph q q.key (q.key++[0]) X a D).2.2 Lo w'):=fun W hW=>by
  obtain⟨M9,h9,h8,h7⟩:=hW.sh;have:=hind188 E ph q q.key (q.key++[0]) wa wc sa sc h9 (by omega) hX hph hq hsk (SkIn.kept hsi (fun h0 k hk=>(hsn h0 k hk).1) hW.kp) (fun h0 k hk hm=>by
   rcases h8 k hm with e1|e1
   ·exact(hsn h0 k hk).1 e1
   ·have:=(hsn h0 k hk).2;omega)
  rw[hkv]at this;exact this.mono fun r w' h=>⟨h.1,hW.next h8 h7 h.2⟩
 have hwt:=hind_same ph q q.key (q.key++[0]) X a D hq.s hX;obtain⟨gv,gb,hgv⟩:∃gv gb,(Sto.getV (Sto.seeF (Sto.chainF q.key (hindF ph q q.key (q.key++[0]) X a D).2.1.S) q.sp q.sl))=(gv,gb):=⟨_,_,rfl⟩;have CG:Hid (∀W,Cx SA TA BA f M w (hindF ph q q.key (q.key++[0]) X a D).2.1 a g (hindF ph q q.key (q.key++[0]) X a D).2.2 Lo W->Calls Tryz.prog 85 #[pz f.st,sd q.key,.agg #[uw q.sp,ui q.sl]] W fun e w'=>e=.returned (.tuple #[sd gv,.bool gb])/\Cx SA TA BA f M w (hindF ph q q.key (q.key++[0]) X a D).2.1 a g (hindF ph q q.key (q.key++[0]) X a D).2.2 Lo w'):=fun W hW=>by obtain⟨M9,h9,-,-⟩:=hW.sh;have:=sh_get E q.key q.sp q.sl h9 (wt_S (by omega));rw[hgv]at this;exact this.mono fun r w' h=>⟨h.1,hW.on E h.2⟩
 have SH:Hid (∀(X:Sd) (D:Drm.Dr) W,Cx SA TA BA f M w X a g D Lo W->ce W f.sb 2 (pz f.st)/\ce W w.heap.size 7 (sd q.key)/\ce W w.heap.size 3 (uw q.sp)/\ce W w.heap.size 4 (ui q.sl)):=fun X D W hW=>by obtain⟨-,-,-,c3,c4,-,-,c7,-⟩:=SB.out _ _ _ hW;exact⟨hW.ptrs.2.2.1,c7,c3,c4⟩
 have DW:Hid (∀(X:Sd) (D:Drm.Dr) W,Cx SA TA BA f M w X a g D Lo W->Cx SA TA BA f M w X a g D Lo W.drew):=fun X D W hW=>hW.drew E;have nul:(bs q.key).size<=9223372036854775806:=by rw[bs_size];omega
 have NC:Hid ((bs q.key)++(⟨#[0]⟩:ByteArray)=bs (q.key++[0])):=nul_cat q.key;have HKz:Hid (kz=(hindF ph q q.key (q.key++[0]) X a D).1.isSome/\∀x,(hindF ph q q.key (q.key++[0]) X a D).1=some x->kr=x):=⟨hkz,hkr⟩;rw[hgv]at HL0;have HL:Hid _:=HL0;generalize getFn ph q X a D=Y at*;generalize (hindF ph q q.key (q.key++[0]) X a D)=H at*;obtain⟨ho,Xh,Dh⟩:=H;dsimp only at CK CG HL HKz;clear hLo h ht hX hph hq hsk hsi hsn hk E HL0 hkv hkz hkr hwt hgv;obtain⟨W2,hW2⟩:=xj ((w.alloc (.cells (rqC q.k q wa wc sa sc) 32)).alloc (.cells (zC 0 0 0 0) 40));rw[hW2]at H0;obtain⟨c0,c1,c2,c3,c4,c5,c6,c7,c8,c9,c10,c11,c12⟩:=SB.out _ _ _ H0.out;go_enter Tryz.func36,Tryz.ntmps36;go_wp2_with fail;rw[<-hb1,NC.out];clear hW2 hb1 NC;refine(CK.out _ H0.out).mono ?_;rintro e w3 ⟨rfl,hq⟩;have H3:Hid _:=hq;clear hq CK c0 c1 c2 c3 c4 c5 c6 c7 c8 c9 c10 c11 c12 nul H0;have hob:(w3.alloc (.cells (rpD kr none 0 0) 40)).heap[w3.heap.size]?=some (.cells (rpD kr none 0 0) 40 (0,0)):=heap_alloc_new w3 _;have H4:Hid (Cx SA TA BA f M w Xh a g Dh Lo (w3.alloc (.cells (rpD kr none 0 0) 40))):=ON.out _ _ _ _ H3.out ((Below.refl _ _).alloc (Nat.le_refl _) _);go_upto_region 2 with fail
 obtain⟨W4,hW4⟩:=xj (w3.alloc (.cells (rpD kr none 0 0) 40));rw[hW4]at hob H4|-;clear hW4 H3;cases kz
 case true=>
  have HE:Hid (Y=(kr,Xh,Dh)):=by
   show _=_;rw[HL.out];cases ho with
   |none=>have:=HKz.out.1;cases this
   |some r=>rw[HKz.out.2 r rfl]
  obtain⟨i0,i1,i2,i3,i4,i5,i6,i7,i8,i9,i10,i11,i12,i13,-⟩:=free14 hob;clear hob CG SH DW;have K:=H4;exact re5
 case false=>
  have HE:Hid (Y=({Rp.zero with k:=1,found:=gb,val:=gv},Xh,Dh)):=by
   show _=_;rw[HL.out];cases ho with
   |none=>rfl
   |some r=>have:=HKz.out.1;cases this
  clear hob HKz HL;go_wp2_with fail;go_region_held3 (fun W=>ce W f.sb 2 (pz f.st)/\ce W w.heap.size 7 (sd q.key)/\ce W w.heap.size 3 (uw q.sp)/\ce W w.heap.size 4 (ui q.sl)) (first|exact SH.out _ _ _ H4.out|exact SH.out _ _ _ (DW.out _ _ _ H4.out)|exact SH.out _ _ _ H5.out) (first
   |(go_at_call 85;refine(CG.out _ (DW.out _ _ _ H4.out)).mono ?_;rintro e w5 ⟨rfl,hq⟩;have H5:Hid _:=hq;clear hq))
  rename_i hHeld;clear hHeld CG SH DW H4;have K:=H5;exact re5
end Go.Proofs.YtdplfgcoaddbdaaGreat
namespace Go.Proofs.YtdplfgcoaddbdaaGreat
variable {X:Sd}{a:Int}{D:Drm.Dr}
theorem hind_prs0{ph:Int}{q:Rq}{lo hi:List UInt8}{r:Rp}(h:(hindF ph q lo hi X a D).1=some r):r.prs=[]:=by
 unfold hindF at h;split at h
 ·injection h with h;rw[<-h];rfl
 ·split at h
  ·injection h with h;rw[<-h];rfl
  ·obtain⟨x,-,e⟩:=Option.map_eq_some_iff.1 h;rw[<-e];rfl
theorem kn_prs{c n:Int}{r:Rp}(h:knownF c n X=some r):r.prs=[]:=by
 unfold knownF at h;split at h
 ·injection h with h;rw[<-h];split<;>rfl
 ·obtain⟨v,-,e⟩:=Option.map_eq_some_iff.1 h;rw[<-e];rfl
theorem cont_prs{k:List UInt8}{sp sl:Int}{r:Rp}(h:contF k sp sl X=some r):r.prs=[]:=by
 unfold contF at h;repeat' split at h
 all_goals first|(injection h with h;rw[<-h];rfl)|cases h
theorem give_prs(c n sp sl:Int):(giveF c n sp sl X a D).1.prs=[]:=by
 unfold giveF;repeat' split
 all_goals rfl
theorem get_prs(ph:Int)(q:Rq):(getFn ph q X a D).1.prs=[]:=by
 unfold getFn;split
 ·rename_i h;exact hind_prs0 h
 ·rfl
theorem lay_prs(ph:Int)(q:Rq):(layFn ph q X a D).1.prs=[]:=by
 rw[lay_steps];split
 ·rfl
 ·split
  ·rename_i h;exact kn_prs h
  ·split
   ·rfl
   ·split
    ·rename_i h;obtain⟨x,-,e⟩:=List.exists_of_findSome?_eq_some h;exact cont_prs e
    ·dsimp only;repeat' split
     all_goals rfl
theorem dec_prs(ph:Int)(q:Rq):(decFn ph q X a D).1.prs=[]:=by
 rw[dec_steps];split
 ·rename_i h;exact kn_prs h
 ·repeat' split
  all_goals rfl
theorem app_prs(ph:Int)(q:Rq):(appFn ph q X a D).1.prs=[]:=by
 obtain⟨y,z,hv,hz,hy⟩:=vof_parts (Ver.getB q.c q.n X.K);rw[app_steps ph q X a D hz hy];repeat' split
 all_goals rfl
theorem und_prs(q:Rq):(undFn q X a D).1.prs=[]:=by
 unfold undFn;split
 ·rename_i h;exact kn_prs h
 ·exact give_prs _ _ _ _
theorem pus_prs(ph:Int)(q:Rq):(pusFn ph q X a D).1.prs=[]:=by
 rw[pus_steps ph q X a D rfl];split
 ·rename_i h;exact kn_prs h
 ·repeat' split
  all_goals first|rfl|exact give_prs _ _ _ _
theorem saf_prs(q:Rq):(safFn q X a D).1.prs=[]:=by
 unfold safFn;repeat' split
 all_goals rfl
theorem don_prs(q:Rq):(donFn q X a D).1.prs=[]:=by
 unfold donFn;repeat' split
 all_goals rfl
end Go.Proofs.YtdplfgcoaddbdaaGreat
