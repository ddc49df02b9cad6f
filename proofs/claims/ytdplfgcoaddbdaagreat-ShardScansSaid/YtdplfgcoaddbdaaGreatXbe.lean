import Derived.Test.YtdplfgcoaddbdaaGreatXbb
import Derived.Test.YtdplfgcoaddbdaaGreatXbc
set_option maxHeartbeats 4000000
set_option maxRecDepth 100000
set_option linter.unusedVariables false
set_option linter.unusedSimpArgs false
namespace Go.Proofs.YtdplfgcoaddbdaaGreat
open Go.RowKit
variable {SA:TyS}{TA:TyT}{BA:TyB}
variable {f:Fp}{M:Nat->Prop}{X:Sd}{a:Int}{g:Nat}{D:Drm.Dr}{w W W':World}{Lo:List (Nat×Obj)}
theorem fs_step{α β:Type}{L:List α}{d:α}{m:Nat}(P:α->Option β)(h:m<L.length)(h1:(L.take m).findSome? P=none)(h2:P (L.getD m d)=none):(L.take (m+1)).findSome? P=none:=by rw[List.take_succ_eq_append_getElem h,List.findSome?_append,h1];rw[List.getD,List.getElem?_eq_getElem h]at h2;simpa using h2
theorem fs_at{α β:Type}{L:List α}{d:α}{m:Nat}{r:β}(P:α->Option β)(h:m<L.length)(h1:(L.take m).findSome? P=none)(h2:P (L.getD m d)=some r):L.findSome? P=some r:=by
 have e2:L.findSome? P=(L.take m++L.drop m).findSome? P:=by rw[List.take_append_drop]
 rw[List.getD,List.getElem?_eq_getElem h]at h2;rw[e2,List.findSome?_append,h1,List.drop_eq_getElem_cons h,List.findSome?_cons,show P L[m]=some r from h2];rfl
theorem lay_steps(ph:Int)(q:Rq)(X:Sd)(a:Int)(D:Drm.Dr):layFn ph q X a D=if Clk.lessB q.sp q.sl X.sp X.sl then(refR 30,X,D)else
  match knownF q.c q.n X with
  |some r=>(r,X,D)
  |none=>match ownF q.c q.n X with
   |some x=>(saidR 4 x.2.mp x.2.ml,X,D)
   |none=>match q.ws.findSome? (fun w=>contF w.key q.sp q.sl X)with
    |some r=>(r,X,D)
    |none=>if(hearF ph q.sp q.sl X a D).1≠0 then(refR (hearF ph q.sp q.sl X a D).1,(hearF ph q.sp q.sl X a D).2)else
     if(Clk.tickF (hearF ph q.sp q.sl X a D).2.1.np (hearF ph q.sp q.sl X a D).2.1.nl ph).2.2≠0 then(refR (Clk.tickF (hearF ph q.sp q.sl X a D).2.1.np (hearF ph q.sp q.sl X a D).2.1.nl ph).2.2,(hearF ph q.sp q.sl X a D).2)else
     let t:=Clk.tickF (hearF ph q.sp q.sl X a D).2.1.np (hearF ph q.sp q.sl X a D).2.1.nl ph
     let v:=advF t.1 t.2.1 (hearF ph q.sp q.sl X a D).2.1 a (hearF ph q.sp q.sl X a D).2.2
     if v.1≠0 then(refR v.1,v.2)else
     let o:=noteF (eLay q.c q.n q.sp q.sl t.1 t.2.1 q.key q.ws) v.2.1 a v.2.2
     if o.1≠0 then(refR o.1,o.2)else(saidR 4 t.1 t.2.1,o.2):=rfl
theorem lay94(E:Env SA TA BA)(ph:Int)(q:Rq)(wa:Option Addr)(wc:Nat)(sa:Option Addr)(sc:Nat)(h:ShAt SA TA BA f M X a g D w)(ht:X.wt<8900)(hX:XOk X)(hph:0<=ph)(hq:RqOk q)(hk:kOk q.key=true)(hw:rightW q.ws=true)(hi:WsIn M w wa wc q.ws):
  Calls Tryz.prog 38 #[pz f.sb,uw ph,.agg (rqC q.k q wa wc sa sc)] w fun e w'=>e=.returned (rpV (layFn ph q X a D).1 sy)/\ShTo SA TA BA f M w (layFn ph q X a D).2.1 a g (layFn ph q X a D).2.2 w':=by
 have HL0:=lay_steps ph q X a D;obtain⟨b1,Lo,hb1,hLo,H0,SP,HR,ON,NW,CR,CS⟩:=setq E h q.k q wa wc sa sc;have SB:Hid (∀(X:Sd) (D:Drm.Dr) W,Cx SA TA BA f M w X a g D Lo W->ce W w.heap.size 1 (ui q.c)/\ce W w.heap.size 2 (ui q.n)/\ce W w.heap.size 3 (uw q.sp)/\ce W w.heap.size 4 (ui q.sl)/\ce W w.heap.size 7 (sd q.key)/\ce W w.heap.size 11 (.slice wa q.ws.length wc)):=fun X D W hW=>by subst hLo;exact⟨hW.has.cell (.tail _ (.head _)) rfl,hW.has.cell (.tail _ (.head _)) rfl,hW.has.cell (.tail _ (.head _)) rfl,hW.has.cell (.tail _ (.head _)) rfl,hW.has.cell (.tail _ (.head _)) rfl,hW.has.cell (.tail _ (.head _)) rfl⟩
 obtain⟨kr,kz,hkv,hkz,hkr⟩:=kn_parts (knownF q.c q.n X);have CK:Hid (∀W,Cx SA TA BA f M w X a g D Lo W->Calls Tryz.prog 88 #[pz f.sb,.agg #[ui q.c,ui q.n]] W fun e w'=>e=.returned (.tuple #[.agg (rpD kr none 0 0),.bool kz])/\Cx SA TA BA f M w X a g D Lo w'):=fun W hW=>by obtain⟨M9,h9,-,-⟩:=hW.sh;have:=known191 E q.c q.n h9 (by omega) hq.c;rw[hkv]at this;exact this.mono fun e w' h=>⟨h.1,hW.on E h.2⟩
 obtain⟨⟨ok,ox⟩,oz,hov,hoz,hox⟩:=fs_parts (ownF q.c q.n X);have CW:Hid (∀W,Cx SA TA BA f M w X a g D Lo W->Calls Tryz.prog 89 #[pz f.sb,.agg #[ui q.c,ui q.n]] W fun e w'=>e=.returned (.tuple #[.agg (inC ok ox),.bool oz])/\Cx SA TA BA f M w X a g D Lo w'):=fun W hW=>by obtain⟨M9,h9,-,-⟩:=hW.sh;have:=own192 E q.c q.n h9 (by omega);rw[hov]at this;exact this.mono fun e w' h=>⟨h.1,hW.on E h.2⟩
 have SN:Hid (∀W,Cx SA TA BA f M w X a g D Lo W->ce W w.heap.size 3 (uw q.sp)/\ce W w.heap.size 4 (ui q.sl)/\ce W f.sb 5 (uw X.sp)/\ce W f.sb 6 (ui X.sl)):=fun W hW=>⟨(SB.out _ _ _ hW).2.2.1,(SB.out _ _ _ hW).2.2.2.1,hW.nums.1,hW.nums.2.1⟩;have CL:Hid (∀W,Cx SA TA BA f M w X a g D Lo W->Calls Tryz.prog 87 #[.agg #[uw q.sp,ui q.sl],.agg #[uw X.sp,ui X.sl]] W fun r w'=>r=.returned (.bool (Clk.lessB q.sp q.sl X.sp X.sl))/\Cx SA TA BA f M w X a g D Lo w'):=fun W hW=>(Clk.less17 q.sp q.sl X.sp X.sl W).mono fun r w' h=>⟨h.1,hW.on E h.2⟩;have DW:Hid (∀W,Cx SA TA BA f M w X a g D Lo W->Cx SA TA BA f M w X a g D Lo W.drew):=fun W hW=>hW.drew E;have CC:Hid (∀(k:List UInt8) W,Cx SA TA BA f M w X a g D Lo W->Calls Tryz.prog 91 #[pz f.sb,sd k,.agg #[uw q.sp,ui q.sl]] W fun e w'=>∃cr cz,e=.returned (.tuple #[.agg (rpD cr none 0 0),.bool cz])/\Cx SA TA BA f M w X a g D Lo w'/\Hid (cz=(contF k q.sp q.sl X).isSome/\∀x,contF k q.sp q.sl X=some x->cr=x)):=fun k W hW=>by obtain⟨M9,h9,-,-⟩:=hW.sh;obtain⟨cr,cz,hcv,hcz,hcr⟩:=kn_parts (contF k q.sp q.sl X);have:=contest194 E k q.sp q.sl h9 (by omega);rw[hcv]at this;exact this.mono fun e w' h=>⟨cr,cz,h.1,hW.on E h.2,hcz,hcr⟩
 have RW:Hid (∀(m:Nat) W,m<q.ws.length->Cx SA TA BA f M w X a g D Lo W->∃b off,wa=some ⟨b,off,none⟩/\ce W b (off+m*3) (.string (bs (q.ws.getD m ⟨[],[],false⟩).key))/\ce W b (off+m*3+1) (.string (bs (q.ws.getD m ⟨[],[],false⟩).val))/\ce W b (off+m*3+2) (.bool (q.ws.getD m ⟨[],[],false⟩).dead)):=fun m W hm hW=>by obtain⟨b,off,e,hc⟩:=rowC_el (vc:=Lat.wrc) (sz:=3) (fun _=>rfl) ⟨[],[],false⟩ (by omega) rfl (hi.kept hW.kp) hm;exact⟨b,off,e,hc 0 _ (by omega) rfl,hc 1 _ (by omega) rfl,hc 2 _ (by omega) rfl⟩
 have hhe:=hear_ok (f:=ph) (a:=a) (D:=D) hq.s hX;have CH:Hid (∀W,Cx SA TA BA f M w X a g D Lo W->Calls Tryz.prog 92 #[pz f.sb,uw ph,.agg #[uw q.sp,ui q.sl]] W fun r w'=>r=.returned (iw (hearF ph q.sp q.sl X a D).1)/\Cx SA TA BA f M w (hearF ph q.sp q.sl X a D).2.1 a g (hearF ph q.sp q.sl X a D).2.2 Lo w'):=fun W hW=>hW.calls fun M' hM=>hear195 E ph q.sp q.sl hM (by omega) hX hph hq.s;obtain⟨t1,t2,t3,hti⟩:∃t1 t2 t3,Clk.tickF (hearF ph q.sp q.sl X a D).2.1.np (hearF ph q.sp q.sl X a D).2.1.nl ph=(t1,t2,t3):=⟨_,_,_,rfl⟩;have htt:=tick_ts (f:=ph) hhe.2.n hph;rw[hti]at HL0 htt;dsimp only at HL0 htt;have CT:Hid (∀W,Calls Tryz.prog 93 #[.agg #[uw (hearF ph q.sp q.sl X a D).2.1.np,ui (hearF ph q.sp q.sl X a D).2.1.nl],uw ph] W fun e w'=>e=.returned (.tuple #[.agg #[uw t1,ui t2],iw t3])/\Below W.heap.size W w'):=fun W=>by have:=Clk.tick9 (hearF ph q.sp q.sl X a D).2.1.np (hearF ph q.sp q.sl X a D).2.1.nl ph W hhe.2.n.1.1 hhe.2.n.2.1 hph;rw[hti]at this;exact this
 have hav:=adv_ok (a:=a) (D:=(hearF ph q.sp q.sl X a D).2.2) htt hhe.2;have CV:Hid (∀W Lo,Cx SA TA BA f M w (hearF ph q.sp q.sl X a D).2.1 a g (hearF ph q.sp q.sl X a D).2.2 Lo W->Calls Tryz.prog 94 #[pz f.sb,.agg #[uw t1,ui t2]] W fun r w'=>r=.returned (iw (advF t1 t2 (hearF ph q.sp q.sl X a D).2.1 a (hearF ph q.sp q.sl X a D).2.2).1)/\Cx SA TA BA f M w (advF t1 t2 (hearF ph q.sp q.sl X a D).2.1 a (hearF ph q.sp q.sl X a D).2.2).2.1 a g (advF t1 t2 (hearF ph q.sp q.sl X a D).2.1 a (hearF ph q.sp q.sl X a D).2.2).2.2 Lo w'):=fun W Lo hW=>hW.calls fun M' hM=>advance197 E t1 t2 hM (by rw[hhe.1.wt];omega) hhe.2.t htt;have CN:Hid (∀W Lo,Cx SA TA BA f M w (advF t1 t2 (hearF ph q.sp q.sl X a D).2.1 a (hearF ph q.sp q.sl X a D).2.2).2.1 a g (advF t1 t2 (hearF ph q.sp q.sl X a D).2.1 a (hearF ph q.sp q.sl X a D).2.2).2.2 Lo W->Calls Tryz.prog 95 #[pz f.sb,.agg #[iw 2,ui q.c,ui q.n,uw q.sp,ui q.sl,uw 0,ui 0,uw t1,ui t2,sd q.key,ub 0,.bool false,.slice wa q.ws.length wc]] W fun r w'=>r=.returned (iw (noteF (eLay q.c q.n q.sp q.sl t1 t2 q.key q.ws) (advF t1 t2 (hearF ph q.sp q.sl X a D).2.1 a (hearF ph q.sp q.sl X a D).2.2).2.1 a (advF t1 t2 (hearF ph q.sp q.sl X a D).2.1 a (hearF ph q.sp q.sl X a D).2.2).2.2).1)/\Cx SA TA BA f M w (noteF (eLay q.c q.n q.sp q.sl t1 t2 q.key q.ws) (advF t1 t2 (hearF ph q.sp q.sl X a D).2.1 a (hearF ph q.sp q.sl X a D).2.2).2.1 a (advF t1 t2 (hearF ph q.sp q.sl X a D).2.1 a (hearF ph q.sp q.sl X a D).2.2).2.2).2.1 a g (noteF (eLay q.c q.n q.sp q.sl t1 t2 q.key q.ws) (advF t1 t2 (hearF ph q.sp q.sl X a D).2.1 a (hearF ph q.sp q.sl X a D).2.2).2.1 a (advF t1 t2 (hearF ph q.sp q.sl X a D).2.1 a (hearF ph q.sp q.sl X a D).2.2).2.2).2.2 Lo w'):=fun W Lo hW=>by
  obtain⟨M9,h9,h8,h7⟩:=hW.sh;have:=note198 E (eLay q.c q.n q.sp q.sl t1 t2 q.key q.ws) wa wc h9 (by rw[hav.1.wt,hhe.1.wt];omega) hav.2.t (ok_lay hq.c hq.s htt hk hw) (by have:=(Lat.right_parts hw).2.2.2;show q.ws.length<=100;omega) ⟨hi.kept hW.kp,fun h1 k hk hm=>by
   rcases h8 k hm with e1|e1
   ·exact hi.not h1 k hk e1
   ·have:=hi.lt h1 hk;omega⟩
  rw[enV_lay hq.c hq.s htt]at this;exact this.mono fun r w' h=>⟨h.1,hW.next h8 h7 h.2⟩
 have LS:Hid (∀(X:Sd) (D:Drm.Dr) W p,Cx SA TA BA f M w X a g D (p::Lo) W->Cx SA TA BA f M w X a g D Lo W):=fun X D W p hW=>hW.less (fun x hx=>.tail _ hx);have ONL:Hid (∀(X:Sd) (D:Drm.Dr) W W' Lo,Cx SA TA BA f M w X a g D Lo W->Bz W W'->Cx SA TA BA f M w X a g D Lo W'):=fun X D W W' Lo hW hb=>hW.on E hb;have SQ:Hid (∀(X:Sd) (D:Drm.Dr) W bl,Cx SA TA BA f M w X a g D ((bl,.cells #[uw t1,ui t2] 28 (0,0))::Lo) W->ce W bl 0 (uw t1)/\ce W bl 1 (ui t2)):=fun X D W bl hW=>⟨hW.has.cell (.head _) rfl,hW.has.cell (.head _) rfl⟩;have SH:Hid (∀(X:Sd) (D:Drm.Dr) W,Cx SA TA BA f M w X a g D Lo W->ce W f.sb 7 (uw X.np)/\ce W f.sb 8 (ui X.nl)):=fun X D W hW=>⟨hW.nums.2.2.1,hW.nums.2.2.2.1⟩;have HWl:Hid (q.ws.length<=16):=(Lat.right_parts hw).2.2.2;have hw9:q.ws.length<9223372036854775808:=by have:=HWl.out;omega
 have HL:Hid _:=HL0;generalize layFn ph q X a D=Y at*;generalize noteF (eLay q.c q.n q.sp q.sl t1 t2 q.key q.ws) (advF t1 t2 (hearF ph q.sp q.sl X a D).2.1 a (hearF ph q.sp q.sl X a D).2.2).2.1 a (advF t1 t2 (hearF ph q.sp q.sl X a D).2.1 a (hearF ph q.sp q.sl X a D).2.2).2.2=N at*;generalize advF t1 t2 (hearF ph q.sp q.sl X a D).2.1 a (hearF ph q.sp q.sl X a D).2.2=V at*;generalize hearF ph q.sp q.sl X a D=H at*;obtain⟨n0,Xn,Dn⟩:=N;obtain⟨v0,Xv,Dv⟩:=V;obtain⟨h0,Xh,Dh⟩:=H;dsimp only at CH CT CV CN HL;have HKz:Hid (kz=(knownF q.c q.n X).isSome/\∀x,knownF q.c q.n X=some x->kr=x):=⟨hkz,hkr⟩;have HOz:Hid (oz=(ownF q.c q.n X).isSome/\∀x,ownF q.c q.n X=some x->(ok,ox)=x):=⟨hoz,hox⟩;clear hLo h ht hX hph hq hk hw hi E HL0 hhe htt hti hav hkv hkz hkr hov hoz hox;generalize hlb:Clk.lessB q.sp q.sl X.sp X.sl=lb at*;clear hlb;obtain⟨W2,hW2⟩:=xj ((w.alloc (.cells (rqC q.k q wa wc sa sc) 32)).alloc (.cells (zC 0 0 0 0) 40));rw[hW2]at H0;go_enter Tryz.func38,Tryz.ntmps38;go_wp2_with fail;rw[<-hb1];clear hW2 hb1;go_region_held3 (fun W=>ce W w.heap.size 3 (uw q.sp)/\ce W w.heap.size 4 (ui q.sl)/\ce W f.sb 5 (uw X.sp)/\ce W f.sb 6 (ui X.sl)) (first|exact SN.out _ H0.out|exact SN.out _ (DW.out _ H0.out)|exact SN.out _ H2.out) (first
  |(go_at_call 87;refine(CL.out _ (DW.out _ H0.out)).mono ?_;rintro e w2 ⟨rfl,hq⟩;have H2:Hid _:=hq;clear hq))
 rename_i hHeld;clear hHeld CL DW SN H0;cases lb
 case true=>
  have HE:Hid (Y=(refR 30,X,D)):=HL.out;go_wp2_with fail;refine(CR.out _ _).mono ?_;rintro e w3 ⟨rfl,hb⟩;have H3:Hid _:=ON.out _ _ _ _ H2.out hb;clear hb;have K:=H3;exact re5
 case false=>
  obtain⟨c1,c2,-,-,-,-⟩:=SB.out _ _ _ H2.out;go_wp2_with fail;refine(CK.out _ H2.out).mono ?_;rintro e w3 ⟨rfl,hq⟩;have H3:Hid _:=hq;clear hq CK c1 c2 H2;have hob:(w3.alloc (.cells (rpD kr none 0 0) 40)).heap[w3.heap.size]?=some (.cells (rpD kr none 0 0) 40 (0,0)):=heap_alloc_new w3 _;have H4:Hid (Cx SA TA BA f M w X a g D Lo (w3.alloc (.cells (rpD kr none 0 0) 40))):=ON.out _ _ _ _ H3.out ((Below.refl _ _).alloc (Nat.le_refl _) _);obtain⟨W4,hW4⟩:=xj (w3.alloc (.cells (rpD kr none 0 0) 40));rw[hW4]at hob H4;cases kz
  case true=>
   have HE:Hid (Y=(kr,X,D)):=by
    show _=_;rw[HL.out];cases hkn:knownF q.c q.n X with
    |none=>have:=HKz.out.1;rw[hkn]at this;cases this
    |some r=>rw[HKz.out.2 r hkn];rfl
   obtain⟨i0,i1,i2,i3,i4,i5,i6,i7,i8,i9,i10,i11,i12,i13,-⟩:=free14 hob;clear hob CW CC CH CT CV CN RW;have K:=H4;exact re5
  case false=>
   have hkn:knownF q.c q.n X=none:=by
    cases hkn:knownF q.c q.n X with
    |none=>rfl
    |some r=>have:=HKz.out.1;rw[hkn]at this;cases this
   rw[hkn]at HL;clear hob HKz hkn;obtain⟨c1,c2,-,-,-,-⟩:=SB.out _ _ _ H4.out;go_wp2_with fail;refine(CW.out _ H4.out).mono ?_;rintro e w5 ⟨rfl,hq⟩;have H5:Hid _:=hq;clear hq CW c1 c2 H4 hW4 H3;have hob:(w5.alloc (.cells (inC ok ox) 69)).heap[w5.heap.size]?=some (.cells (inC ok ox) 69 (0,0)):=heap_alloc_new w5 _;have H6:Hid (Cx SA TA BA f M w X a g D Lo (w5.alloc (.cells (inC ok ox) 69))):=ON.out _ _ _ _ H5.out ((Below.refl _ _).alloc (Nat.le_refl _) _);obtain⟨W6,hW6⟩:=xj (w5.alloc (.cells (inC ok ox) 69));rw[hW6]at hob H6;cases oz
   case true=>
    have HE:Hid (Y=(saidR 4 ox.mp ox.ml,X,D)):=by
     show _=_;rw[HL.out];cases hkn:ownF q.c q.n X with
     |none=>have:=HOz.out.1;rw[hkn]at this;cases this
     |some r=>rw[<-HOz.out.2 r hkn];rfl
    have i4:=Drm.blk_cell (k:=4) (u:=uw ox.mp) hob rfl;have i5:=Drm.blk_cell (k:=5) (u:=ui ox.ml) hob rfl;clear hob CC CH CT CV CN RW;go_wp2_with fail;refine(CS.out _ _ _ _).mono ?_;rintro e w7 ⟨rfl,hb⟩;have H7:Hid _:=ON.out _ _ _ _ H6.out hb;clear hb i4 i5;have K:=H7;exact re5
   case false=>
    have hkn:ownF q.c q.n X=none:=by
     cases hkn:ownF q.c q.n X with
     |none=>rfl
     |some r=>have:=HOz.out.1;rw[hkn]at this;cases this
    rw[hkn]at HL;clear hob HOz hkn;obtain⟨-,-,-,-,-,c11⟩:=SB.out _ _ _ H6.out;go_wp2_with fail;clear hW6;go_loopw [52] (fun i wr=>∃m:Nat,m<=q.ws.length/\i=iw m/\(q.ws.take m).findSome? (fun w=>contF w.key q.sp q.sl X)=none/\Cx SA TA BA f M w X a g D Lo wr) (fun i _=>q.ws.length-(intOf i).toNat)
    case atStart=>exact⟨0,Nat.zero_le _,rfl,rfl,H6.out⟩
    case round=>
     obtain⟨m,hm,rfl,hno,hcx⟩:=hrel;have HC:Hid _:=hcx;have HNo:Hid _:=hno;clear hcx hno c11 H6 H5;by_cases hml:m<q.ws.length
     ·obtain⟨b,off,rfl,e0,e1,e2⟩:=RW.out m wr hml HC.out;have hml':(m:Int)<q.ws.length:=by omega
      have HA:Hid (∀r,contF (q.ws.getD m ⟨[],[],false⟩).key q.sp q.sl X=some r->q.ws.findSome? (fun w=>contF w.key q.sp q.sl X)=some r):=fun r hr=>fs_at _ hml HNo.out hr;have HT:Hid (contF (q.ws.getD m ⟨[],[],false⟩).key q.sp q.sl X=none->(q.ws.take (m+1)).findSome? (fun w=>contF w.key q.sp q.sl X)=none):=fun hr=>fs_step (d:=⟨[],[],false⟩) _ hml HNo.out hr;have HQ:Hid (m+1<=q.ws.length):=hml;generalize q.ws.getD m ⟨[],[],false⟩=x at*;have hob:(wr.alloc (.cells #[sd x.key,sd x.val,.bool x.dead] 67)).heap[wr.heap.size]?=some (.cells #[sd x.key,sd x.val,.bool x.dead] 67 (0,0)):=heap_alloc_new wr _;have H7:Hid (Cx SA TA BA f M w X a g D Lo (wr.alloc (.cells #[sd x.key,sd x.val,.bool x.dead] 67))):=ON.out _ _ _ _ HC.out ((Below.refl _ _).alloc (Nat.le_refl _) _);obtain⟨W7,hW7⟩:=xj (wr.alloc (.cells #[sd x.key,sd x.val,.bool x.dead] 67));rw[hW7]at hob H7;have i0:=Drm.blk_cell (k:=0) (u:=sd x.key) hob rfl;obtain⟨-,-,c3,c4,-,-⟩:=SB.out _ _ _ H7.out;clear hob;go_wp2_with fail;refine(CC.out x.key _ H7.out).mono ?_;rintro e w8 ⟨cr,cz,rfl,hq,hp⟩;have H8:Hid _:=hq;have HP8:Hid _:=hp.out;clear hq hp i0 c3 c4 e0 e1 e2 hW7 H7;have hob:(w8.alloc (.cells (rpD cr none 0 0) 40)).heap[w8.heap.size]?=some (.cells (rpD cr none 0 0) 40 (0,0)):=heap_alloc_new w8 _;have H9:Hid (Cx SA TA BA f M w X a g D Lo (w8.alloc (.cells (rpD cr none 0 0) 40))):=ON.out _ _ _ _ H8.out ((Below.refl _ _).alloc (Nat.le_refl _) _);obtain⟨W9,hW9⟩:=xj (w8.alloc (.cells (rpD cr none 0 0) 40));rw[hW9]at hob H9;cases cz
      case true=>
       have HE:Hid (Y=(cr,X,D)):=by
        show _=_;rw[HL.out];cases hkn:contF x.key q.sp q.sl X with
        |none=>have:=HP8.out.1;rw[hkn]at this;cases this
        |some r=>rw[HA.out r hkn,HP8.out.2 r hkn];rfl
       obtain⟨i0,i1,i2,i3,i4,i5,i6,i7,i8,i9,i10,i11,i12,i13,-⟩:=free14 hob;clear hob CC CH CT CV CN RW;have K:=H9;exact re5
      case false=>
       have HT9:Hid _:=HT.out (by
        cases hkn:contF x.key q.sp q.sl X with
        |none=>rfl
        |some r=>have:=HP8.out.1;rw[hkn]at this;cases this)
       clear hob;go_wp2_with fail;go_roundw
       case rel=>exact⟨m+1,HQ.out,by go_num,HT9.out,H9.out⟩
       case measure=>simp[intOf];omega
     ·have hml':¬(m:Int)<q.ws.length:=by omega
      have hfs:q.ws.findSome? (fun w=>contF w.key q.sp q.sl X)=none:=by have:=HNo.out;rw[List.take_of_length_le (by omega)]at this;exact this
      rw[hfs]at HL;clear hfs HNo hm CC RW;obtain⟨-,-,c3,c4,-,-⟩:=SB.out _ _ _ HC.out;go_wp2_with fail;refine(CH.out _ HC.out).mono ?_;rintro e w7 ⟨rfl,hq⟩;have H7:Hid _:=hq;clear hq CH c3 c4 HC;by_cases hh:h0=0
      case neg=>
       have hh':(h0 != 0)=true:=by simp[hh]
       have HE:Hid (Y=(refR h0,Xh,Dh)):=by show _=_;rw[HL.out,if_pos hh];try rfl
       clear hh;go_wp2_with fail;refine(CR.out _ _).mono ?_;rintro e w8 ⟨rfl,hb⟩;have H8:Hid _:=ON.out _ _ _ _ H7.out hb;clear hb;have K:=H8;exact re5
      case pos=>
       subst hh;obtain⟨c7,c8⟩:=SH.out _ _ _ H7.out;go_wp2_with fail;refine(CT.out _).mono ?_;rintro e w8 ⟨rfl,hb⟩;have H8:Hid _:=ON.out _ _ _ _ H7.out hb;clear hb CT c7 c8 H7;have H9:Hid _:=NW.out _ _ _ #[uw t1,ui t2] H8.out;obtain⟨W9,hW9⟩:=xj (w8.alloc (.cells #[uw t1,ui t2] 28));rw[hW9]at H9;obtain⟨bl,hbl⟩:=xj w8.heap.size;rw[hbl]at H9;by_cases hh:t3=0
       case neg=>
        have hh':(t3 != 0)=true:=by simp[hh]
        have HE:Hid (Y=(refR t3,Xh,Dh)):=by show _=_;rw[HL.out,if_neg (by decide),if_pos hh];try rfl
        have H9b:Hid _:=LS.out _ _ _ _ H9.out;clear hh;go_wp2_with fail;refine(CR.out _ _).mono ?_;rintro e w10 ⟨rfl,hb⟩;have H10:Hid _:=ON.out _ _ _ _ H9b.out hb;clear hb;have K:=H10;exact re5
       case pos=>
        subst hh;obtain⟨l0,l1⟩:=SQ.out _ _ _ _ H9.out;go_wp2_with fail;clear hW9 hbl;refine(CV.out _ _ H9.out).mono ?_;rintro e w10 ⟨rfl,hq⟩;have H10:Hid _:=hq;clear hq CV l0 l1 H9;by_cases hh:v0=0
        case neg=>
         have hh':(v0 != 0)=true:=by simp[hh]
         have HE:Hid (Y=(refR v0,Xv,Dv)):=by show _=_;rw[HL.out,if_neg (by decide),if_neg (by decide),if_pos hh];try rfl
         have H10b:Hid _:=LS.out _ _ _ _ H10.out;clear hh;go_wp2_with fail;refine(CR.out _ _).mono ?_;rintro e w11 ⟨rfl,hb⟩;have H11:Hid _:=ON.out _ _ _ _ H10b.out hb;clear hb;have K:=H11;exact re5
        case pos=>
         subst hh;have H10b:Hid _:=LS.out _ _ _ _ H10.out;obtain⟨c1,c2,c3,c4,c7,c11⟩:=SB.out _ _ _ H10b.out;obtain⟨l0,l1⟩:=SQ.out _ _ _ _ H10.out;have hob:(w10.alloc (.cells #[iw 2,ui q.c,ui q.n,uw q.sp,ui q.sl,uw 0,ui 0,uw t1,ui t2,sd q.key,ub 0,.bool false,.slice wa q.ws.length wc] 108)).heap[w10.heap.size]?=some (.cells #[iw 2,ui q.c,ui q.n,uw q.sp,ui q.sl,uw 0,ui 0,uw t1,ui t2,sd q.key,ub 0,.bool false,.slice wa q.ws.length wc] 108 (0,0)):=heap_alloc_new w10 _;have H11:Hid _:=ONL.out _ _ _ (w10.alloc (.cells #[iw 2,ui q.c,ui q.n,uw q.sp,ui q.sl,uw 0,ui 0,uw t1,ui t2,sd q.key,ub 0,.bool false,.slice wa q.ws.length wc] 108)) _ H10.out ((Below.refl _ _).alloc (Nat.le_refl _) _);obtain⟨W11,hW11⟩:=xj (w10.alloc (.cells #[iw 2,ui q.c,ui q.n,uw q.sp,ui q.sl,uw 0,ui 0,uw t1,ui t2,sd q.key,ub 0,.bool false,.slice wa q.ws.length wc] 108));rw[hW11]at hob H11;have e0:=Drm.blk_cell (k:=0) hob rfl;have e1:=Drm.blk_cell (k:=1) hob rfl;have e2:=Drm.blk_cell (k:=2) hob rfl;have e3:=Drm.blk_cell (k:=3) hob rfl;have e4:=Drm.blk_cell (k:=4) hob rfl;have e5:=Drm.blk_cell (k:=5) hob rfl;have e6:=Drm.blk_cell (k:=6) hob rfl;have e7:=Drm.blk_cell (k:=7) hob rfl;have e8:=Drm.blk_cell (k:=8) hob rfl;have e9:=Drm.blk_cell (k:=9) hob rfl;have e10:=Drm.blk_cell (k:=10) hob rfl;have e11:=Drm.blk_cell (k:=11) hob rfl;have e12:=Drm.blk_cell (k:=12) hob rfl;clear hob H10b;go_wp2_with fail;refine(CN.out _ _ H11.out).mono ?_;rintro e w12 ⟨rfl,hq⟩;have H12:Hid _:=hq;clear hq CN c1 c2 c3 c4 c7 c11 l0 l1 e0 e1 e2 e3 e4 e5 e6 e7 e8 e9 e10 e11 e12 hW11 H11 H10;by_cases hh:n0=0
         case neg=>
          have hh':(n0 != 0)=true:=by simp[hh]
          have HE:Hid (Y=(refR n0,Xn,Dn)):=by show _=_;rw[HL.out,if_neg (by decide),if_neg (by decide),if_neg (by decide),if_pos hh];try rfl
          have H12b:Hid _:=LS.out _ _ _ _ H12.out;clear hh;go_wp2_with fail;refine(CR.out _ _).mono ?_;rintro e w13 ⟨rfl,hb⟩;have H13:Hid _:=ON.out _ _ _ _ H12b.out hb;clear hb;have K:=H13;exact re5
         case pos=>
          subst hh;have HE:Hid (Y=(saidR 4 t1 t2,Xn,Dn)):=by show _=_;rw[HL.out,if_neg (by decide),if_neg (by decide),if_neg (by decide),if_neg (by decide)];try rfl
          have H12b:Hid _:=LS.out _ _ _ _ H12.out;obtain⟨l0,l1⟩:=SQ.out _ _ _ _ H12.out;go_wp2_with fail;refine(CS.out _ _ _ _).mono ?_;rintro e w13 ⟨rfl,hb⟩;have H13:Hid _:=ON.out _ _ _ _ H12b.out hb;clear hb l0 l1;have K:=H13;exact re5
theorem safe99(E:Env SA TA BA)(q:Rq)(wa:Option Addr)(wc:Nat)(sa:Option Addr)(sc:Nat)(h:ShAt SA TA BA f M X a g D w)(ht:X.wt<8900)(hX:XOk X)(hq:RqOk q):
  Calls Tryz.prog 43 #[pz f.sb,.agg (rqC q.k q wa wc sa sc)] w fun e w'=>e=.returned (rpV (safFn q X a D).1 sy)/\ShTo SA TA BA f M w (safFn q X a D).2.1 a g (safFn q X a D).2.2 w':=by
 have HL0:safFn q X a D=if Clk.lessB X.sp X.sl q.ap q.al=false then(saidR 9 X.sp X.sl,X,D)else if(noteF (eSafe q.ap q.al) X a D).1≠0 then(refR (noteF (eSafe q.ap q.al) X a D).1,(noteF (eSafe q.ap q.al) X a D).2)else(saidR 9 q.ap q.al,(noteF (eSafe q.ap q.al) X a D).2):=rfl;obtain⟨b1,Lo,hb1,hLo,H0,SP,HR,ON,NW,CR,CS⟩:=setq E h q.k q wa wc sa sc;have SB:Hid (∀(X:Sd) (D:Drm.Dr) W,Cx SA TA BA f M w X a g D Lo W->ce W w.heap.size 5 (uw q.ap)/\ce W w.heap.size 6 (ui q.al)):=fun X D W hW=>by subst hLo;exact⟨hW.has.cell (.tail _ (.head _)) rfl,hW.has.cell (.tail _ (.head _)) rfl⟩
 have SN:Hid (∀W,Cx SA TA BA f M w X a g D Lo W->ce W w.heap.size 5 (uw q.ap)/\ce W w.heap.size 6 (ui q.al)/\ce W f.sb 5 (uw X.sp)/\ce W f.sb 6 (ui X.sl)):=fun W hW=>⟨(SB.out _ _ _ hW).1,(SB.out _ _ _ hW).2,hW.nums.1,hW.nums.2.1⟩;have CL:Hid (∀W,Cx SA TA BA f M w X a g D Lo W->Calls Tryz.prog 87 #[.agg #[uw X.sp,ui X.sl],.agg #[uw q.ap,ui q.al]] W fun r w'=>r=.returned (.bool (Clk.lessB X.sp X.sl q.ap q.al))/\Cx SA TA BA f M w X a g D Lo w'):=fun W hW=>(Clk.less17 X.sp X.sl q.ap q.al W).mono fun r w' h=>⟨h.1,hW.on E h.2⟩;have DW:Hid (∀W,Cx SA TA BA f M w X a g D Lo W->Cx SA TA BA f M w X a g D Lo W.drew):=fun W hW=>hW.drew E;have CN:Hid (∀W Lo,Cx SA TA BA f M w X a g D Lo W->Calls Tryz.prog 95 #[pz f.sb,.agg #[iw 6,ui 0,ui 0,uw 0,ui 0,uw q.ap,ui q.al,uw 0,ui 0,su,ub 0,.bool false,sy]] W fun r w'=>r=.returned (iw (noteF (eSafe q.ap q.al) X a D).1)/\Cx SA TA BA f M w (noteF (eSafe q.ap q.al) X a D).2.1 a g (noteF (eSafe q.ap q.al) X a D).2.2 Lo w'):=fun W Lo hW=>hW.calls fun M' hM=>by have:=note198 E (eSafe q.ap q.al) none 0 hM (by omega) hX.t (ok_safe hq.a) (Nat.zero_le _) (WsIn.nil _ _);rw[enV_safe hq.a]at this;exact this
 have HL:Hid _:=HL0;generalize safFn q X a D=Y at*;generalize (noteF (eSafe q.ap q.al) X a D)=N at*;generalize hlb:Clk.lessB X.sp X.sl q.ap q.al=lb at*;clear hLo h ht hX hq E HL0 hlb;obtain⟨n0,Xn,Dn⟩:=N;dsimp only at CN HL;obtain⟨W2,hW2⟩:=xj ((w.alloc (.cells (rqC q.k q wa wc sa sc) 32)).alloc (.cells (zC 0 0 0 0) 40));rw[hW2]at H0;go_enter Tryz.func43,Tryz.ntmps43;go_wp2_with fail;rw[<-hb1];clear hW2 hb1;go_region_held3 (fun W=>ce W w.heap.size 5 (uw q.ap)/\ce W w.heap.size 6 (ui q.al)/\ce W f.sb 5 (uw X.sp)/\ce W f.sb 6 (ui X.sl)) (first|exact SN.out _ H0.out|exact SN.out _ (DW.out _ H0.out)|exact SN.out _ H2.out) (first
  |(go_at_call 87;refine(CL.out _ (DW.out _ H0.out)).mono ?_;rintro e w2 ⟨rfl,hq⟩;have H2:Hid _:=hq;clear hq))
 rename_i hHeld;clear hHeld CL DW H0;cases lb
 case false=>
  have HE:Hid (Y=(saidR 9 X.sp X.sl,X,D)):=HL.out;obtain⟨-,-,k5,k6⟩:=SN.out _ H2.out;clear SN CN;go_wp2_with fail;refine(CS.out _ _ _ _).mono ?_;rintro e w3 ⟨rfl,hb⟩;have H3:Hid _:=ON.out _ _ _ _ H2.out hb;clear hb k5 k6;have K:=H3;exact re5
 case true=>
  obtain⟨c5,c6⟩:=SB.out _ _ _ H2.out;clear SN;go_wp2_with fail;refine(CN.out _ _ H2.out).mono ?_;rintro e w3 ⟨rfl,hq⟩;have H3:Hid _:=hq;clear hq CN c5 c6 H2;by_cases hh:n0=0
  case neg=>
   have hh':(n0 != 0)=true:=by simp[hh]
   have HE:Hid (Y=(refR n0,Xn,Dn)):=by show _=_;rw[HL.out];simp[hh]
   clear hh;go_wp2_with fail;refine(CR.out _ _).mono ?_;rintro e w4 ⟨rfl,hb⟩;have H4:Hid _:=ON.out _ _ _ _ H3.out hb;clear hb;have K:=H4;exact re5
  case pos=>
   subst hh;have HE:Hid (Y=(saidR 9 q.ap q.al,Xn,Dn)):=by show _=_;rw[HL.out];simp
   obtain⟨c5,c6⟩:=SB.out _ _ _ H3.out;go_wp2_with fail;refine(CS.out _ _ _ _).mono ?_;rintro e w4 ⟨rfl,hb⟩;have H4:Hid _:=ON.out _ _ _ _ H3.out hb;clear hb c5 c6;have K:=H4;exact re5
theorem done100(E:Env SA TA BA)(q:Rq)(wa:Option Addr)(wc:Nat)(sa:Option Addr)(sc:Nat)(h:ShAt SA TA BA f M X a g D w)(ht:X.wt<8900)(hX:XOk X)(hq:RqOk q):
  Calls Tryz.prog 44 #[pz f.sb,.agg (rqC q.k q wa wc sa sc)] w fun e w'=>e=.returned (rpV (donFn q X a D).1 sy)/\ShTo SA TA BA f M w (donFn q X a D).2.1 a g (donFn q X a D).2.2 w':=by
 obtain⟨b1,Lo,hb1,hLo,H0,SP,HR,ON,NW,CR,CS⟩:=setq E h q.k q wa wc sa sc;have SB:Hid (∀(X:Sd) (D:Drm.Dr) W,Cx SA TA BA f M w X a g D Lo W->ce W w.heap.size 1 (ui q.c)/\ce W w.heap.size 2 (ui q.n)/\ce W w.heap.size 3 (uw q.sp)):=fun X D W hW=>by subst hLo;exact⟨hW.has.cell (.tail _ (.head _)) rfl,hW.has.cell (.tail _ (.head _)) rfl,hW.has.cell (.tail _ (.head _)) rfl⟩
 obtain⟨y,z,hv,hz,hy⟩:=vof_parts (Ver.getB q.c q.n X.K);have C2:Hid (∀W,Calls Tryz.prog 98 #[.agg (vdC y)] W fun e w'=>e=.returned (.bool (Ver.cmB y))/\Below W.heap.size W w'):=fun W=>comm200 y W;obtain⟨W2,hW2⟩:=xj ((w.alloc (.cells (rqC q.k q wa wc sa sc) 32)).alloc (.cells (zC 0 0 0 0) 40));rw[hW2]at H0;have SZ:Hid (∀W,Bz W2 W->Cx SA TA BA f M w X a g D Lo W):=fun W hb=>H0.out.on E hb;have SV:Hid (∀W,Bz W2 W->ce W f.sb 4 (pz f.ve)/\ce W w.heap.size 1 (ui q.c)/\ce W w.heap.size 2 (ui q.n)/\Bz W2 W):=fun W hb=>⟨(H0.out.on E hb).ptrs.2.2.2.2,(SB.out _ _ _ (SZ.out _ hb)).1,(SB.out _ _ _ (SZ.out _ hb)).2.1,hb⟩;have CO:Hid (∀W,Bz W2 W->Calls Tryz.prog 97 #[pz f.ve,.agg #[ui q.c,ui q.n]] W fun e w'=>e=.returned (.tuple #[.agg (vdC y),.bool z])/\Below W.heap.size W w'):=fun W hb=>by obtain⟨M9,h9,-,-⟩:=(H0.out.on E hb).sh;have:=sh_vof E q.c q.n h9 (wt_K (by omega)) hq.c;rw[hv]at this;exact this
 have HZ:Hid (Bz W2 W2):=Below.refl _ _;have HM:Hid (W2.heap.size<=W2.heap.size):=Nat.le_refl _;have HL0:donFn q X a D=if(z&&(Ver.cmB y&& !y.dn))=false then(kinR 9,X,D)else if(noteF (eDone q.c q.n) X a D).1≠0 then(refR (noteF (eDone q.c q.n) X a D).1,(noteF (eDone q.c q.n) X a D).2)else(kinR 9,(noteF (eDone q.c q.n) X a D).2):=by
  unfold donFn;cases hg:Ver.getB q.c q.n X.K with
  |none=>rw[hg]at hz;rw[hz];rfl
  |some u=>rw[hg]at hz;rw[hz,hy u hg];rfl
 have CN:Hid (∀W Lo,Cx SA TA BA f M w X a g D Lo W->Calls Tryz.prog 95 #[pz f.sb,.agg #[iw 7,ui q.c,ui q.n,uw 0,ui 0,uw 0,ui 0,uw 0,ui 0,su,ub 0,.bool false,sy]] W fun r w'=>r=.returned (iw (noteF (eDone q.c q.n) X a D).1)/\Cx SA TA BA f M w (noteF (eDone q.c q.n) X a D).2.1 a g (noteF (eDone q.c q.n) X a D).2.2 Lo w'):=fun W Lo hW=>hW.calls fun M' hM=>by have:=note198 E (eDone q.c q.n) none 0 hM (by omega) hX.t (ok_done hq.c) (Nat.zero_le _) (WsIn.nil _ _);rw[enV_done hq.c]at this;exact this
 have HL:Hid _:=HL0;generalize donFn q X a D=Y at*;generalize (noteF (eDone q.c q.n) X a D)=N at*;generalize Ver.cmB y=cm at*;clear hLo h ht hX hq E HL0 hv hz hy;obtain⟨n0,Xn,Dn⟩:=N;dsimp only at CN HL;go_enter Tryz.func44,Tryz.ntmps44;go_wp2_with fail;rw[<-hb1];clear hW2 hb1;obtain⟨s4,x0,x1,-⟩:=SV.out _ HZ.out;go_cut [5,6] (fun s6 s7 wc=>∃vb,s6=.pointer (some ⟨vb,0,none⟩)/\s7=.bool z/\wc.heap[vb]?=some (.cells (vdC y) 116 (0,0))/\Bz W2 wc)
 case first=>
  go_region_held3 (fun W=>ce W f.sb 4 (pz f.ve)/\ce W w.heap.size 1 (ui q.c)/\ce W w.heap.size 2 (ui q.n)/\Bz W2 W) ((with_reducible refine SV.out _ ?_;with_reducible repeat (first|exact HZ.out|exact H2.out.1|refine Bz.dr ?_|refine Bz.al ?_ _|refine Bz.st ?_ HM.out _ _|refine Bz.st ?_ H2.out.2 _ _))) (first
   |(go_at_call 97;refine(CO.out _ (by with_reducible repeat (first|exact HZ.out|refine Bz.dr ?_|refine Bz.al ?_ _))).mono ?_;rintro e w2 ⟨rfl,hb2⟩;have H2:Hid (Bz W2 w2/\W2.heap.size<=w2.heap.size):=⟨(by refine Bz.on ?_ hb2;with_reducible repeat (first|exact HZ.out|refine Bz.dr ?_|refine Bz.al ?_ _)),Nat.le_trans (by simp) hb2.size⟩;first|((with_reducible have Y3:=Sto.zero_box hb2);obtain⟨y0,y1,y2,y3,y4,y5,y6,y7,g0,g1,g2,g3,g4,g5,g6,g7⟩:=free8 Y3;have Y4:Hid _:=Y3;clear Y3 hb2)|clear hb2))
  all_goals
   go_wp2_with fail;go_meet;first
   |with_reducible exact⟨_,rfl,rfl,new8,Bz.al H2.out.1 _⟩
   |with_reducible exact⟨_,rfl,rfl,set8 Y4.out,bz8 H2.out.1 HM.out⟩
 case rest=>
  obtain⟨vb,rfl,rfl,hob,hb⟩:=hcut;have H3:Hid _:=SZ.out _ hb;clear hb s4 x0 x1 SV CO SZ HZ HM H0;cases z
  case false=>
   have HE:Hid (Y=(kinR 9,X,D)):=HL.out;clear CN C2 HL;have K:=H3;exact re5
  case true=>
   obtain⟨y0,y1,y2,y3,y4,y5,y6,y7,-⟩:=free8 hob;go_wp2_with fail;refine(C2.out _).mono ?_;rintro e w4 ⟨rfl,hb⟩;have H4:Hid _:=ON.out _ _ _ _ H3.out hb;have hob2:w4.heap[vb]?=some (.cells (vdC y) 116 (0,0)):=by rw[hb.block vb (lt_of_block hob)];exact hob
   clear hb C2 hob y0 y1 y2 y3 y4 y5 y6 y7 H3;obtain⟨y0,y1,y2,y3,y4,y5,y6,y7,-⟩:=free8 hob2;cases cm
   case false=>
    have HE:Hid (Y=(kinR 9,X,D)):=HL.out;clear CN HL;have K:=H4;exact re5
   case true=>
    cases hdn:y.dn
    case true=>
     rw[hdn]at y7 HL;have HE:Hid (Y=(kinR 9,X,D)):=HL.out;clear CN HL;have K:=H4;exact re5
    case false=>
     rw[hdn]at y7 HL;have HL2:Hid (Y=if n0≠0 then(refR n0,Xn,Dn)else(kinR 9,Xn,Dn)):=HL.out;obtain⟨c1,c2,-⟩:=SB.out _ _ _ H4.out;clear HL;go_wp2_with fail;refine(CN.out _ _ H4.out).mono ?_;rintro e w5 ⟨rfl,hq⟩;have H5:Hid _:=hq;clear hq CN c1 c2 y0 y1 y2 y3 y4 y5 y6 y7 hob2 H4;by_cases hh:n0=0
     case neg=>
      have hh':(n0 != 0)=true:=by simp[hh]
      have HE:Hid (Y=(refR n0,Xn,Dn)):=by show _=_;rw[HL2.out];simp[hh]
      clear hh;go_wp2_with fail;refine(CR.out _ _).mono ?_;rintro e w6 ⟨rfl,hb⟩;have H6:Hid _:=ON.out _ _ _ _ H5.out hb;clear hb;have K:=H6;exact re5
     case pos=>
      subst hh;have HE:Hid (Y=(kinR 9,Xn,Dn)):=by show _=_;rw[HL2.out];simp
      have K:=H5;exact re5
theorem right91(q:Rq)(wa:Option Addr)(wc:Nat)(sa:Option Addr)(sc:Nat)(hi:Lat.WsAt w.heap.size (.slice wa q.ws.length wc) q.ws w):
  Calls Tryz.prog 34 #[.agg #[iw q.k,ui q.c,ui q.n,uw q.sp,ui q.sl,uw q.ap,ui q.al,sd q.key,sd q.hi,iw q.lim,ub q.pt,.slice wa q.ws.length wc,.slice sa q.sk.length sc]] w fun e w'=>e=.returned (.bool (rightQ q))/\Below w.heap.size w w':=by
 have HR0:Hid (rightQ q=(decide (1<=q.k)&&decide (q.k<=9)&&Ent.rightB q.sp q.sl&&Ent.rightB q.ap q.al&&decide (q.sk.length<=16)&&(if q.k=1 then kOk q.key else if q.k=3 then kOk q.key&&rightW q.ws else if q.k=4\/q.k=5 then !(q.ap==0&&q.al==0)else true))):=rfl;generalize rightQ q=r at*;generalize q.k=k at*;have SB:Hid (∀W,Bo w [(w.heap.size,.cells #[iw k,ui q.c,ui q.n,uw q.sp,ui q.sl,uw q.ap,ui q.al,sd q.key,sd q.hi,iw q.lim,ub q.pt,.slice wa q.ws.length wc,.slice sa q.sk.length sc] 32)] W->W.cell? ⟨w.heap.size,0,none⟩=some (iw k)/\W.cell? ⟨w.heap.size,1,none⟩=some (ui q.c)/\W.cell? ⟨w.heap.size,2,none⟩=some (ui q.n)/\W.cell? ⟨w.heap.size,3,none⟩=some (uw q.sp)/\W.cell? ⟨w.heap.size,4,none⟩=some (ui q.sl)/\W.cell? ⟨w.heap.size,5,none⟩=some (uw q.ap)/\W.cell? ⟨w.heap.size,6,none⟩=some (ui q.al)/\W.cell? ⟨w.heap.size,7,none⟩=some (sd q.key)/\W.cell? ⟨w.heap.size,11,none⟩=some (.slice wa q.ws.length wc)/\W.cell? ⟨w.heap.size,12,none⟩=some (.slice sa q.sk.length sc)):=fun W hW=>⟨hW.has.cell (.head _) rfl,hW.has.cell (.head _) rfl,hW.has.cell (.head _) rfl,hW.has.cell (.head _) rfl,hW.has.cell (.head _) rfl,hW.has.cell (.head _) rfl,hW.has.cell (.head _) rfl,hW.has.cell (.head _) rfl,hW.has.cell (.head _) rfl,hW.has.cell (.head _) rfl⟩;have H1:Hid (Bo w [(w.heap.size,.cells #[iw k,ui q.c,ui q.n,uw q.sp,ui q.sl,uw q.ap,ui q.al,sd q.key,sd q.hi,iw q.lim,ub q.pt,.slice wa q.ws.length wc,.slice sa q.sk.length sc] 32)] (w.alloc (.cells #[iw k,ui q.c,ui q.n,uw q.sp,ui q.sl,uw q.ap,ui q.al,sd q.key,sd q.hi,iw q.lim,ub q.pt,.slice wa q.ws.length wc,.slice sa q.sk.length sc] 32))):=(Bo.nil w).new (.cells #[iw k,ui q.c,ui q.n,uw q.sp,ui q.sl,uw q.ap,ui q.al,sd q.key,sd q.hi,iw q.lim,ub q.pt,.slice wa q.ws.length wc,.slice sa q.sk.length sc] 32);have C1:Hid (∀W,Bo w [(w.heap.size,.cells #[iw k,ui q.c,ui q.n,uw q.sp,ui q.sl,uw q.ap,ui q.al,sd q.key,sd q.hi,iw q.lim,ub q.pt,.slice wa q.ws.length wc,.slice sa q.sk.length sc] 32)] W->Calls Tryz.prog 81 #[.agg #[uw q.sp,ui q.sl]] W fun e w'=>e=.returned (.bool (Ent.rightB q.sp q.sl))/\Bo w [(w.heap.size,.cells #[iw k,ui q.c,ui q.n,uw q.sp,ui q.sl,uw q.ap,ui q.al,sd q.key,sd q.hi,iw q.lim,ub q.pt,.slice wa q.ws.length wc,.slice sa q.sk.length sc] 32)] w'):=fun W hW=>(Ent.rightP q.sp q.sl W).mono fun e w' h=>⟨h.1,hW.on h.2⟩;have C2:Hid (∀W,Bo w [(w.heap.size,.cells #[iw k,ui q.c,ui q.n,uw q.sp,ui q.sl,uw q.ap,ui q.al,sd q.key,sd q.hi,iw q.lim,ub q.pt,.slice wa q.ws.length wc,.slice sa q.sk.length sc] 32)] W->Calls Tryz.prog 81 #[.agg #[uw q.ap,ui q.al]] W fun e w'=>e=.returned (.bool (Ent.rightB q.ap q.al))/\Bo w [(w.heap.size,.cells #[iw k,ui q.c,ui q.n,uw q.sp,ui q.sl,uw q.ap,ui q.al,sd q.key,sd q.hi,iw q.lim,ub q.pt,.slice wa q.ws.length wc,.slice sa q.sk.length sc] 32)] w'):=fun W hW=>(Ent.rightP q.ap q.al W).mono fun e w' h=>⟨h.1,hW.on h.2⟩;have CK:Hid (∀W,Calls Tryz.prog 82 #[sd q.key] W fun e w'=>e=.returned (.bool (kOk q.key))/\W=w'):=fun W=>key187 q.key W;have CW:Hid (∀W,Bo w [(w.heap.size,.cells #[iw k,ui q.c,ui q.n,uw q.sp,ui q.sl,uw q.ap,ui q.al,sd q.key,sd q.hi,iw q.lim,ub q.pt,.slice wa q.ws.length wc,.slice sa q.sk.length sc] 32)] W->Calls Tryz.prog 83 #[.slice wa q.ws.length wc] W fun e w'=>e=.returned (.bool (rightW q.ws))/\Bo w [(w.heap.size,.cells #[iw k,ui q.c,ui q.n,uw q.sp,ui q.sl,uw q.ap,ui q.al,sd q.key,sd q.hi,iw q.lim,ub q.pt,.slice wa q.ws.length wc,.slice sa q.sk.length sc] 32)] w'):=fun W hW=>(Ent.right24 w.heap.size q.ws _ W (RwAt.on hi hW.bel) hW.bel.size).mono fun e w' h=>⟨h.1,hW.on h.2⟩;have nq:∀W,(binOp .neq 28 (.agg #[uw q.ap,ui q.al]) (.agg #[uw 0,ui 0])).run Tryz.prog W=.ok (.bool (!(q.ap==0&&q.al==0))) W:=fun W=>Clk.run_neq25 _ _ _ _ W;generalize kOk q.key=kk at*;generalize rightW q.ws=ww at*;generalize (!(q.ap==0&&q.al==0))=zz at*;generalize Ent.rightB q.sp q.sl=r1 at*;generalize Ent.rightB q.ap q.al=r2 at*;clear hi;by_cases k1:k<1
 case pos=>
  have HL:r=false:=by
   rw[HR0.out];have:¬1<=k:=by omega
   simp[this]
  subst HL;obtain⟨c0,-⟩:=SB.out _ H1.out;go_enter Tryz.func34,Tryz.ntmps34;go_wp2_with fail;go_ret;exact⟨rfl,H1.out.bel⟩
 case neg=>
  have k1':decide (k<1)=false:=by simp[k1]
  by_cases k9:9<k
  case pos=>
   have HL:r=false:=by
    rw[HR0.out];have:¬k<=9:=by omega
    simp[this]
   subst HL;obtain⟨c0,-⟩:=SB.out _ H1.out;go_enter Tryz.func34,Tryz.ntmps34;go_wp2_with fail;go_ret;exact⟨rfl,H1.out.bel⟩
  case neg=>
   have hk:k=1\/k=2\/k=3\/k=4\/k=5\/k=6\/k=7\/k=8\/k=9:=by omega
   have k9':decide (9<k)=false:=by simp[k9]
   have HK:Hid _:=hk;clear hk;obtain⟨c0,-,-,c3,c4,-⟩:=SB.out _ H1.out;go_enter Tryz.func34,Tryz.ntmps34;go_wp2_with fail;refine(C1.out _ H1.out).mono ?_;rintro e w3 ⟨rfl,hq⟩;have H3:Hid _:=hq;clear hq c0 c3 c4;cases r1
   case false=>
    have HL:r=false:=by rw[HR0.out];simp
    subst HL;go_wp2_with fail;go_ret;exact⟨rfl,H3.out.bel⟩
   case true=>
    obtain⟨c0,-,-,-,-,c5,c6,-⟩:=SB.out _ H3.out;go_wp2_with fail;refine(C2.out _ H3.out).mono ?_;rintro e w4 ⟨rfl,hq⟩;have H4:Hid _:=hq;clear hq c0 c5 c6;obtain⟨c0,-,-,-,-,-,-,-,-,c12⟩:=SB.out _ H4.out;cases r2
    case false=>
     have HL:r=false:=by rw[HR0.out];simp
     subst HL;go_wp2_with fail;go_ret;exact⟨rfl,H4.out.bel⟩
    case true=>
     by_cases hs:(16:Int)<q.sk.length
     case pos=>
      have HL:r=false:=by
       rw[HR0.out];have:¬q.sk.length<=16:=by omega
       simp[this]
      subst HL;go_wp2_with fail;go_ret;exact⟨rfl,H4.out.bel⟩
     case neg=>
      have hs':decide ((16:Int)<q.sk.length)=false:=by simp[hs]
      clear k1 k1' k9 k9';rcases HK.out with rfl|rfl|rfl|rfl|rfl|rfl|rfl|rfl|rfl
      ·have HL:r=kk:=by
        rw[HR0.out];have:q.sk.length<=16:=by omega
        simp[this]
       obtain⟨-,-,-,-,-,-,-,c7,-⟩:=SB.out _ H4.out;subst HL;go_wp2_with fail;refine(CK.out _).mono ?_;rintro e w5 ⟨rfl,rfl⟩;go_wp2_with fail;go_ret;exact⟨rfl,H4.out.bel⟩
      ·have HL:r=true:=by
        rw[HR0.out];have:q.sk.length<=16:=by omega
        simp[this]
       subst HL;go_wp2_with fail;go_ret;exact⟨rfl,H4.out.bel⟩
      ·have HL:r=(kk&&ww):=by
        rw[HR0.out];have:q.sk.length<=16:=by omega
        simp[this]
       obtain⟨-,-,-,-,-,-,-,c7,c11,-⟩:=SB.out _ H4.out;go_wp2_with fail;refine(CK.out _).mono ?_;rintro e w5 ⟨rfl,rfl⟩;cases kk
       case false=>
        subst HL;go_wp2_with fail;go_ret;exact⟨rfl,H4.out.bel⟩
       case true=>
        go_wp2_with fail;refine(CW.out _ H4.out).mono ?_;rintro e w6 ⟨rfl,hq⟩;have H6:Hid _:=hq;subst HL;go_wp2_with fail;go_ret;exact⟨rfl,H6.out.bel⟩
      ·have HL:r=zz:=by
        rw[HR0.out];have:q.sk.length<=16:=by omega
        simp[this]
       obtain⟨-,-,-,-,-,c5,c6,-⟩:=SB.out _ H4.out;subst HL;go_wp2_with fail;go_ret;exact⟨rfl,H4.out.bel⟩
      ·have HL:r=zz:=by
        rw[HR0.out];have:q.sk.length<=16:=by omega
        simp[this]
       obtain⟨-,-,-,-,-,c5,c6,-⟩:=SB.out _ H4.out;subst HL;go_wp2_with fail;go_ret;exact⟨rfl,H4.out.bel⟩
      ·have HL:r=true:=by
        rw[HR0.out];have:q.sk.length<=16:=by omega
        simp[this]
       subst HL;go_wp2_with fail;go_ret;exact⟨rfl,H4.out.bel⟩
      ·have HL:r=true:=by
        rw[HR0.out];have:q.sk.length<=16:=by omega
        simp[this]
       subst HL;go_wp2_with fail;go_ret;exact⟨rfl,H4.out.bel⟩
      ·have HL:r=true:=by
        rw[HR0.out];have:q.sk.length<=16:=by omega
        simp[this]
       subst HL;go_wp2_with fail;go_ret;exact⟨rfl,H4.out.bel⟩
      ·have HL:r=true:=by
        rw[HR0.out];have:q.sk.length<=16:=by omega
        simp[this]
       subst HL;go_wp2_with fail;go_ret;exact⟨rfl,H4.out.bel⟩
end Go.Proofs.YtdplfgcoaddbdaaGreat
