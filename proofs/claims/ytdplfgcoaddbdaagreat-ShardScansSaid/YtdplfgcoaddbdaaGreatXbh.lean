import Derived.Laws.Tables
import Derived.Laws.IdiomCopy
import Derived.Test.YtdplfgcoaddbdaaGreatXbg
set_option maxHeartbeats 4000000
set_option maxRecDepth 100000
set_option linter.unusedVariables false
set_option linter.unusedSimpArgs false
namespace Go.Proofs.YtdplfgcoaddbdaaGreat
open Go.RowKit
variable {SA:TyS}{TA:TyT}{BA:TyB}
variable {f:Fp}{M:Nat->Prop}{X:Sd}{a:Int}{g:Nat}{D:Drm.Dr}{w W W':World}{Lo:List (Nat×Obj)}
def PrO(B:Nat)(sv:Value)(L:List (List UInt8×List UInt8))(w:World):Prop:=w.ownsRow B 71 2 sv L.length (Sto.prc L)
theorem PrO.nil(B:Nat)(w:World):PrO B sy [] w:=Lat.own_nil _ _ _ _
def Scan93(SA:TyS)(TA:TyT)(BA:TyB):Prop:=
 ∀{f:Fp} {M:Nat->Prop} {X:Sd} {a:Int} {g:Nat} {D:Drm.Dr} {w:World} (ph:Int) (q:Rq) (wa:Option Addr) (wc:Nat) (sa:Option Addr) (sc:Nat),ShAt SA TA BA f M X a g D w->X.wt<8900->XOk X->0<=ph->RqOk q->q.sk.length<=16->TAt w.heap.size (.slice sa q.sk.length sc) q.sk w->(0<q.sk.length->∀k,(Value.slice sa q.sk.length sc).ownBlock=some k->¬M k/\k<w.heap.size)->Calls Tryz.prog 37 #[pz f.sb,uw ph,.agg (rqC q.k q wa wc sa sc)] w fun e w'=>∃ao n cap,e=.returned (rpV (scanFn ph q X a D).1 (.slice ao n cap))/\PrO w.heap.size (.slice ao n cap) (scanFn ph q X a D).1.prs w'/\ShTo SA TA BA f M w (scanFn ph q X a D).2.1 a g (scanFn ph q X a D).2.2 w'
theorem sk_next{v:Value}{n:Nat}{M':Nat->Prop}(h:0<n->∀k,v.ownBlock=some k->¬M k/\k<w.heap.size)(h8:∀i,M' i->M i\/w.heap.size<=i)(hs:w.heap.size<=W.heap.size):0<n->∀k,v.ownBlock=some k->¬M' k/\k<W.heap.size:=fun h0 k hk=>by
 have h1:=h h0 k hk;refine⟨fun hm=>?_,by omega⟩;rcases h8 k hm with e1|e1
 ·exact h1.1 e1
 ·omega
theorem ws_next{L:List Wr}{ao:Option Addr}{cp:Nat}{M':Nat->Prop}(h:WsIn M w ao cp L)(h8:∀i,M' i->M i\/w.heap.size<=i)(hk:Kept M w W):WsIn M' W ao cp L:=⟨h.kept hk,fun h1 k hk hm=>by
 rcases h8 k hm with e1|e1
 ·exact h.not h1 k hk e1
 ·have:=h.lt h1 hk;omega⟩
theorem ans47_0(E:Env SA TA BA)(S:Scan93 SA TA BA)(ph:Int)(q:Rq)(wa:Option Addr)(wc:Nat)(sa:Option Addr)(sc:Nat)(h:ShAt SA TA BA f M X a g D w)(ht:X.wt<8900)(hX:XOk X)(hph:0<=ph)(hph2:ph<=18446744073709551615)(hq:RqOk q)(hi:WsIn M w wa wc q.ws)(hsi:TAt w.heap.size (.slice sa q.sk.length sc) q.sk w)(hsn:0<q.sk.length->∀k,(Value.slice sa q.sk.length sc).ownBlock=some k->¬M k/\k<w.heap.size)(hr:¬rightQ q=true):
  Calls Tryz.prog 20 #[pz f.sb,uw ph,.agg (rqC q.k q wa wc sa sc)] w fun e w'=>∃ao n cap,e=.returned (rpV (ansF ph q X a D).1 (.slice ao n cap))/\PrO w.heap.size (.slice ao n cap) (ansF ph q X a D).1.prs w'/\ShTo SA TA BA f M w (ansF ph q X a D).2.1 a g (ansF ph q X a D).2.2 w':=by
 have HL0:ansF ph q X a D=if rightQ q=false then(refR 1,X,D)else if D.down then(refR 11,X,D)else if q.k=1 then getFn ph q X a D else if q.k=2 then scanFn ph q X a D else if q.k=3 then layFn ph q X a D else if q.k=4 then decFn ph q X a D else if q.k=5 then appFn ph q X a D else if q.k=6 then undFn q X a D else if q.k=7 then pusFn ph q X a D else if q.k=8 then safFn q X a D else donFn q X a D:=rfl;obtain⟨b1,Lo,hb1,hLo,H0,SP,HR,ON,NW,CR,CS⟩:=setq E h q.k q wa wc sa sc;have SB:Hid (∀(X:Sd) (D:Drm.Dr) W,Cx SA TA BA f M w X a g D Lo W->W.cell? ⟨w.heap.size,0,none⟩=some (iw q.k)/\W.cell? ⟨w.heap.size,1,none⟩=some (ui q.c)/\W.cell? ⟨w.heap.size,2,none⟩=some (ui q.n)/\W.cell? ⟨w.heap.size,3,none⟩=some (uw q.sp)/\W.cell? ⟨w.heap.size,4,none⟩=some (ui q.sl)/\W.cell? ⟨w.heap.size,5,none⟩=some (uw q.ap)/\W.cell? ⟨w.heap.size,6,none⟩=some (ui q.al)/\W.cell? ⟨w.heap.size,7,none⟩=some (sd q.key)/\W.cell? ⟨w.heap.size,8,none⟩=some (sd q.hi)/\W.cell? ⟨w.heap.size,9,none⟩=some (iw q.lim)/\W.cell? ⟨w.heap.size,10,none⟩=some (ub q.pt)/\W.cell? ⟨w.heap.size,11,none⟩=some (.slice wa q.ws.length wc)/\W.cell? ⟨w.heap.size,12,none⟩=some (.slice sa q.sk.length sc)):=fun X D W hW=>by subst hLo;exact⟨hW.has.cell (.tail _ (.head _)) rfl,hW.has.cell (.tail _ (.head _)) rfl,hW.has.cell (.tail _ (.head _)) rfl,hW.has.cell (.tail _ (.head _)) rfl,hW.has.cell (.tail _ (.head _)) rfl,hW.has.cell (.tail _ (.head _)) rfl,hW.has.cell (.tail _ (.head _)) rfl,hW.has.cell (.tail _ (.head _)) rfl,hW.has.cell (.tail _ (.head _)) rfl,hW.has.cell (.tail _ (.head _)) rfl,hW.has.cell (.tail _ (.head _)) rfl,hW.has.cell (.tail _ (.head _)) rfl,hW.has.cell (.tail _ (.head _)) rfl⟩
 have CR1:Hid (∀W,Cx SA TA BA f M w X a g D Lo W->Calls Tryz.prog 34 #[.agg (rqC q.k q wa wc sa sc)] W fun e w'=>e=.returned (.bool (rightQ q))/\Cx SA TA BA f M w X a g D Lo w'):=fun W hW=>(right91 q wa wc sa sc (hi.kept hW.kp)).mono fun r w' h=>⟨h.1,hW.on E h.2⟩;have CD:Hid (∀W,Cx SA TA BA f M w X a g D Lo W->Calls Tryz.prog 35 #[pz f.pb] W fun e w'=>e=.returned (.bool D.down)/\Cx SA TA BA f M w X a g D Lo w'):=fun W hW=>by obtain⟨M9,h9,-,-⟩:=hW.sh;refine(sh_down h9).mono ?_;rintro r w' ⟨rfl,rfl⟩;exact⟨rfl,hW⟩
 have PT:Hid (∀W,Cx SA TA BA f M w X a g D Lo W->W.cell? ⟨f.sb,0,none⟩=some (pz f.pb)):=fun W hW=>hW.ptrs.1;have OS:Hid (∀(X:Sd) (D:Drm.Dr) W0 W v' L (v0 v1 v2 v3 v4 v5 v6 v7 v8 v9 v10 v11 v12 v13:Value),Cx SA TA BA f M w X a g D Lo W0->PrO W0.heap.size v' L W->PrO w.heap.size v' L (s14 W b1 v0 v1 v2 v3 v4 v5 v6 v7 v8 v9 v10 v11 v12 v13)):=fun X D W0 W v' L v0 v1 v2 v3 v4 v5 v6 v7 v8 v9 v10 v11 v12 v13 h0 ho=>by have hk:Kept (fun k=>k=b1) W (s14 W b1 v0 v1 v2 v3 v4 v5 v6 v7 v8 v9 v10 v11 v12 v13):=kept14;have hlt:b1<W0.heap.size:=lt_of_block (SP.out _ _ _ h0);refine own_kept (own_le ho (by omega)) hk (fun k hk' e=>?_);have:=(World.ownsRow.lt ho k hk').1;omega
 have hr':rightQ q=false:=by simpa using hr
 have HE:Hid (ansF ph q X a D=(refR 1,X,D)):=by show _=_;rw[HL0,if_pos hr']
 rw[hr']at CR1;generalize ansF ph q X a D=Y at*;clear hLo h ht hX hph hph2 hq hi hsi hsn E S HL0 hr hr';obtain⟨W2,hW2⟩:=xj ((w.alloc (.cells (rqC q.k q wa wc sa sc) 32)).alloc (.cells (zC 0 0 0 0) 40));rw[hW2]at H0;have zc0:=SB.out _ _ _ H0.out;go_enter Tryz.func20,Tryz.ntmps20;go_wp2_with fail;rw[<-hb1];clear hW2 hb1;refine(CR1.out _ H0.out).mono ?_;rintro e w3 ⟨rfl,hq⟩;have H3:Hid _:=hq;clear hq CR1 H0 zc0;go_wp2_with fail;refine(CR.out _ _).mono ?_;rintro e w4 ⟨rfl,hb⟩;have H4:Hid _:=ON.out _ _ _ _ H3.out hb;clear hb;have zz0:=free14 (SP.out _ _ _ H4.out);go_wp2_with fail;refine bodyPost_ret (res14 rfl rfl rfl (set14 (SP.out _ _ _ H4.out))) rfl ?_;rw[HE.out];exact⟨none,0,0,rfl,PrO.nil _ _,HR.out _ _ _ _ _ _ _ _ _ _ _ _ _ _ _ _ _ H4.out⟩
def AnsP(SA:TyS)(TA:TyT)(BA:TyB)(f:Fp)(M:Nat->Prop)(X:Sd)(a:Int)(g:Nat)(D:Drm.Dr)(w:World)(ph:Int)(q:Rq)(wa:Option Addr)(wc:Nat)(sa:Option Addr)(sc:Nat):Prop:=
  Calls Tryz.prog 20 #[pz f.sb,uw ph,.agg (rqC q.k q wa wc sa sc)] w fun e w'=>∃ao n cap,e=.returned (rpV (ansF ph q X a D).1 (.slice ao n cap))/\PrO w.heap.size (.slice ao n cap) (ansF ph q X a D).1.prs w'/\ShTo SA TA BA f M w (ansF ph q X a D).2.1 a g (ansF ph q X a D).2.2 w'
abbrev CgP(SA:TyS)(TA:TyT)(BA:TyB)(f:Fp)(M:Nat->Prop)(X:Sd)(a:Int)(g:Nat)(D:Drm.Dr)(w:World)(fn:Nat)(xs:Array Value)(H:Rp×Sd×Drm.Dr):Prop:=
 ∀Lo W,Cx SA TA BA f M w X a g D Lo W->Calls Tryz.prog fn xs W fun e w'=>∃ao n cap,e=.returned (rpV H.1 (.slice ao n cap))/\Cx SA TA BA f M w H.2.1 a g H.2.2 Lo w'/\PrO W.heap.size (.slice ao n cap) H.1.prs w'
theorem ans_is(ph:Int)(q:Rq)(X:Sd)(a:Int)(D:Drm.Dr):ansF ph q X a D=if rightQ q=false then(refR 1,X,D)else if D.down then(refR 11,X,D)
  else if q.k=1 then getFn ph q X a D else if q.k=2 then scanFn ph q X a D else if q.k=3 then layFn ph q X a D else if q.k=4 then decFn ph q X a D else if q.k=5 then appFn ph q X a D
  else if q.k=6 then undFn q X a D else if q.k=7 then pusFn ph q X a D else if q.k=8 then safFn q X a D else donFn q X a D:=rfl
theorem rhT{P:Prop}(z:P:=by
 unfold AnsP;obtain⟨b1,Lo,hb1,hLo,H0,SP,HR,ON,NW,CR,CS⟩:=setq E h q.k q wa wc sa sc;have SB:Hid (∀(X:Sd) (D:Drm.Dr) W,Cx SA TA BA f M w X a g D Lo W->W.cell? ⟨w.heap.size,0,none⟩=some (iw q.k)/\W.cell? ⟨w.heap.size,1,none⟩=some (ui q.c)/\W.cell? ⟨w.heap.size,2,none⟩=some (ui q.n)/\W.cell? ⟨w.heap.size,3,none⟩=some (uw q.sp)/\W.cell? ⟨w.heap.size,4,none⟩=some (ui q.sl)/\W.cell? ⟨w.heap.size,5,none⟩=some (uw q.ap)/\W.cell? ⟨w.heap.size,6,none⟩=some (ui q.al)/\W.cell? ⟨w.heap.size,7,none⟩=some (sd q.key)/\W.cell? ⟨w.heap.size,8,none⟩=some (sd q.hi)/\W.cell? ⟨w.heap.size,9,none⟩=some (iw q.lim)/\W.cell? ⟨w.heap.size,10,none⟩=some (ub q.pt)/\W.cell? ⟨w.heap.size,11,none⟩=some (.slice wa q.ws.length wc)/\W.cell? ⟨w.heap.size,12,none⟩=some (.slice sa q.sk.length sc)):=fun X D W hW=>by subst hLo;exact⟨hW.has.cell (.tail _ (.head _)) rfl,hW.has.cell (.tail _ (.head _)) rfl,hW.has.cell (.tail _ (.head _)) rfl,hW.has.cell (.tail _ (.head _)) rfl,hW.has.cell (.tail _ (.head _)) rfl,hW.has.cell (.tail _ (.head _)) rfl,hW.has.cell (.tail _ (.head _)) rfl,hW.has.cell (.tail _ (.head _)) rfl,hW.has.cell (.tail _ (.head _)) rfl,hW.has.cell (.tail _ (.head _)) rfl,hW.has.cell (.tail _ (.head _)) rfl,hW.has.cell (.tail _ (.head _)) rfl,hW.has.cell (.tail _ (.head _)) rfl⟩
 have CR1:Hid (∀W,Cx SA TA BA f M w X a g D Lo W->Calls Tryz.prog 34 #[.agg (rqC q.k q wa wc sa sc)] W fun e w'=>e=.returned (.bool (rightQ q))/\Cx SA TA BA f M w X a g D Lo w'):=fun W hW=>(right91 q wa wc sa sc (hi.kept hW.kp)).mono fun r w' h=>⟨h.1,hW.on E h.2⟩;have CD:Hid (∀W,Cx SA TA BA f M w X a g D Lo W->Calls Tryz.prog 35 #[pz f.pb] W fun e w'=>e=.returned (.bool D.down)/\Cx SA TA BA f M w X a g D Lo w'):=fun W hW=>by obtain⟨M9,h9,-,-⟩:=hW.sh;refine(sh_down h9).mono ?_;rintro r w' ⟨rfl,rfl⟩;exact⟨rfl,hW⟩
 have PT:Hid (∀W,Cx SA TA BA f M w X a g D Lo W->W.cell? ⟨f.sb,0,none⟩=some (pz f.pb)):=fun W hW=>hW.ptrs.1;have OS:Hid (∀(X:Sd) (D:Drm.Dr) W0 W v' L (v0 v1 v2 v3 v4 v5 v6 v7 v8 v9 v10 v11 v12 v13:Value),Cx SA TA BA f M w X a g D Lo W0->PrO W0.heap.size v' L W->PrO w.heap.size v' L (s14 W b1 v0 v1 v2 v3 v4 v5 v6 v7 v8 v9 v10 v11 v12 v13)):=fun X D W0 W v' L v0 v1 v2 v3 v4 v5 v6 v7 v8 v9 v10 v11 v12 v13 h0 ho=>by have hk:Kept (fun k=>k=b1) W (s14 W b1 v0 v1 v2 v3 v4 v5 v6 v7 v8 v9 v10 v11 v12 v13):=kept14;have hlt:b1<W0.heap.size:=lt_of_block (SP.out _ _ _ h0);refine own_kept (own_le ho (by omega)) hk (fun k hk' e=>?_);have:=(World.ownsRow.lt ho k hk').1;omega
 rw[hr]at CR1;have HL1:Hid _:=HL;have CG1:Hid _:=CG;clear HL CG;generalize ansF ph q X a D=Y at*;obtain⟨hr9,Xh,Dh⟩:=H;dsimp only[CgP]at CG1;obtain⟨D0,hD0⟩:=xj D.down;rw[hD0]at CD HL1;generalize q.k=kk at*;obtain⟨W2,hW2⟩:=xj ((w.alloc (.cells (rqC kk q wa wc sa sc) 32)).alloc (.cells (zC 0 0 0 0) 40));rw[hW2]at H0;clear hLo h ht hX hph hph2 hq hi hsi hsn E S hr hD0;subst hk;have zc0:=SB.out _ _ _ H0.out;go_enter Tryz.func20,Tryz.ntmps20;go_wp2_with fail;rw[<-hb1];clear hW2 hb1;refine(CR1.out _ H0.out).mono ?_;rintro e w3 ⟨rfl,hq⟩;have H3:Hid _:=hq;clear hq CR1 H0 zc0;have p0:=PT.out _ H3.out;go_wp2_with fail;refine(CD.out _ H3.out).mono ?_;rintro e w4 ⟨rfl,hq⟩;have H4:Hid _:=hq;clear hq CD PT p0 H3;cases D0
 case true=>
  have HE:Hid (Y=(refR 11,X,D)):=HL1.out;clear CG1;go_wp2_with fail;refine(CR.out _ _).mono ?_;rintro e w5 ⟨rfl,hb⟩;have H5:Hid _:=ON.out _ _ _ _ H4.out hb;clear hb;have zz0:=free14 (SP.out _ _ _ H5.out);go_wp2_with fail;refine bodyPost_ret (res14 rfl rfl rfl (set14 (SP.out _ _ _ H5.out))) rfl ?_;rw[HE.out];exact⟨none,0,0,rfl,PrO.nil _ _,HR.out _ _ _ _ _ _ _ _ _ _ _ _ _ _ _ _ _ H5.out⟩
 case false=>
  have HE:Hid (Y=(hr9,Xh,Dh)):=HL1.out;have zc0:=SB.out _ _ _ H4.out;go_wp2_with fail;refine(CG1.out _ _ H4.out).mono ?_;rintro e w5 ⟨ao,n,cap,rfl,hq,ho⟩;have H5:Hid _:=hq;have HO5:Hid _:=ho;clear hq ho CG1 zc0;unfold rpV;have zz0:=free14 (SP.out _ _ _ H5.out);go_wp2_with fail;refine bodyPost_ret (res14 rfl rfl rfl (set14 (SP.out _ _ _ H5.out))) rfl ?_;rw[HE.out];exact⟨_,_,_,rfl,OS.out _ _ _ _ _ _ _ _ _ _ _ _ _ _ _ _ _ _ _ _ H4.out HO5.out,HR.out _ _ _ _ _ _ _ _ _ _ _ _ _ _ _ _ _ H5.out⟩):P:=z
def AnsK(SA:TyS)(TA:TyT)(BA:TyB)(f:Fp)(M:Nat->Prop)(X:Sd)(a:Int)(g:Nat)(D:Drm.Dr)(w:World)(ph:Int)(q:Rq)(wa:Option Addr)(wc:Nat)(sa:Option Addr)(sc:Nat)(kk:Int):Prop:=
 ∀(E:Env SA TA BA) (S:Scan93 SA TA BA) (h:ShAt SA TA BA f M X a g D w) (ht:X.wt<8900) (hX:XOk X) (hph:0<=ph) (hph2:ph<=18446744073709551615) (hq:RqOk q) (hi:WsIn M w wa wc q.ws) (hsi:TAt w.heap.size (.slice sa q.sk.length sc) q.sk w) (hsn:0<q.sk.length->∀k,(Value.slice sa q.sk.length sc).ownBlock=some k->¬M k/\k<w.heap.size) (hr:rightQ q=true),q.k=kk->AnsP SA TA BA f M X a g D w ph q wa wc sa sc
theorem ans47_1(ph:Int)(q:Rq)(wa:Option Addr)(wc:Nat)(sa:Option Addr)(sc:Nat):AnsK SA TA BA f M X a g D w ph q wa wc sa sc 1:=fun E S h ht hX hph hph2 hq hi hsi hsn hr hk=>by
 have hr0:=hr;unfold rightQ at hr0;have hsk:q.sk.length<=16:=by simp at hr0;omega
 have hkk:kOk q.key=true:=by have:=hr0;rw[hk]at this;simp at this;simp[this]
 have hkey:q.key.length<=32:=by have:=hkk;simp[kOk]at this;omega
 have CG:CgP SA TA BA f M X a g D w 36 #[pz f.sb,uw ph,.agg (rqC q.k q wa wc sa sc)] (getFn ph q X a D):=fun Lo W hW=>by obtain⟨M9,hM,h8,h7⟩:=hW.sh;refine(get92 E ph q wa wc sa sc hM (by omega) hX hph hq hkey hsk (SkIn.kept hsi (fun h0 k hk=>(hsn h0 k hk).1) hW.kp) (sk_next hsn h8 hW.kp.size)).mono ?_;rintro e w' ⟨rfl,hs⟩;exact⟨none,0,0,rfl,hW.next h8 h7 hs,by rw[get_prs ph q];exact PrO.nil _ _⟩
 have HL:ansF ph q X a D=if D.down then(refR 11,X,D)else(getFn ph q X a D):=by rw[ans_is,hr,hk];rfl
 generalize (getFn ph q X a D)=H at*;clear hr0 hsk hkk hkey;exact rhT
theorem ans47_2(ph:Int)(q:Rq)(wa:Option Addr)(wc:Nat)(sa:Option Addr)(sc:Nat):AnsK SA TA BA f M X a g D w ph q wa wc sa sc 2:=fun E S h ht hX hph hph2 hq hi hsi hsn hr hk=>by
 have hr0:=hr;unfold rightQ at hr0;have hsk:q.sk.length<=16:=by simp at hr0;omega
 have CG:CgP SA TA BA f M X a g D w 37 #[pz f.sb,uw ph,.agg (rqC q.k q wa wc sa sc)] (scanFn ph q X a D):=fun Lo W hW=>by obtain⟨M9,hM,h8,h7⟩:=hW.sh;refine(S ph q wa wc sa sc hM (by omega) hX hph hq hsk (SkIn.kept hsi (fun h0 k hk=>(hsn h0 k hk).1) hW.kp) (sk_next hsn h8 hW.kp.size)).mono ?_;rintro e w' ⟨ao,n,cap,rfl,ho,hs⟩;exact⟨ao,n,cap,rfl,hW.next h8 h7 hs,ho⟩
 have HL:ansF ph q X a D=if D.down then(refR 11,X,D)else(scanFn ph q X a D):=by rw[ans_is,hr,hk];rfl
 generalize (scanFn ph q X a D)=H at*;clear hr0 hsk;exact rhT
theorem ans47_3(ph:Int)(q:Rq)(wa:Option Addr)(wc:Nat)(sa:Option Addr)(sc:Nat):AnsK SA TA BA f M X a g D w ph q wa wc sa sc 3:=fun E S h ht hX hph hph2 hq hi hsi hsn hr hk=>by
 have hr0:=hr;unfold rightQ at hr0;have hsk:q.sk.length<=16:=by simp at hr0;omega
 have hkk:kOk q.key=true:=by have:=hr0;rw[hk]at this;simp at this;simp[this]
 have hww:rightW q.ws=true:=by have:=hr0;rw[hk]at this;simp at this;simp[this]
 have CG:CgP SA TA BA f M X a g D w 38 #[pz f.sb,uw ph,.agg (rqC q.k q wa wc sa sc)] (layFn ph q X a D):=fun Lo W hW=>by obtain⟨M9,hM,h8,h7⟩:=hW.sh;refine(lay94 E ph q wa wc sa sc hM (by omega) hX hph hq hkk hww (ws_next hi h8 hW.kp)).mono ?_;rintro e w' ⟨rfl,hs⟩;exact⟨none,0,0,rfl,hW.next h8 h7 hs,by rw[lay_prs ph q];exact PrO.nil _ _⟩
 have HL:ansF ph q X a D=if D.down then(refR 11,X,D)else(layFn ph q X a D):=by rw[ans_is,hr,hk];rfl
 generalize (layFn ph q X a D)=H at*;clear hr0 hsk hkk hww;exact rhT
theorem ans47_4(ph:Int)(q:Rq)(wa:Option Addr)(wc:Nat)(sa:Option Addr)(sc:Nat):AnsK SA TA BA f M X a g D w ph q wa wc sa sc 4:=fun E S h ht hX hph hph2 hq hi hsi hsn hr hk=>by
 have hr0:=hr;unfold rightQ at hr0;have hsk:q.sk.length<=16:=by simp at hr0;omega
 have CG:CgP SA TA BA f M X a g D w 39 #[pz f.sb,uw ph,.agg (rqC q.k q wa wc sa sc)] (decFn ph q X a D):=fun Lo W hW=>by obtain⟨M9,hM,h8,h7⟩:=hW.sh;refine(dec95 E ph q wa wc sa sc hM (by omega) hX hph hq).mono ?_;rintro e w' ⟨rfl,hs⟩;exact⟨none,0,0,rfl,hW.next h8 h7 hs,by rw[dec_prs ph q];exact PrO.nil _ _⟩
 have HL:ansF ph q X a D=if D.down then(refR 11,X,D)else(decFn ph q X a D):=by rw[ans_is,hr,hk];rfl
 generalize (decFn ph q X a D)=H at*;clear hr0 hsk;exact rhT
theorem ans47_5(ph:Int)(q:Rq)(wa:Option Addr)(wc:Nat)(sa:Option Addr)(sc:Nat):AnsK SA TA BA f M X a g D w ph q wa wc sa sc 5:=fun E S h ht hX hph hph2 hq hi hsi hsn hr hk=>by
 have hr0:=hr;unfold rightQ at hr0;have hsk:q.sk.length<=16:=by simp at hr0;omega
 have CG:CgP SA TA BA f M X a g D w 40 #[pz f.sb,uw ph,.agg (rqC q.k q wa wc sa sc)] (appFn ph q X a D):=fun Lo W hW=>by obtain⟨M9,hM,h8,h7⟩:=hW.sh;refine(app96 E ph q wa wc sa sc hM (by omega) hX hph hq).mono ?_;rintro e w' ⟨rfl,hs⟩;exact⟨none,0,0,rfl,hW.next h8 h7 hs,by rw[app_prs ph q];exact PrO.nil _ _⟩
 have HL:ansF ph q X a D=if D.down then(refR 11,X,D)else(appFn ph q X a D):=by rw[ans_is,hr,hk];rfl
 generalize (appFn ph q X a D)=H at*;clear hr0 hsk;exact rhT
theorem ans47_6(ph:Int)(q:Rq)(wa:Option Addr)(wc:Nat)(sa:Option Addr)(sc:Nat):AnsK SA TA BA f M X a g D w ph q wa wc sa sc 6:=fun E S h ht hX hph hph2 hq hi hsi hsn hr hk=>by
 have hr0:=hr;unfold rightQ at hr0;have hsk:q.sk.length<=16:=by simp at hr0;omega
 have CG:CgP SA TA BA f M X a g D w 41 #[pz f.sb,.agg (rqC q.k q wa wc sa sc)] (undFn q X a D):=fun Lo W hW=>by obtain⟨M9,hM,h8,h7⟩:=hW.sh;refine(undo97 E q wa wc sa sc hM (by omega) hX hq).mono ?_;rintro e w' ⟨rfl,hs⟩;exact⟨none,0,0,rfl,hW.next h8 h7 hs,by rw[und_prs q];exact PrO.nil _ _⟩
 have HL:ansF ph q X a D=if D.down then(refR 11,X,D)else(undFn q X a D):=by rw[ans_is,hr,hk];rfl
 generalize (undFn q X a D)=H at*;clear hr0 hsk;exact rhT
theorem ans47_7(ph:Int)(q:Rq)(wa:Option Addr)(wc:Nat)(sa:Option Addr)(sc:Nat):AnsK SA TA BA f M X a g D w ph q wa wc sa sc 7:=fun E S h ht hX hph hph2 hq hi hsi hsn hr hk=>by
 have hr0:=hr;unfold rightQ at hr0;have hsk:q.sk.length<=16:=by simp at hr0;omega
 have CG:CgP SA TA BA f M X a g D w 42 #[pz f.sb,uw ph,.agg (rqC q.k q wa wc sa sc)] (pusFn ph q X a D):=fun Lo W hW=>by obtain⟨M9,hM,h8,h7⟩:=hW.sh;refine(push98 E ph q wa wc sa sc hM (by omega) hX hph hph2 hq).mono ?_;rintro e w' ⟨rfl,hs⟩;exact⟨none,0,0,rfl,hW.next h8 h7 hs,by rw[pus_prs ph q];exact PrO.nil _ _⟩
 have HL:ansF ph q X a D=if D.down then(refR 11,X,D)else(pusFn ph q X a D):=by rw[ans_is,hr,hk];rfl
 generalize (pusFn ph q X a D)=H at*;clear hr0 hsk;exact rhT
theorem ans47_8(ph:Int)(q:Rq)(wa:Option Addr)(wc:Nat)(sa:Option Addr)(sc:Nat):AnsK SA TA BA f M X a g D w ph q wa wc sa sc 8:=fun E S h ht hX hph hph2 hq hi hsi hsn hr hk=>by
 have hr0:=hr;unfold rightQ at hr0;have hsk:q.sk.length<=16:=by simp at hr0;omega
 have CG:CgP SA TA BA f M X a g D w 43 #[pz f.sb,.agg (rqC q.k q wa wc sa sc)] (safFn q X a D):=fun Lo W hW=>by obtain⟨M9,hM,h8,h7⟩:=hW.sh;refine(safe99 E q wa wc sa sc hM (by omega) hX hq).mono ?_;rintro e w' ⟨rfl,hs⟩;exact⟨none,0,0,rfl,hW.next h8 h7 hs,by rw[saf_prs q];exact PrO.nil _ _⟩
 have HL:ansF ph q X a D=if D.down then(refR 11,X,D)else(safFn q X a D):=by rw[ans_is,hr,hk];rfl
 generalize (safFn q X a D)=H at*;clear hr0 hsk;exact rhT
theorem ans47_9(ph:Int)(q:Rq)(wa:Option Addr)(wc:Nat)(sa:Option Addr)(sc:Nat):AnsK SA TA BA f M X a g D w ph q wa wc sa sc 9:=fun E S h ht hX hph hph2 hq hi hsi hsn hr hk=>by
 have hr0:=hr;unfold rightQ at hr0;have hsk:q.sk.length<=16:=by simp at hr0;omega
 have CG:CgP SA TA BA f M X a g D w 44 #[pz f.sb,.agg (rqC q.k q wa wc sa sc)] (donFn q X a D):=fun Lo W hW=>by obtain⟨M9,hM,h8,h7⟩:=hW.sh;refine(done100 E q wa wc sa sc hM (by omega) hX hq).mono ?_;rintro e w' ⟨rfl,hs⟩;exact⟨none,0,0,rfl,hW.next h8 h7 hs,by rw[don_prs q];exact PrO.nil _ _⟩
 have HL:ansF ph q X a D=if D.down then(refR 11,X,D)else(donFn q X a D):=by rw[ans_is,hr,hk];rfl
 generalize (donFn q X a D)=H at*;clear hr0 hsk;exact rhT
theorem ans47(E:Env SA TA BA)(S:Scan93 SA TA BA)(ph:Int)(q:Rq)(wa:Option Addr)(wc:Nat)(sa:Option Addr)(sc:Nat)(h:ShAt SA TA BA f M X a g D w)(ht:X.wt<8900)(hX:XOk X)(hph:0<=ph)(hph2:ph<=18446744073709551615)(hq:RqOk q)(hi:WsIn M w wa wc q.ws)(hsi:TAt w.heap.size (.slice sa q.sk.length sc) q.sk w)(hsn:0<q.sk.length->∀k,(Value.slice sa q.sk.length sc).ownBlock=some k->¬M k/\k<w.heap.size):
  Calls Tryz.prog 20 #[pz f.sb,uw ph,.agg (rqC q.k q wa wc sa sc)] w fun e w'=>∃ao n cap,e=.returned (rpV (ansF ph q X a D).1 (.slice ao n cap))/\PrO w.heap.size (.slice ao n cap) (ansF ph q X a D).1.prs w'/\ShTo SA TA BA f M w (ansF ph q X a D).2.1 a g (ansF ph q X a D).2.2 w':=by
 by_cases hr:rightQ q=true
 case neg=>exact ans47_0 E S ph q wa wc sa sc h ht hX hph hph2 hq hi hsi hsn hr
 case pos=>
  have hr0:=hr;unfold rightQ at hr0;have hk0:q.k=1\/q.k=2\/q.k=3\/q.k=4\/q.k=5\/q.k=6\/q.k=7\/q.k=8\/q.k=9:=by simp at hr0;omega
  rcases hk0 with hk|hk|hk|hk|hk|hk|hk|hk|hk
  ·exact ans47_1 ph q wa wc sa sc E S h ht hX hph hph2 hq hi hsi hsn hr hk
  ·exact ans47_2 ph q wa wc sa sc E S h ht hX hph hph2 hq hi hsi hsn hr hk
  ·exact ans47_3 ph q wa wc sa sc E S h ht hX hph hph2 hq hi hsi hsn hr hk
  ·exact ans47_4 ph q wa wc sa sc E S h ht hX hph hph2 hq hi hsi hsn hr hk
  ·exact ans47_5 ph q wa wc sa sc E S h ht hX hph hph2 hq hi hsi hsn hr hk
  ·exact ans47_6 ph q wa wc sa sc E S h ht hX hph hph2 hq hi hsi hsn hr hk
  ·exact ans47_7 ph q wa wc sa sc E S h ht hX hph hph2 hq hi hsi hsn hr hk
  ·exact ans47_8 ph q wa wc sa sc E S h ht hX hph hph2 hq hi hsi hsn hr hk
  ·exact ans47_9 ph q wa wc sa sc E S h ht hX hph hph2 hq hi hsi hsn hr hk
theorem hind_prs{ph:Int}{q:Rq}{lo hi:List UInt8}{r:Rp}(h:(hindF ph q lo hi X a D).1=some r):r.prs=[]:=by
 unfold hindF at h;split at h
 ·injection h with h;rw[<-h];rfl
 ·split at h
  ·injection h with h;rw[<-h];rfl
  ·obtain⟨x,-,e⟩:=Option.map_eq_some_iff.1 h;rw[<-e];rfl
theorem sh_scan(E:Env SA TA BA)(lo hi:List UInt8)(t u limit:Int)(h:ShAt SA TA BA f M X a g D w)(ht:Sto.totS X.S<10000):Calls Tryz.prog 86 #[pz f.st,sd lo,sd hi,.agg #[uw t,ui u],iw limit] w fun e w'=>∃v',e=.returned v'/\w'.ownsRow w.heap.size 71 2 v' (Sto.scanS lo hi t u limit X.S).length (Sto.prc (Sto.scanS lo hi t u limit X.S))/\Below w.heap.size w w':=by obtain⟨M1,M2,M3,h,rfl⟩:=h;exact E.I.scan lo hi t u limit h.s ht
theorem scan93v(E:Env SA TA BA)(ph:Int)(q:Rq)(wa:Option Addr)(wc:Nat)(sa:Option Addr)(sc:Nat)(h:ShAt SA TA BA f M X a g D w)(ht:X.wt<8900)(hX:XOk X)(hph:0<=ph)(hq:RqOk q)(hsk:q.sk.length<=16)(hsi:TAt w.heap.size (.slice sa q.sk.length sc) q.sk w)(hsn:0<q.sk.length->∀k,(Value.slice sa q.sk.length sc).ownBlock=some k->¬M k/\k<w.heap.size):
  Calls Tryz.prog 37 #[pz f.sb,uw ph,.agg (rqC q.k q wa wc sa sc)] w fun e w'=>∃sv,e=.returned (rpV (scanFn ph q X a D).1 sv)/\PrO w.heap.size sv (scanFn ph q X a D).1.prs w'/\ShTo SA TA BA f M w (scanFn ph q X a D).2.1 a g (scanFn ph q X a D).2.2 w':=by
 have HL0:scanFn ph q X a D=match (hindF ph q q.key q.hi X a D).1 with
  |some r=>(r,(hindF ph q q.key q.hi X a D).2)
  |none=>({Rp.zero with k:=2,prs:=(Sto.scanS q.key q.hi q.sp q.sl q.lim (hindF ph q q.key q.hi X a D).2.1.S)},(hindF ph q q.key q.hi X a D).2):=rfl
 have HP0:∀r,(hindF ph q q.key q.hi X a D).1=some r->r.prs=[]:=fun r hr=>hind_prs hr;obtain⟨b1,Lo,hb1,hLo,H0,SP,HR,ON,NW,CR,CS⟩:=setq E h q.k q wa wc sa sc;have SB:=setb H0 hLo;obtain⟨kr,kz,hkv,hkz,hkr⟩:=kn_parts (hindF ph q q.key q.hi X a D).1;have CK:Hid (∀W,Cx SA TA BA f M w X a g D Lo W->Calls Tryz.prog 84 #[pz f.sb,uw ph,.agg (rqC q.k q wa wc sa sc),sd q.key,sd q.hi] W fun e w'=>e=.returned (.tuple #[.agg (rpD kr none 0 0),.bool kz])/\Cx SA TA BA f M w (hindF ph q q.key q.hi X a D).2.1 a g (hindF ph q q.key q.hi X a D).2.2 Lo w'):=fun W hW=>by
  obtain⟨M9,h9,h8,h7⟩:=hW.sh;have:=hind188 E ph q q.key q.hi wa wc sa sc h9 (by omega) hX hph hq hsk (SkIn.kept hsi (fun h0 k hk=>(hsn h0 k hk).1) hW.kp) (fun h0 k hk hm=>by
   rcases h8 k hm with e1|e1
   ·exact(hsn h0 k hk).1 e1
   ·have:=(hsn h0 k hk).2;omega)
  rw[hkv]at this;exact this.mono fun r w' h=>⟨h.1,hW.next h8 h7 h.2⟩
 have hwt:=hind_same ph q q.key q.hi X a D hq.s hX;obtain⟨sc9,hsc⟩:=xj (Sto.scanS q.key q.hi q.sp q.sl q.lim (hindF ph q q.key q.hi X a D).2.1.S);have CG:Hid (∀W,Cx SA TA BA f M w (hindF ph q q.key q.hi X a D).2.1 a g (hindF ph q q.key q.hi X a D).2.2 Lo W->Calls Tryz.prog 86 #[pz f.st,sd q.key,sd q.hi,.agg #[uw q.sp,ui q.sl],iw q.lim] W fun e w'=>∃ao cap,e=.returned (.slice ao sc9.length cap)/\Cx SA TA BA f M w (hindF ph q q.key q.hi X a D).2.1 a g (hindF ph q q.key q.hi X a D).2.2 Lo w'/\PrO W.heap.size (.slice ao sc9.length cap) sc9 w'):=fun W hW=>by obtain⟨M9,h9,-,-⟩:=hW.sh;have:=sh_scan E q.key q.hi q.sp q.sl q.lim h9 (wt_S (by omega));rw[hsc]at this;refine this.mono ?_;rintro r w' ⟨v',rfl,ho,hb⟩;obtain⟨ao,cap,rfl,-⟩:=rw_own ho;exact⟨ao,cap,rfl,hW.on E hb,ho⟩
 have SH:Hid (∀(X:Sd) (D:Drm.Dr) W,Cx SA TA BA f M w X a g D Lo W->ce W f.sb 2 (pz f.st)/\ce W w.heap.size 7 (sd q.key)/\ce W w.heap.size 8 (sd q.hi)/\ce W w.heap.size 3 (uw q.sp)/\ce W w.heap.size 4 (ui q.sl)/\ce W w.heap.size 9 (iw q.lim)):=fun X D W hW=>by obtain⟨-,-,-,c3,c4,-,-,c7,c8,c9,-⟩:=SB.out _ _ _ hW;exact⟨hW.ptrs.2.2.1,c7,c8,c3,c4,c9⟩
 have SHS:Hid (∀(X:Sd) (D:Drm.Dr) W (v0 v1 v2 v3 v4 v5 v6 v7 v8 v9 v10 v11 v12 v13:Value),Cx SA TA BA f M w X a g D Lo W->(s14 W b1 v0 v1 v2 v3 v4 v5 v6 v7 v8 v9 v10 v11 v12 v13).cell? ⟨f.sb,2,none⟩=some (pz f.st)/\(s14 W b1 v0 v1 v2 v3 v4 v5 v6 v7 v8 v9 v10 v11 v12 v13).cell? ⟨w.heap.size,7,none⟩=some (sd q.key)/\(s14 W b1 v0 v1 v2 v3 v4 v5 v6 v7 v8 v9 v10 v11 v12 v13).cell? ⟨w.heap.size,8,none⟩=some (sd q.hi)/\(s14 W b1 v0 v1 v2 v3 v4 v5 v6 v7 v8 v9 v10 v11 v12 v13).cell? ⟨w.heap.size,3,none⟩=some (uw q.sp)/\(s14 W b1 v0 v1 v2 v3 v4 v5 v6 v7 v8 v9 v10 v11 v12 v13).cell? ⟨w.heap.size,4,none⟩=some (ui q.sl)/\(s14 W b1 v0 v1 v2 v3 v4 v5 v6 v7 v8 v9 v10 v11 v12 v13).cell? ⟨w.heap.size,9,none⟩=some (iw q.lim)):=fun X D W v0 v1 v2 v3 v4 v5 v6 v7 v8 v9 v10 v11 v12 v13 hW=>by
  have hk:Kept (fun k=>k=b1) W (s14 W b1 v0 v1 v2 v3 v4 v5 v6 v7 v8 v9 v10 v11 v12 v13):=kept14;obtain⟨a1,a2,a3,a4,a5,a6⟩:=SH.out _ _ _ hW;have n1:¬f.sb=b1:=by have:f.sb<w.heap.size:=World.block_lt_of_cell? _ _ h.cells.1;omega
  have n2:¬w.heap.size=b1:=by omega
  exact⟨hk.cell a1 n1,hk.cell a2 n2,hk.cell a3 n2,hk.cell a4 n2,hk.cell a5 n2,hk.cell a6 n2⟩
 have OS:Hid (∀(X:Sd) (D:Drm.Dr) W0 W v' (v0 v1 v2 v3 v4 v5 v6 v7 v8 v9 v10 v11 v12 v13:Value),Cx SA TA BA f M w X a g D Lo W0->Cx SA TA BA f M w X a g D Lo W->PrO W0.heap.size v' sc9 W->PrO w.heap.size v' sc9 (s14 W b1 v0 v1 v2 v3 v4 v5 v6 v7 v8 v9 v10 v11 v12 v13)):=fun X D W0 W v' v0 v1 v2 v3 v4 v5 v6 v7 v8 v9 v10 v11 v12 v13 h0 hW ho=>by have hk:Kept (fun k=>k=b1) W (s14 W b1 v0 v1 v2 v3 v4 v5 v6 v7 v8 v9 v10 v11 v12 v13):=kept14;have hlt:b1<W0.heap.size:=lt_of_block (SP.out _ _ _ h0);refine own_kept (own_le ho (Nat.le_trans (by omega) (Nat.le_of_lt hlt))) hk (fun k hk' e=>?_);have:=(World.ownsRow.lt ho k hk').1;omega
 have DW:Hid (∀(X:Sd) (D:Drm.Dr) W,Cx SA TA BA f M w X a g D Lo W->Cx SA TA BA f M w X a g D Lo W.drew):=fun X D W hW=>hW.drew E;have HKz:Hid (kz=(hindF ph q q.key q.hi X a D).1.isSome/\∀x,(hindF ph q q.key q.hi X a D).1=some x->kr=x):=⟨hkz,hkr⟩;have HP:Hid (∀r,(hindF ph q q.key q.hi X a D).1=some r->r.prs=[]):=HP0;rw[hsc]at HL0;have HL:Hid _:=HL0;generalize scanFn ph q X a D=Y at*;generalize (hindF ph q q.key q.hi X a D)=H at*;obtain⟨ho,Xh,Dh⟩:=H;dsimp only at CK CG HL HKz HP;clear hLo h ht hX hph hq hsk hsi hsn E HL0 hkv hkz hkr hwt hsc HP0;obtain⟨W2,hW2⟩:=xj ((w.alloc (.cells (rqC q.k q wa wc sa sc) 32)).alloc (.cells (zC 0 0 0 0) 40));rw[hW2]at H0;obtain⟨c0,c1,c2,c3,c4,c5,c6,c7,c8,c9,c10,c11,c12⟩:=SB.out _ _ _ H0.out;go_enter Tryz.func37,Tryz.ntmps37;go_wp2_with fail;rw[<-hb1];clear hW2 hb1;refine(CK.out _ H0.out).mono ?_;rintro e w3 ⟨rfl,hq⟩;have H3:Hid _:=hq;clear hq CK c0 c1 c2 c3 c4 c5 c6 c7 c8 c9 c10 c11 c12 H0;have hob:(w3.alloc (.cells (rpD kr none 0 0) 40)).heap[w3.heap.size]?=some (.cells (rpD kr none 0 0) 40 (0,0)):=heap_alloc_new w3 _;have H4:Hid (Cx SA TA BA f M w Xh a g Dh Lo (w3.alloc (.cells (rpD kr none 0 0) 40))):=ON.out _ _ _ _ H3.out ((Below.refl _ _).alloc (Nat.le_refl _) _);go_upto_region 2 with fail
 obtain⟨W4,hW4⟩:=xj (w3.alloc (.cells (rpD kr none 0 0) 40));rw[hW4]at hob H4|-;clear hW4 H3;cases kz
 case true=>
  have HE:Hid (Y=(kr,Xh,Dh)/\kr.prs=[]):=by
   cases ho with
   |none=>have:=HKz.out.1;cases this
   |some r=>
    have e:=HKz.out.2 r rfl;subst e;exact⟨HL.out,HP.out _ rfl⟩
  obtain⟨i0,i1,i2,i3,i4,i5,i6,i7,i8,i9,i10,i11,i12,i13,-⟩:=free14 hob;clear hob CG SH SHS OS DW HP;obtain⟨z0,z1,z2,z3,z4,z5,z6,z7,z8,z9,z10,z11,z12,z13,g0,g1,g2,g3,g4,g5,g6,g7,g8,g9,g10,g11,g12,g13⟩:=free14 (SP.out _ _ _ H4.out);go_wp2_with fail;refine bodyPost_ret (res14 rfl rfl rfl (set14 (SP.out _ _ _ H4.out))) rfl ?_;rw[HE.out.1];refine⟨_,rfl,?_,HR.out _ _ _ _ _ _ _ _ _ _ _ _ _ _ _ _ _ H4.out⟩;show PrO _ _ kr.prs _;rw[HE.out.2];exact PrO.nil _ _
 case false=>
  have HE:Hid (Y=({Rp.zero with k:=2,prs:=sc9},Xh,Dh)):=by
   show _=_;rw[HL.out];cases ho with
   |none=>rfl
   |some r=>have:=HKz.out.1;cases this
  clear hob HKz HL HP;go_wp2_with fail;have HD4:Hid _:=DW.out _ _ _ H4.out;go_region_held3 (fun W=>ce W f.sb 2 (pz f.st)/\ce W w.heap.size 7 (sd q.key)/\ce W w.heap.size 8 (sd q.hi)/\ce W w.heap.size 3 (uw q.sp)/\ce W w.heap.size 4 (ui q.sl)/\ce W w.heap.size 9 (iw q.lim)) (first|with_reducible exact SH.out _ _ _ H4.out|with_reducible exact SH.out _ _ _ HD4.out|with_reducible exact SH.out _ _ _ H5.out|with_reducible exact HZ5.out) (first
   |(go_at_call 86;refine(CG.out _ HD4.out).mono ?_;rintro e w5 ⟨ao,cap,rfl,hq,ho⟩;have H5:Hid _:=hq;have HO5:Hid _:=ho;clear hq ho;obtain⟨z0,z1,z2,z3,z4,z5,z6,z7,z8,z9,z10,z11,z12,z13,g0,g1,g2,g3,g4,g5,g6,g7,g8,g9,g10,g11,g12,g13⟩:=free14 (SP.out _ _ _ H5.out);obtain⟨z5,hz5⟩:∃z,(s14 w5 b1 (iw 2) (iw 0) (.bool false) su (.slice ao sc9.length cap) (ui 0) (ui 0) (uw 0) (ui 0) (uw 0) (ui 0) su (uw 0) (ui 0))=z:=⟨_,rfl⟩;have HZ5:Hid (ce z5 f.sb 2 (pz f.st)/\ce z5 w.heap.size 7 (sd q.key)/\ce z5 w.heap.size 8 (sd q.hi)/\ce z5 w.heap.size 3 (uw q.sp)/\ce z5 w.heap.size 4 (ui q.sl)/\ce z5 w.heap.size 9 (iw q.lim)):=by(rw[<-hz5];exact SHS.out _ _ _ _ _ _ _ _ _ _ _ _ _ _ _ _ _ H5.out)))
  rename_i hHeld;clear hHeld;clear CG SH;go_wp2_with fail;refine bodyPost_ret (res14 rfl rfl rfl (by rw[<-hz5];exact set14 (SP.out _ _ _ H5.out))) rfl ?_;rw[HE.out,<-hz5];exact⟨_,rfl,OS.out _ _ _ _ _ _ _ _ _ _ _ _ _ _ _ _ _ _ _ HD4.out H5.out HO5.out,HR.out _ _ _ _ _ _ _ _ _ _ _ _ _ _ _ _ _ H5.out⟩
theorem scan93(E:Env SA TA BA):Scan93 SA TA BA:=fun ph q wa wc sa sc h ht hX hph hq hsk hsi hsn=>(scan93v E ph q wa wc sa sc h ht hX hph hq hsk hsi hsn).mono fun r w' hh=>by obtain⟨sv,e,ho,hs⟩:=hh;obtain⟨ao,cap,e2,-⟩:=rw_own ho;subst e2;exact⟨ao,_,cap,e,ho,hs⟩
theorem handle16(E:Env SA TA BA)(S:Scan93 SA TA BA)(ph:Int)(q:Rq)(wa:Option Addr)(wc:Nat)(sa:Option Addr)(sc:Nat)(h:ShAt SA TA BA f M X a g D w)(ht:X.wt<8900)(hX:XOk X)(hph:0<=ph)(hph2:ph<=18446744073709551615)(hq:RqOk q)(hi:WsIn M w wa wc q.ws)(hsi:TAt w.heap.size (.slice sa q.sk.length sc) q.sk w)(hsn:0<q.sk.length->∀k,(Value.slice sa q.sk.length sc).ownBlock=some k->¬M k/\k<w.heap.size):
  Calls Tryz.prog 8 #[pz f.sb,uw ph,.agg (rqC q.k q wa wc sa sc)] w fun e w'=>∃ao n cap,e=.returned (rpV (handF ph q X a D).1 (.slice ao n cap))/\PrO w.heap.size (.slice ao n cap) (handF ph q X a D).1.prs w'/\ShTo SA TA BA f M w (handF ph q X a D).2.1 a g (handF ph q X a D).2.2 w':=by
 have HL0:handF ph q X a D=({(ansF ph q X a D).1 with np:=(ansF ph q X a D).2.1.np,nl:=(ansF ph q X a D).2.1.nl},(ansF ph q X a D).2):=rfl;obtain⟨b1,Lo,hb1,hLo,H0,SP,HR,ON,NW,-⟩:=setq E h q.k q wa wc sa sc;have SB:=setb H0 hLo;have CA:Hid (∀W,Cx SA TA BA f M w X a g D Lo W->Calls Tryz.prog 20 #[pz f.sb,uw ph,.agg (rqC q.k q wa wc sa sc)] W fun e w'=>∃ao n cap,e=.returned (rpV (ansF ph q X a D).1 (.slice ao n cap))/\Cx SA TA BA f M w (ansF ph q X a D).2.1 a g (ansF ph q X a D).2.2 Lo w'/\PrO W.heap.size (.slice ao n cap) (ansF ph q X a D).1.prs w'):=fun W hW=>by obtain⟨M9,hM,h8,h7⟩:=hW.sh;refine(ans47 E S ph q wa wc sa sc hM ht hX hph hph2 hq (ws_next hi h8 hW.kp) (SkIn.kept hsi (fun h0 k hk=>(hsn h0 k hk).1) hW.kp) (sk_next hsn h8 hW.kp.size)).mono ?_;rintro e w' ⟨ao,n,cap,rfl,ho,hs⟩;exact⟨ao,n,cap,rfl,hW.next h8 h7 hs,ho⟩
 have OS:Hid (∀(X:Sd) (D:Drm.Dr) W0 W v' L (v0 v1 v2 v3 v4 v5 v6 v7 v8 v9 v10 v11 v12 v13:Value),Cx SA TA BA f M w X a g D Lo W0->PrO W0.heap.size v' L W->PrO w.heap.size v' L (s14 W b1 v0 v1 v2 v3 v4 v5 v6 v7 v8 v9 v10 v11 v12 v13)):=fun X D W0 W v' L v0 v1 v2 v3 v4 v5 v6 v7 v8 v9 v10 v11 v12 v13 h0 ho=>by have hk:Kept (fun k=>k=b1) W (s14 W b1 v0 v1 v2 v3 v4 v5 v6 v7 v8 v9 v10 v11 v12 v13):=kept14;have hlt:b1<W0.heap.size:=lt_of_block (SP.out _ _ _ h0);refine own_kept (own_le ho (by omega)) hk (fun k hk' e=>?_);have:=(World.ownsRow.lt ho k hk').1;omega
 have SN:Hid (∀(X:Sd) (D:Drm.Dr) W,Cx SA TA BA f M w X a g D Lo W->ce W f.sb 7 (uw X.np)/\ce W f.sb 8 (ui X.nl)):=fun X D W hW=>⟨hW.nums.2.2.1,hW.nums.2.2.2.1⟩;have HL:Hid _:=HL0;generalize handF ph q X a D=Y at*;generalize (ansF ph q X a D)=H at*;obtain⟨hr9,Xh,Dh⟩:=H;dsimp only at CA HL;clear hLo h ht hX hph hph2 hq hi hsi hsn E S HL0;obtain⟨W2,hW2⟩:=xj ((w.alloc (.cells (rqC q.k q wa wc sa sc) 32)).alloc (.cells (zC 0 0 0 0) 40));rw[hW2]at H0;have zc0:=SB.out _ _ _ H0.out;go_enter Tryz.func8,Tryz.ntmps8;go_wp2_with fail;rw[<-hb1];clear hW2 hb1;refine(CA.out _ H0.out).mono ?_;rintro e w3 ⟨ao,n,cap,rfl,hq,ho⟩;have H3:Hid _:=hq;have HO3:Hid _:=ho;clear hq ho CA zc0;unfold rpV;have hob4:(w3.alloc (.cells (rpD hr9 ao n cap) 40)).heap[w3.heap.size]?=some (.cells (rpD hr9 ao n cap) 40 (0,0)):=heap_alloc_new w3 _;have B4:Hid (Bz w3 (w3.alloc (.cells (rpD hr9 ao n cap) 40))):=(Below.refl _ _).alloc (Nat.le_refl _) _;go_upto_region 4 with fail
 obtain⟨W4,hW4⟩:=xj (w3.alloc (.cells (rpD hr9 ao n cap) 40));obtain⟨b7,hb7⟩:=xj w3.heap.size;have HB7:Hid (w3.heap.size<=b7):=by rw[hb7];exact Nat.le_refl _
 rw[hW4,hb7]at hob4;rw[hW4]at B4;rw[hW4,hb7];clear hW4 hb7;have H4:Hid _:=ON.out _ _ _ _ H3.out B4.out;obtain⟨n7,n8⟩:=SN.out _ _ _ H4.out;obtain⟨i0,i1,i2,i3,i4,i5,i6,i7,i8,i9,i10,i11,i12,i13,f0,f1,f2,f3,f4,f5,f6,f7,f8,f9,f10,f11,f12,f13⟩:=free14 hob4;have hob5:((W4.setCell ⟨b7,12,none⟩ (uw Xh.np)).setCell ⟨b7,13,none⟩ (ui Xh.nl)).heap[b7]?=some (.cells #[iw hr9.k,iw hr9.err,.bool hr9.found,sd hr9.val,.slice ao n cap,ui hr9.c,ui hr9.n,uw hr9.sp,ui hr9.sl,uw hr9.ap,ui hr9.al,sd hr9.prim,uw Xh.np,ui Xh.nl] 40 (0,0)):=Drm.blk_setCell (Drm.blk_setCell hob4);have B5:Hid (Bz w3 ((W4.setCell ⟨b7,12,none⟩ (uw Xh.np)).setCell ⟨b7,13,none⟩ (ui Xh.nl))):=Bz.st (Bz.st B4.out HB7.out _ _) HB7.out _ _;clear hob4;go_upto_region 5 with fail
 obtain⟨W5,hW5⟩:=xj ((W4.setCell ⟨b7,12,none⟩ (uw Xh.np)).setCell ⟨b7,13,none⟩ (ui Xh.nl));rw[hW5]at hob5 B5|-;clear hW5 i0 i1 i2 i3 i4 i5 i6 i7 i8 i9 i10 i11 i12 i13 f0 f1 f2 f3 f4 f5 f6 f7 f8 f9 f10 f11 f12 f13 n7 n8;have H5:Hid _:=ON.out _ _ _ _ H3.out B5.out;have HO5:Hid (PrO W2.heap.size (.slice ao n cap) hr9.prs W5):=own_on HO3.out B5.out;obtain⟨i0,i1,i2,i3,i4,i5,i6,i7,i8,i9,i10,i11,i12,i13,-⟩:=free14 hob5;clear hob5 H4;have zz0:=free14 (SP.out _ _ _ H5.out);go_wp2_with fail;refine bodyPost_ret (res14 rfl rfl rfl (set14 (SP.out _ _ _ H5.out))) rfl ?_;rw[HL.out];exact⟨_,_,_,rfl,OS.out _ _ _ _ _ _ _ _ _ _ _ _ _ _ _ _ _ _ _ _ H0.out HO5.out,HR.out _ _ _ _ _ _ _ _ _ _ _ _ _ _ _ _ _ H5.out⟩
open Lgs in
theorem cut68_new(pb:Nat)(D:Drm.Dr)(hn:∀i,D.has i=false)(w:World)(hD:Drm.DrumAt pb D w):Calls Tryz.prog 58 #[pz pb,iw (-1)] w fun e w'=>e=.returned (iw 0)/\w=w':=by
 have HH:Hid (∀k:Int,1=1->Calls Tryz.prog 111 #[pz pb,iw k] w fun e w'=>e=.returned (.bool false)/\w=w'):=fun k _=>by have:=Drm.has15 pb D k w hD;rw[hn]at this;exact this
 clear hD hn;go_enter Tryz.func58,Tryz.ntmps58;go_wp2_with fail;go_loopw [7] (fun i wr=>∃k:Nat,k<=4/\i=iw k/\wr=w) (fun i _=>4-(intOf i).toNat)
 case atStart=>exact⟨0,by omega,rfl,rfl⟩
 case round=>
  obtain⟨k,hk,rfl,rfl⟩:=hrel;by_cases hlt:k<4
  ·have hlt':(k:Int)<4:=by omega
   have hne:((k:Int)== -1)=false:=by rw[beq_eq_false_iff_ne];omega
   go_wp2_with fail;refine(HH.out _ (by trivial)).mono ?_;rintro e w' ⟨rfl,rfl⟩;go_wp2_with fail;go_roundw
   case rel=>exact⟨k+1,by omega,by go_num,by trivial⟩
   case measure=>simp[intOf];omega
  ·have hlt':¬(k:Int)<4:=by omega
   go_wp2_with fail;go_ret;exact⟨rfl,rfl⟩
open Lgs in
theorem newest67_new(pb:Nat)(D:Drm.Dr)(hn:∀i,D.has i=false)(w:World)(hD:Drm.DrumAt pb D w):Calls Tryz.prog 57 #[pz pb] w fun e w'=>e=.returned (.tuple #[iw (-1),.agg #[uw 0,sy,iw 0,iw 0],iw 0])/\Below w.heap.size w w':=by
 have HH:Hid (∀(k:Int) (W:World),Below w.heap.size w W->Calls Tryz.prog 111 #[pz pb,iw k] W fun e w'=>e=.returned (.bool false)/\W=w'):=fun k W hb=>by have:=Drm.has15 pb D k W (hD.on hb);rw[hn]at this;exact this
 clear hD hn;go_enter Tryz.func57,Tryz.ntmps57;go_wp2_with fail;obtain⟨rb,hrb⟩:∃rb,rb=w.heap.size:=⟨_,rfl⟩;have HRB:Hid (rb=w.heap.size):=hrb;rw[<-hrb];have hw0:CtIn rb (uw 0) sy (iw 0) (iw 0) ((w.alloc (.cells #[uw 0,sy,iw 0,iw 0] 142)).alloc (.cells #[uw 0,sy,iw 0,iw 0] 142)):=by unfold CtIn;rw[Below.heap_alloc _ _ rb (by rw[hrb];simp),hrb];exact heap_alloc_new w _
 have hw1:CtIn (rb+1) (uw 0) sy (iw 0) (iw 0) ((w.alloc (.cells #[uw 0,sy,iw 0,iw 0] 142)).alloc (.cells #[uw 0,sy,iw 0,iw 0] 142)):=by rw[hrb];exact heap_alloc2_new w _ _
 have hb0:Below rb w ((w.alloc (.cells #[uw 0,sy,iw 0,iw 0] 142)).alloc (.cells #[uw 0,sy,iw 0,iw 0] 142)):=by rw[hrb];exact((Below.refl _ _).alloc (Nat.le_refl _) _).alloc (by simp) _
 generalize (w.alloc (.cells #[uw 0,sy,iw 0,iw 0] 142)).alloc (.cells #[uw 0,sy,iw 0,iw 0] 142)=w0 at hw0 hw1 hb0|-;have H0:Hid (CtIn rb (uw 0) sy (iw 0) (iw 0) w0/\CtIn (rb+1) (uw 0) sy (iw 0) (iw 0) w0/\Below rb w w0):=⟨hw0,hw1,hb0⟩;have HH0:Hid (∀k:Int,1=1->Calls Tryz.prog 111 #[pz pb,iw k] w0 fun e w'=>e=.returned (.bool false)/\w0=w'):=fun k _=>HH.out k w0 (by rw[<-HRB.out];exact H0.out.2.2);clear hw0 hw1 hb0 hrb HH;go_wp2_with fail;go_loopw [5,12] (fun a i wr=>a=iw (-1)/\∃k:Nat,k<=4/\i=iw k/\wr=w0) (fun _ i _=>4-(intOf i).toNat)
 case atStart=>exact⟨rfl,0,by omega,rfl,rfl⟩
 case round=>
  obtain⟨rfl,k,hk,rfl,rfl⟩:=hrel;by_cases hlt:k<4
  ·have hlt':(k:Int)<4:=by omega
   go_wp2_with fail;refine(HH0.out _ (by trivial)).mono ?_;rintro e w' ⟨rfl,rfl⟩;go_wp2_with fail;go_roundw
   case rel=>exact⟨rfl,k+1,by omega,by go_num,by trivial⟩
   case measure=>simp[intOf];omega
  ·have hlt':¬(k:Int)<4:=by omega
   have zf0:=H0.out.2.1.cells;have zr0:=H0.out.1.cells;go_wp2_with fail;go_region;go_wp2_with fail;(try simp only[Exit.inBlock,Exit.then])
   refine bodyPost_ret (results_new (cb:=rb) (w:=(set4 wr rb (uw 0) sy (iw 0) (iw 0)).drew) (set4_ct H0.out.1 (uw 0) sy (iw 0) (iw 0)) rfl) rfl ?_;rw[<-HRB.out];exact⟨rfl,(set4_below H0.out.2.2 (by omega) (uw 0) sy (iw 0) (iw 0)).drew⟩
open Lgs in
theorem open39_new(pb:Nat)(D D':Drm.Dr)(hn:∀i,D.has i=false)(w:World)(hD:Drm.DrumAt pb D w)(hOk:D.Ok)(hy:layF D 0 1 []=(0,D')):Calls Tryz.prog 27 #[pz pb] w fun e w'=>∃lb,e=.returned (.tuple #[pz lb,sy,iw 0])/\LgAt lb pb 0 1 D' w'/\Below pb w w':=by
 have hlt:=hD.lt;have HNw:Hid (1=1->_):=fun _=>newest67_new pb D hn w hD;have HC:Hid (∀W:World,Drm.DrumAt pb D W->_):=fun W h=>cut68_new pb D hn W h;have HLy:Hid (∀W:World,Drm.DrumAt pb D W->Calls Tryz.prog 59 #[pz pb,iw 0,uw 1,sy] W fun e w'=>e=.returned (iw 0)/\Drm.DrumAt pb D' w'/\Drm.Kept pb W w'):=fun W h=>by have:=lay28 pb D 0 1 [] sy W h hOk (by decide) (fun _ h=>by cases h) (by simp) (StrsAt.nil pb W);rw[hy]at this;exact this
 have HD:Hid (Drm.DrumAt pb D w):=hD;clear hD hOk hy hn;go_enter Tryz.func27,Tryz.ntmps27;go_wp2_with fail;refine(HNw.out (by trivial)).mono ?_;rintro e w1 ⟨rfl,hb1⟩;have HB1:Hid (Below w.heap.size w w1):=hb1;have HLT:Hid (pb<w.heap.size):=hlt;clear hb1 hlt HNw;go_upto_region 2 with fail
 have hct:CtIn w1.heap.size (uw 0) sy (iw 0) (iw 0) (w1.alloc (.cells #[uw 0,sy,iw 0,iw 0] 142)):=heap_alloc_new w1 _;have H2:Hid (CtIn w1.heap.size (uw 0) sy (iw 0) (iw 0) (w1.alloc (.cells #[uw 0,sy,iw 0,iw 0] 142))/\Drm.DrumAt pb D (w1.alloc (.cells #[uw 0,sy,iw 0,iw 0] 142))/\Below w.heap.size w (w1.alloc (.cells #[uw 0,sy,iw 0,iw 0] 142))/\w.heap.size<=w1.heap.size):=⟨hct,HD.out.on (HB1.out.alloc HB1.out.size _),HB1.out.alloc HB1.out.size _,HB1.out.size⟩;clear hct;obtain⟨W2,hW2⟩:=xj (w1.alloc (.cells #[uw 0,sy,iw 0,iw 0] 142));obtain⟨cb,hcb⟩:=xj w1.heap.size;rw[hW2,hcb]at H2;rw[hW2,hcb];clear hW2 hcb HB1 HD;have HCP:Hid (cb≠pb):=by have:=H2.out.2.2.2;have:=HLT.out;exact(by omega:cb≠pb)
 have zc0:=H2.out.1.cells;go_wp2_with fail;refine(HC.out _ H2.out.2.1).mono ?_;rintro e w' ⟨rfl,rfl⟩;have hct3:=H2.out.1.set0 (uw 1);have zd0:=hct3.cells;have hD3:Drm.DrumAt pb D (W2.setCell ⟨cb,0,none⟩ (uw 1)):=H2.out.2.1.store H2.out.1 HCP.out (by decide) _ _;have H3:Hid (CtIn cb (uw 1) sy (iw 0) (iw 0) (W2.setCell ⟨cb,0,none⟩ (uw 1))/\Drm.DrumAt pb D (W2.setCell ⟨cb,0,none⟩ (uw 1))/\Below w.heap.size w (W2.setCell ⟨cb,0,none⟩ (uw 1))):=⟨hct3,hD3,H2.out.2.2.1.setCell (p:=⟨cb,0,none⟩) H2.out.2.2.2 _⟩;clear hct3 hD3 HC;go_wp2_with fail;refine(HLy.out _ H3.out.2.1).mono ?_;rintro e w4 ⟨rfl,hD4,k4⟩;have H4:Hid (CtIn cb (uw 1) sy (iw 0) (iw 0) w4/\Drm.DrumAt pb D' w4/\Below pb w w4):=⟨H3.out.1.kept HCP.out k4,hD4,(H3.out.2.2.mono (Nat.le_of_lt HLT.out)).trans k4.below⟩;clear hD4 k4 HLy H2 zc0 zd0;have ze0:=H4.out.1.cells;have eal:(w4.alloc (.cells #[pz pb,iw 0,uw 1] 149)).cell? ⟨cb,1,none⟩=some sy:=(H4.out.1.on ((Below.refl _ _).alloc (Nat.le_refl _) _)).cells.2.1;go_wp2_with fail;go_region;go_wp2_with fail
 go_ret3
 refine⟨w4.heap.size,rfl,⟨heap_alloc_new w4 _,(H4.out.2.1.alloc _).drew,H4.out.2.1.lt⟩,(H4.out.2.2.alloc (Nat.le_of_lt H4.out.2.1.lt) _).drew⟩
end Go.Proofs.YtdplfgcoaddbdaaGreat
