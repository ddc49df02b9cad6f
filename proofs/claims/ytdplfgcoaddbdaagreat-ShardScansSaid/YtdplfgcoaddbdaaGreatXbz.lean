import Derived.Test.YtdplfgcoaddbdaaGreatXby
set_option maxHeartbeats 4000000
set_option maxRecDepth 100000
set_option linter.unusedVariables false
set_option linter.unusedSimpArgs false
namespace Go.Proofs.YtdplfgcoaddbdaaGreat
open Go.RowKit
variable {SA:TyS}{TA:TyT}{BA:TyB}
variable {w:World}
theorem scans4(E:Env SA TA BA)(EP:EnvP SA TA BA){L:List Ac}{ao:Option Addr}{cap:Nat}(h:AcsAt w (.slice ao L.length cap) L)(ph:Int)(hp0:0<=ph)(hp1:ph<=18446744073709551615){q:Rq}{wa sa:Option Addr}{wc sc:Nat}(hq:QIn w q wa wc sa sc):
  Calls Tryz.prog 4 #[.slice ao L.length cap,uw ph,rqV q wa wc sa sc] w fun e w'=>e=.returned (.bool true)/\Below w.heap.size w w':=by
 have CA:Hid (∀W:World,1=1->_):=fun W _=>awake9 E W;have CS:Hid (∀W:World,Below w.heap.size w W->Calls Tryz.prog 6 #[.slice ao L.length cap] W fun e w'=>AnyB e/\Below W.heap.size W w'):=fun W hb=>small6 (h.on hb);have CD:Hid (∀W:World,Below w.heap.size w W->Calls Tryz.prog 7 #[.slice ao L.length cap] W fun e w'=>DnE SA TA BA W e w'):=fun W hb=>done7 E (h.on hb);have HQ:Hid (QIn w q wa wc sa sc):=hq;have HE:Hid (Env SA TA BA):=E;have HEP:Hid (EnvP SA TA BA):=EP;have HP:Hid (0<=ph/\ph<=18446744073709551615):=⟨hp0,hp1⟩;have H0:Hid (Below w.heap.size w (w.alloc (.cells (rqC q.k q wa wc sa sc) 32))/\(w.alloc (.cells (rqC q.k q wa wc sa sc) 32)).heap[w.heap.size]?=some (.cells (rqC q.k q wa wc sa sc) 32 (0,0))):=⟨al _,heap_alloc_new w _⟩;clear E EP h hq hp0 hp1;unfold rqV;go_enter Tryz.func4,Tryz.ntmps4;go_upto_region 1 with fail
 obtain⟨W0,hW0⟩:=xj (w.alloc (.cells (rqC q.k q wa wc sa sc) 32));obtain⟨bq,hbq⟩:=xj w.heap.size;have HBQ:Hid (w.heap.size=bq):=hbq;have H1:Hid (Below w.heap.size w W0/\W0.heap[bq]?=some (.cells (rqC q.k q wa wc sa sc) 32 (0,0))):=by have:=H0.out;rw[hW0]at this;rw[<-HBQ.out];exact this
 (try rw[hW0,hbq])
 clear H0 hW0 hbq;go_wp2_with fail;refine(CA.out _ (by trivial)).mono ?_;rintro e W1 ⟨rfl,hb1⟩;have H2:Hid (Below w.heap.size w W1/\W1.heap[bq]?=some (.cells (rqC q.k q wa wc sa sc) 32 (0,0))):=⟨H1.out.1.trans (hb1.mono H1.out.1.size),kept_obj H1.out.2 (Kept.of_below (F:=fun _=>False) hb1) (fun e=>e)⟩;clear hb1 H1 CA;go_wp2_with fail;refine(CS.out _ H2.out.1).mono ?_;rintro e W2 ⟨⟨r,rfl⟩,hb2⟩;have H3:Hid (Below w.heap.size w W2/\W2.heap[bq]?=some (.cells (rqC q.k q wa wc sa sc) 32 (0,0))):=⟨H2.out.1.trans (hb2.mono H2.out.1.size),kept_obj H2.out.2 (Kept.of_below (F:=fun _=>False) hb2) (fun e=>e)⟩;clear hb2 H2 CS;cases r
 ·go_wp2_with fail;go_ret;exact⟨rfl,H3.out.1⟩
 go_wp2_with fail;refine(CD.out _ H3.out.1).mono ?_;rintro e W3 ⟨f,M,w1,X,D,rfl,HD⟩;have hb3:Below W2.heap.size W2 W3:=HD.out.2.2.trans (HD.out.1.cx.kp.below (B:=W2.heap.size) HD.out.2.2.size HD.out.2.1);have hq3:W3.heap[bq]?=some (.cells (rqC q.k q wa wc sa sc) 32 (0,0)):=kept_obj H3.out.2 (Kept.of_below (F:=fun _=>False) hb3) (fun e=>e);have hlq:bq<W2.heap.size:=lt_of_block H3.out.2;have HM:Hid (∀k,(M k\/k=bq)->w.heap.size<=k):=fun k e=>by
  rcases e with e|e
  ·exact Nat.le_trans H3.out.1.size (HD.out.2.1 k e)
  ·rw[HBQ.out,e];exact Nat.le_refl _
 have HB1:Hid (Below w.heap.size w w1):=H3.out.1.trans (HD.out.2.2.mono H3.out.1.size);have C3:Hid (Cx SA TA BA f (fun k=>M k\/k=bq) w1 X 0 1 D [(bq,.cells (rqC q.k q wa wc sa sc) 32 (0,0))] W3):=(HD.out.1.cx.also (fun hm=>by have:=HD.out.2.1 _ hm;omega) (Nat.lt_of_lt_of_le hlq HD.out.2.2.size) hq3).wide (fun k e=>.inl e);have HX:Hid (Gd X/\X.wt<=800/\Up D):=⟨HD.out.1.g,by have:=HD.out.1.wt;omega,HD.out.1.u⟩;have z0:W3.frozen? ⟨bq,0,none⟩=false:=Drm.blk_free hq3;have z1:W3.frozen? ⟨bq,1,none⟩=false:=Drm.blk_free hq3;have z2:W3.frozen? ⟨bq,2,none⟩=false:=Drm.blk_free hq3;have z9:W3.frozen? ⟨bq,9,none⟩=false:=Drm.blk_free hq3;have z12:W3.frozen? ⟨bq,12,none⟩=false:=Drm.blk_free hq3;have n0:ce W3 bq 0 (iw q.k):=Drm.blk_cell hq3 rfl;have n1:ce W3 bq 1 (ui q.c):=Drm.blk_cell hq3 rfl;have n2:ce W3 bq 2 (ui q.n):=Drm.blk_cell hq3 rfl;have n9:ce W3 bq 9 (iw q.lim):=Drm.blk_cell hq3 rfl;have n12:ce W3 bq 12 (.slice sa q.sk.length sc):=Drm.blk_cell hq3 rfl;have HHq:Hid (W3.heap[bq]?=some (.cells (rqC q.k q wa wc sa sc) 32 (0,0))):=hq3;clear hb3 hlq hq3 HD H3 CD;go_upto_region 7 with fail
 obtain⟨W4,hW4⟩:=xj (putQ bq W3);have C4:Hid (Cx SA TA BA f (fun k=>M k\/k=bq) w1 X 0 1 D [(bq,.cells #[iw 2,ui 99,ui 0,uw q.sp,ui q.sl,uw q.ap,ui q.al,sd q.key,sd q.hi,iw 32,ub q.pt,.slice wa q.ws.length wc,sy] 32 (0,0))] W4):=by rw[<-hW4];exact C3.out.swap HE.out (Sto.noVe_tag HHq.out (fun cs' fz e=>by injection e with _ e _;exact absurd e (by decide))) (.inl (.inr rfl)) (putQ_kept bq W3) (putQ_at HHq.out) (no5_cells (by decide)) (fun p hp=>by cases hp)
 unfold putQ at hW4;rw[hW4];clear hW4 C3 HHq z0 z1 z2 z9 z12 n0 n1 n2 n9 n12;have CH:Hid (1=1->_):=fun _=>ask_scan HE.out C4.out HM.out HB1.out HX.out.1 HX.out.2.1 HX.out.2.2 HP.out.1 HP.out.2 HQ.out;have m0:ce W4 bq 0 (iw 2):=C4.out.has.cell (.head _) rfl;have m1:ce W4 bq 1 (ui 99):=C4.out.has.cell (.head _) rfl;have m2:ce W4 bq 2 (ui 0):=C4.out.has.cell (.head _) rfl;have m3:ce W4 bq 3 (uw q.sp):=C4.out.has.cell (.head _) rfl;have m4:ce W4 bq 4 (ui q.sl):=C4.out.has.cell (.head _) rfl;have m5:ce W4 bq 5 (uw q.ap):=C4.out.has.cell (.head _) rfl;have m6:ce W4 bq 6 (ui q.al):=C4.out.has.cell (.head _) rfl;have m7:ce W4 bq 7 (sd q.key):=C4.out.has.cell (.head _) rfl;have m8:ce W4 bq 8 (sd q.hi):=C4.out.has.cell (.head _) rfl;have m9:ce W4 bq 9 (iw 32):=C4.out.has.cell (.head _) rfl;have m10:ce W4 bq 10 (ub q.pt):=C4.out.has.cell (.head _) rfl;have m11:ce W4 bq 11 (.slice wa q.ws.length wc):=C4.out.has.cell (.head _) rfl;have m12:ce W4 bq 12 sy:=C4.out.has.cell (.head _) rfl;go_wp2_with fail;refine(CH.out (by trivial)).mono ?_;rintro e w5 ⟨z,X1,D1,a5,c5,rfl,h5⟩;have H5:Hid _:=h5.out;clear h5 CH C4 HX m0 m1 m2 m3 m4 m5 m6 m7 m8 m9 m10 m11 m12;unfold rpC;go_upto_region 8 with fail
 obtain⟨W6,hW6⟩:=xj (w5.alloc (.cells #[iw z.k,iw z.err,.bool z.found,sd z.val,.slice a5 z.prs.length c5,ui z.c,ui z.n,uw z.sp,ui z.sl,uw z.ap,ui z.al,sd z.prim,uw z.np,ui z.nl] 40));obtain⟨b6,hb6⟩:=xj w5.heap.size;have H6:Hid (Cx SA TA BA f (fun k=>M k\/k=bq) w1 X1 0 1 D1 [(b6,.cells #[iw z.k,iw z.err,.bool z.found,sd z.val,.slice a5 z.prs.length c5,ui z.c,ui z.n,uw z.sp,ui z.sl,uw z.ap,ui z.al,sd z.prim,uw z.np,ui z.nl] 40 (0,0)),(bq,.cells #[iw 2,ui 99,ui 0,uw q.sp,ui q.sl,uw q.ap,ui q.al,sd q.key,sd q.hi,iw 32,ub q.pt,.slice wa q.ws.length wc,sy] 32 (0,0))] W6/\PrO 0 (.slice a5 z.prs.length c5) z.prs W6):=by rw[<-hW6,<-hb6];exact⟨H5.out.2.1.new HE.out _ 40 (by decide),H5.out.1.on (al _)⟩
 have HBW:Hid (∀X D Lo W,Cx SA TA BA f (fun k=>M k\/k=bq) w1 X 0 1 D Lo W->Below w.heap.size w W):=fun X D Lo W hc=>HB1.out.trans (hc.kp.below (B:=w.heap.size) HB1.out.size HM.out);have HG:Hid (Gd X1/\X1.wt<8900/\Up D1):=H5.out.2.2.1;have HS:Hid (z.k≠0->Sc ph q z X1 D1):=H5.out.2.2.2;(try rw[hW6,hb6])
 clear hW6 hb6 H5;have a0:ce W6 b6 0 (iw z.k):=H6.out.1.has.cell (.head _) rfl;by_cases hk0:z.k=0
 ·rw[hk0]at a0;have HB6:Hid (Below w.heap.size w W6):=HBW.out _ _ _ _ H6.out.1;clear HS;go_wp2_with fail;go_ret;exact⟨rfl,HB6.out⟩
 have hk0':(z.k==0)=false:=by rw[beq_eq_false_iff_ne];exact hk0
 have HSc:Hid (Sc ph q z X1 D1):=HS.out hk0;obtain⟨L0,hL0⟩:=xj (objsOf (.slice a5 z.prs.length c5) W6++[(b6,Obj.cells #[iw z.k,iw z.err,.bool z.found,sd z.val,.slice a5 z.prs.length c5,ui z.c,ui z.n,uw z.sp,ui z.sl,uw z.ap,ui z.al,sd z.prim,uw z.np,ui z.nl] 40 (0,0)),(bq,Obj.cells #[iw 2,ui 99,ui 0,uw q.sp,ui q.sl,uw q.ap,ui q.al,sd q.key,sd q.hi,iw 32,ub q.pt,.slice wa q.ws.length wc,sy] 32 (0,0))]);have H7:Hid ((b6,Obj.cells #[iw z.k,iw z.err,.bool z.found,sd z.val,.slice a5 z.prs.length c5,ui z.c,ui z.n,uw z.sp,ui z.sl,uw z.ap,ui z.al,sd z.prim,uw z.np,ui z.nl] 40 (0,0))∈L0/\(bq,Obj.cells #[iw 2,ui 99,ui 0,uw q.sp,ui q.sl,uw q.ap,ui q.al,sd q.key,sd q.hi,iw 32,ub q.pt,.slice wa q.ws.length wc,sy] 32 (0,0))∈L0):=by show _/\_;rw[<-hL0];exact⟨List.mem_append.2 (.inr (by simp)),List.mem_append.2 (.inr (by simp))⟩
 have H8:Hid (La SA TA BA f (fun k=>M k\/k=bq) w1 X1 D1 L0 (.slice a5 z.prs.length c5) z.prs W6.heap.size [] (W6.alloc (.map #[] 0))):=by obtain⟨c1,c2⟩:=H6.out.1.pairs HEP.out H6.out.2;rw[hL0]at c1;exact La.start HE.out c1 H6.out.2 (fun k hk=>by obtain⟨o,ho⟩:=c2 k hk;exact⟨o,by rw[<-hL0];exact List.mem_append.2 (.inl ho)⟩)
 have hmm:=@run_makeMap Tryz.prog;clear hk0 HS H6 hL0;go_upto_region 11 with fail
 obtain⟨W7,hW7⟩:=xj (W6.alloc (.map #[] 0));obtain⟨mb,hmb⟩:=xj W6.heap.size;rw[hW7,hmb]at H8;(try rw[hW7,hmb])
 clear hW7 hmb hmm a0;have KO:Hid (Srt X1.S/\Lat.TOk X1.T/\(∀x∈X1.S,kOk x.1=true)/\X1.S.length<9000/\X1.T.length<9000):=by obtain⟨o,hc⟩:=H8.out.cx;obtain⟨M',⟨M1,M2,M3,hs,rfl⟩,-⟩:=hc.sh;have:=HG.out.2.1;have l1:=totS_len (HE.out.I.sok hs.s);unfold Sd.wt at this;exact⟨(HE.out.I.sok hs.s).srt,HE.out.J.ok hs.t,HG.out.1.ky,by omega,by omega⟩
 have C11:Hid (∀W m,La SA TA BA f (fun k=>M k\/k=bq) w1 X1 D1 L0 (.slice a5 z.prs.length c5) z.prs mb m W->Calls Tryz.prog 11 #[pz f.sb] W fun e w'=>∃ao cap,e=.returned (.slice ao X1.S.length cap)/\Hid (La SA TA BA f (fun k=>M k\/k=bq) w1 X1 D1 L0 (.slice a5 z.prs.length c5) z.prs mb m w'/\RI (mb+1) X1.S (.slice ao X1.S.length cap) w')):=fun W m h=>by obtain⟨o,hc⟩:=h.cx;obtain⟨M',hs,-⟩:=hc.sh;refine(items11 HE.out hs (by have:=HG.out.2.1;omega)).mono ?_;rintro e w' ⟨v,rfl,h1,h2⟩;obtain⟨Lq,hr⟩:=h1.r;obtain⟨ao,cap,rfl,-⟩:=hr.shape;exact⟨ao,cap,rfl,h.on HE.out h2,h1.le h.at_.lt⟩
 have C12:Hid (∀W m,La SA TA BA f (fun k=>M k\/k=bq) w1 X1 D1 L0 (.slice a5 z.prs.length c5) z.prs mb m W->Calls Tryz.prog 12 #[pz f.sb] W fun e w'=>∃ao cap,e=.returned (.slice ao X1.T.length cap)/\Hid (La SA TA BA f (fun k=>M k\/k=bq) w1 X1 D1 L0 (.slice a5 z.prs.length c5) z.prs mb m w'/\RT (mb+1) X1.T (.slice ao X1.T.length cap) w')):=fun W m h=>by obtain⟨o,hc⟩:=h.cx;obtain⟨M',hs,-⟩:=hc.sh;refine(intents12 HE.out hs (by have:=HG.out.2.1;omega)).mono ?_;rintro e w' ⟨v,rfl,h1,h2⟩;obtain⟨ao,cap,rfl,-⟩:=h1.r.shape;exact⟨ao,cap,rfl,h.on HE.out h2,h1.le h.at_.lt⟩
 go_wp2_with fail;refine(C11.out _ _ H8.out).mono ?_;rintro e W8 ⟨ai,ci,rfl,H9⟩;clear C11 H8;have h64:X1.S.length<9223372036854775808:=by have:=KO.out.2.2.2.1;omega
 go_wp2_with fail;go_loopw [44] (fun i wr=>∃(j:Nat) (m:List (List UInt8)),j<=X1.S.length/\i=iw j/\(∀k,k∈m↔∃x∈X1.S.take j,x.1=k)/\La SA TA BA f (fun k=>M k\/k=bq) w1 X1 D1 L0 (.slice a5 z.prs.length c5) z.prs mb m wr/\RI (mb+1) X1.S (.slice ai X1.S.length ci) wr) (fun i _=>X1.S.length-(intOf i).toNat)
 case atStart=>exact⟨0,[],Nat.zero_le _,rfl,fun k=>by simp,H9.out⟩
 case round=>
  obtain⟨j,m,hj,rfl,hm,hl,hr⟩:=hrel;have HL:Hid (La SA TA BA f (fun k=>M k\/k=bq) w1 X1 D1 L0 (.slice a5 z.prs.length c5) z.prs mb m wr/\RI (mb+1) X1.S (.slice ai X1.S.length ci) wr):=⟨hl,hr⟩;have HMm:Hid (∀k,k∈m↔∃x∈X1.S.take j,x.1=k):=hm;clear hl hm;by_cases hjl:j<X1.S.length
  ·have hjl':(j:Int)<X1.S.length:=by omega
   obtain⟨Lq,hr2⟩:=hr.r;obtain⟨b,off,ca,cc,rfl,e0,e1,-⟩:=hr2.el hjl;have HT:Hid (X1.S.take (j+1)=X1.S.take j++[X1.S.getD j Sto.ds]):=by show _=_;rw[List.take_add_one,List.getElem?_eq_getElem hjl];simp[List.getD,hjl]
   obtain⟨x,hx⟩:=xj (X1.S.getD j Sto.ds);rw[hx]at e0 e1 HT;clear hr hr2 hx C12;go_upto_region 14 with fail
   have H10:Hid (La SA TA BA f (fun k=>M k\/k=bq) w1 X1 D1 L0 (.slice a5 z.prs.length c5) z.prs mb m (wr.alloc (.cells #[sd x.1,.slice ca x.2.length cc] 65))/\RI (mb+1) X1.S (.slice (some ⟨b,off,none⟩) X1.S.length ci) (wr.alloc (.cells #[sd x.1,.slice ca x.2.length cc] 65))):=⟨HL.out.1.on HE.out (al _),HL.out.2.on (al _)⟩;have g0:(wr.alloc (.cells #[sd x.1,.slice ca x.2.length cc] 65)).cell? ⟨wr.heap.size,0,none⟩=some (sd x.1):=Drm.blk_cell (heap_alloc_new wr _) rfl;generalize wr.alloc (.cells #[sd x.1,.slice ca x.2.length cc] 65)=W9 at H10 g0|-;generalize wr.heap.size=b9 at g0|-;obtain⟨w10,hr10,k1,k2,k3⟩:=H10.out.1.ins HE.out x.1;have H11:Hid (La SA TA BA f (fun k=>M k\/k=bq) w1 X1 D1 L0 (.slice a5 z.prs.length c5) z.prs mb (Gs.ins x.1 m) w10/\RI (mb+1) X1.S (.slice (some ⟨b,off,none⟩) X1.S.length ci) w10):=⟨k1,H10.out.2.map1 (Nat.lt_succ_self _) k2 k3⟩;clear k1 k2 k3 H10 HL e0 e1;go_wp2_with fail;go_roundw
   case rel=>exact⟨j+1,_,by omega,by go_num,fun k=>by rw[Gs.ins_mem,HMm.out,HT.out];simp[or_and_right,exists_or,eq_comm,or_comm],H11.out⟩
   case measure=>simp[intOf];omega
  ·have hjl':¬(j:Int)<X1.S.length:=by omega
   have HM1:Hid (∀k,k∈m↔∃x∈X1.S,x.1=k):=fun k=>by rw[HMm.out,List.take_of_length_le (by omega)]
   clear hr HMm;go_wp2_with fail;refine(C12.out _ _ HL.out.1).mono ?_;rintro e W8 ⟨at',ct,rfl,H9⟩;clear C12 HL;have h65:X1.T.length<9223372036854775808:=by have:=KO.out.2.2.2.2;omega
   go_wp2_with fail;go_loopw [55] (fun i wr=>∃(j:Nat) (m:List (List UInt8)),j<=X1.T.length/\i=iw j/\(∀k,k∈m↔(∃x∈X1.S,x.1=k)\/∃x∈X1.T.take j,x.1=k)/\La SA TA BA f (fun k=>M k\/k=bq) w1 X1 D1 L0 (.slice a5 z.prs.length c5) z.prs mb m wr/\RT (mb+1) X1.T (.slice at' X1.T.length ct) wr) (fun i _=>X1.T.length-(intOf i).toNat)
   case atStart=>exact⟨0,m,Nat.zero_le _,rfl,fun k=>by rw[HM1.out];simp,H9.out⟩
   case round=>
    clear H9 hj hjl hjl' HM1;obtain⟨j,m,hj,rfl,hm,hl,hr⟩:=hrel;have HL:Hid (La SA TA BA f (fun k=>M k\/k=bq) w1 X1 D1 L0 (.slice a5 z.prs.length c5) z.prs mb m wr/\RT (mb+1) X1.T (.slice at' X1.T.length ct) wr):=⟨hl,hr⟩;have HMm:Hid (∀k,k∈m↔(∃x∈X1.S,x.1=k)\/∃x∈X1.T.take j,x.1=k):=hm;clear hl hm;by_cases hjl:j<X1.T.length
    ·have hjl':(j:Int)<X1.T.length:=by omega
     obtain⟨b,off,rfl,hin⟩:=hr.r.el hjl;have HT:Hid (X1.T.take (j+1)=X1.T.take j++[X1.T.getD j Lat.di]):=by show _=_;rw[List.take_add_one,List.getElem?_eq_getElem hjl];simp[List.getD,hjl]
     obtain⟨x,hx⟩:=xj (X1.T.getD j Lat.di);rw[hx]at hin HT;obtain⟨e0,e1,e2,e3,e4,e5,e6,e7,e8,e9⟩:=hin;clear hr hx;go_upto_region 19 with fail
     have H10:Hid (La SA TA BA f (fun k=>M k\/k=bq) w1 X1 D1 L0 (.slice a5 z.prs.length c5) z.prs mb m (wr.alloc (.cells (inC x.1 x.2) 69))/\RT (mb+1) X1.T (.slice (some ⟨b,off,none⟩) X1.T.length ct) (wr.alloc (.cells (inC x.1 x.2) 69))):=⟨HL.out.1.on HE.out (al _),HL.out.2.on (al _)⟩;have g0:(wr.alloc (.cells (inC x.1 x.2) 69)).cell? ⟨wr.heap.size,7,none⟩=some (sd x.1):=Drm.blk_cell (heap_alloc_new wr _) rfl;generalize wr.alloc (.cells (inC x.1 x.2) 69)=W9 at H10 g0|-;generalize wr.heap.size=b9 at g0|-;obtain⟨w10,hr10,k1,k2,k3⟩:=H10.out.1.ins HE.out x.1;have H11:Hid (La SA TA BA f (fun k=>M k\/k=bq) w1 X1 D1 L0 (.slice a5 z.prs.length c5) z.prs mb (Gs.ins x.1 m) w10/\RT (mb+1) X1.T (.slice (some ⟨b,off,none⟩) X1.T.length ct) w10):=⟨k1,H10.out.2.map1 (Nat.lt_succ_self _) k2 k3⟩;clear k1 k2 k3 H10 HL e0 e1 e2 e3 e4 e5 e6 e7 e8 e9;go_wp2_with fail;go_roundw
     case rel=>exact⟨j+1,_,by omega,by go_num,fun k=>by rw[Gs.ins_mem,HMm.out,HT.out,or_left_comm];simp[or_and_right,exists_or,eq_comm,or_comm],H11.out⟩
     case measure=>simp[intOf];omega
    ·have hjl':¬(j:Int)<X1.T.length:=by omega
     have HMA:Hid (∀k,k∈m↔(∃x∈X1.S,x.1=k)\/∃x∈X1.T,x.1=k):=fun k=>by rw[HMm.out,List.take_of_length_le (by omega)]
     have HKm:Hid (∀k∈m,kOk k=true):=fun k hk=>by
      rcases(HMA.out k).1 hk with⟨x,hx,rfl⟩|⟨x,hx,rfl⟩
      ·exact KO.out.2.2.1 x hx
      ·exact KO.out.2.1.keys x hx
     have HNm:Hid (m.Nodup/\m.length<18000):=by
      refine⟨HL.out.1.nd,?_⟩;have h1:m.Perm (m.filter (fun k=>decide (k∈X1.S.map (·.1)))++m.filter (fun k=> !decide (k∈X1.S.map (·.1)))):=(List.filter_append_perm _ m).symm;have h2:(m.filter (fun k=>decide (k∈X1.S.map (·.1)))).length<=(X1.S.map (·.1)).length:=nodup_len (HL.out.1.nd.filter _) (fun k hk=>by simpa using(List.mem_filter.1 hk).2);have h3:(m.filter (fun k=> !decide (k∈X1.S.map (·.1)))).length<=(X1.T.map (·.1)).length:=nodup_len (HL.out.1.nd.filter _) (fun k hk=>by
       obtain⟨e1,e2⟩:=List.mem_filter.1 hk;rcases(HMA.out k).1 e1 with⟨x,hx,rfl⟩|⟨x,hx,rfl⟩
       ·have e3:(!decide (x.1∈X1.S.map (·.1)))=true:=e2;rw[decide_eq_true (List.mem_map.2 ⟨x,hx,rfl⟩)]at e3;cases e3
       ·exact List.mem_map.2 ⟨x,hx,rfl⟩)
      have h4:=h1.length_eq;rw[List.length_append]at h4;rw[List.length_map]at h2 h3;have:=KO.out.2.2.2;omega
     obtain⟨w9,hr9,hb9⟩:=Lb.start HE.out HL.out.1;have H9:Hid _:=hb9;obtain⟨r,hr⟩:=xj wr.heap.size;rw[hr]at H9 hr9;clear hb9 HL HMm hjl;go_wp2_with fail;clear hr9 hr hjl' hj;go_loopw [14,15] (fun s14 s15 wq=>∃left done,(done++left).Perm m/\s14=iw ((done.filter fun k=>inR q.key q.hi k&& !lkB q X1.T k&&(seK q X1.S k).isSome).length:Nat)/\s15=.bool (done.any fun k=>inR q.key q.hi k&&lkB q X1.T k)/\Lb SA TA BA f (fun k=>M k\/k=bq) w1 X1 D1 L0 (.slice a5 z.prs.length c5) z.prs mb r m left [] wq) (fun _ _ wq=>wq.rangeLeft mb r)
     case atStart=>exact⟨m,[],List.Perm.refl _,rfl,rfl,H9.out⟩
     case round=>
      clear H9;obtain⟨left,dn,hpm,rfl,rfl,hlb⟩:=hrel;have HPm:Hid ((dn++left).Perm m):=hpm;have HLb:Hid (Lb SA TA BA f (fun k=>M k\/k=bq) w1 X1 D1 L0 (.slice a5 z.prs.length c5) z.prs mb r m left [] wr):=hlb;have HML:Hid (wr.rangeLeft mb r=left.length):=hlb.rg.left_eq;clear hpm;rcases hlb.next HE.out 0 with⟨rfl,hn⟩|⟨L1,x,L2,w9,rfl,hn,hl9,hen⟩
      ·have hnx:∀ty,(Instr.next (pz r) false ty).run Tryz.prog wr=.ok (.tuple #[.bool false]) wr:=fun _=>hn;have HBw:Hid (Below w.heap.size w wr):=by obtain⟨o,i,hc⟩:=HLb.out.cx;exact HBW.out _ _ _ _ hc
       have c0:ce wr b6 0 (iw z.k):=HLb.out.cell (.inr H7.out.1) rfl;have c4:ce wr b6 4 (.slice a5 z.prs.length c5):=HLb.out.cell (.inr H7.out.1) rfl;have hpm:dn.Perm m:=by have:=HPm.out;rwa [List.append_nil]at this
       have hany:(dn.any fun k=>inR q.key q.hi k&&lkB q X1.T k)=(lkF q X1.T q.key q.hi).isSome:=by rw[hpm.any_eq];exact lk_any fun x hx=>(HMA.out _).2 (.inr ⟨x,hx,rfl⟩)
       have zk:=HSc.out.k;have zp:=HSc.out.p;cases hlk:(lkF q X1.T q.key q.hi).isSome with
       |true=>
        rw[hlk]at hany zk;rw[hany];rw[if_pos rfl]at zk;rw[zk]at c0;clear hlb hn HLb HML HPm hpm hany zk zp hlk hk0' c4;generalize List.length (List.filter _ dn)=nn;go_wp2_with fail;go_ret;exact⟨rfl,HBw.out⟩
       |false=>
        have hcnt:(dn.filter fun k=>inR q.key q.hi k&& !lkB q X1.T k&&(seK q X1.S k).isSome).length=(m.filter fun k=>inR q.key q.hi k&&(seK q X1.S k).isSome).length:=by rw[(hpm.filter _).length_eq];congr 1;refine List.filter_congr fun k hk=>?_;rw[hlk]at hany;rw[hpm.any_eq]at hany;have:=List.any_eq_false.1 hany k hk;cases h1:inR q.key q.hi k<;>cases h2:lkB q X1.T k<;>simp[h1,h2]at this|-
        have hlen:=sc_len (q:=q) KO.out.1 (lo:=q.key) (hi:=q.hi) HNm.out.1 (fun x hx=>(HMA.out _).2 (.inl ⟨x,hx,rfl⟩));rw[hlk]at hany zk zp;rw[hany];rw[if_neg (by simp)]at zk zp;rw[<-zp,<-hcnt]at hlen;rw[zk]at c0;rw[hlen]at c4;clear hlb hn HLb HML HPm hpm hany zk zp hlk hk0' hlen hcnt;generalize List.length (List.filter _ dn)=nn at c4|-;have HMn:Hid ((((min nn 32:Nat):Int)==min (nn:Int) 32)=true):=by show _=_;rw[beq_iff_eq];omega
        go_wp2_with fail;go_ret;exact⟨by show Ending.returned (Value.bool (((min nn 32:Nat):Int)==min (nn:Int) 32))=_;rw[HMn.out],HBw.out⟩
      ·have hnx:∀ty,(Instr.next (pz r) false ty).run Tryz.prog wr=.ok (.tuple #[.bool true,sd x,.bool true]) w9:=fun _=>hn;have hent:(Instr.entry (pz r)).run Tryz.prog w9=.ok (.tuple #[sd x,.bool true]) w9:=hen;have H9:Hid (Lb SA TA BA f (fun k=>M k\/k=bq) w1 X1 D1 L0 (.slice a5 z.prs.length c5) z.prs mb r m (L1++L2) [] w9):=hl9;have HM9:Hid (w9.rangeLeft mb r<wr.rangeLeft mb r):=by show _<_;rw[HML.out,hl9.rg.left_eq];simp
       have HML:Hid (wr.rangeLeft mb r=L1.length+L2.length+1):=by show _=_;rw[HML.out];simp[Nat.add_assoc]
       clear hlb hn hen hl9 HLb;have e7:ce w9 bq 7 (sd q.key):=H9.out.cell (.inr H7.out.2) rfl;have e8:ce w9 bq 8 (sd q.hi):=H9.out.cell (.inr H7.out.2) rfl;go_upto_region 25 with fail
       go_cut [84] (fun s wc=>s=.bool (!inR q.key q.hi x)/\w9=wc)
       case first=>
        have t1:Op.bytesLess (bs x).toList (bs q.key).toList=ltK x q.key:=by rw[bs_list,bs_list];rfl
        have t2:Op.bytesLess (bs x).toList (bs q.hi).toList=ltK x q.hi:=by rw[bs_list,bs_list];rfl
        have t3:(bs q.hi).toList=q.hi:=bs_list _;cases h1:ltK x q.key with
        |true=>
         have hi:inR q.key q.hi x=false:=by unfold inR;rw[h1];rfl
         rw[h1]at t1;clear t2 t3;go_wp2_with fail;go_meet;exact⟨by rw[hi];rfl,rfl⟩
        |false=>
         rw[h1]at t1;by_cases h3:q.hi=[]
         ·have hi:inR q.key q.hi x=true:=by unfold inR;rw[h1,h3];rfl
          rw[h3]at t3;clear t2;go_wp2_with fail;go_meet;exact⟨by rw[hi];rfl,rfl⟩
         ·have t4:¬(bs q.hi).toList=[]:=by rw[t3];exact h3
          have hi:inR q.key q.hi x=ltK x q.hi:=by unfold inR;rw[h1,show q.hi.isEmpty=false from by simp[h3]];simp
          have t6:(bs q.hi).toList.isEmpty=false:=by rw[t3];simp[h3]
          clear t3;cases h2:ltK x q.hi<;>rw[h2]at t2 hi
          all_goals
           go_wp2_with fail;go_meet;exact⟨by rw[hi];first|rfl|(rw[t6];rfl),rfl⟩
       case rest=>
        obtain⟨rfl,rfl⟩:=hcut;have HP2:Hid (((dn++[x])++(L1++L2)).Perm m):=by show List.Perm _ _;rw[List.append_assoc];exact((List.perm_middle (a:=x) (l₁:=L1) (l₂:=L2)).symm.append_left dn).trans HPm.out
        have HXm:Hid (x∈m):=HPm.out.mem_iff.1 (by simp);have HDn:Hid ((dn.filter fun k=>inR q.key q.hi k&& !lkB q X1.T k&&(seK q X1.S k).isSome).length<18000):=by have h1:=(List.length_filter_le (fun k=>inR q.key q.hi k&& !lkB q X1.T k&&(seK q X1.S k).isSome) dn);have h2:=HPm.out.length_eq;have h3:=HNm.out.2;rw[List.length_append]at h2;show _<_;omega
        clear e7 e8 HPm;cases hin:inR q.key q.hi x with
        |false=>
         go_wp2_with fail;go_roundw
         case rel=>exact⟨L1++L2,dn++[x],HP2.out,by rw[List.filter_append];simp[hin],by rw[List.any_append];simp[hin],H9.out⟩
         case measure=>exact HM9.out
        |true=>
         have CQ:Hid (1=1->_):=fun _=>H9.out.ask HE.out HM.out HB1.out HG.out.1 HG.out.2.1 HG.out.2.2 HP.out.1 HP.out.2 HQ.out.ok HSc.out (HKm.out x HXm.out);have e1:ce w9 bq 1 (ui 99):=H9.out.cell (.inr H7.out.2) rfl;have e2:ce w9 bq 2 (ui 0):=H9.out.cell (.inr H7.out.2) rfl;have e3:ce w9 bq 3 (uw q.sp):=H9.out.cell (.inr H7.out.2) rfl;have e4:ce w9 bq 4 (ui q.sl):=H9.out.cell (.inr H7.out.2) rfl;go_wp2_with fail;refine(CQ.out (by trivial)).mono ?_;rintro e w10 ⟨g,ag,ng,cg,rfl,h10⟩;have HRl:Hid (wr.rangeLeft mb r=L1.length+L2.length+1):=HML.out;have H10:Hid _:=h10.out;clear h10 CQ e1 e2 e3 e4 H9 HM9;unfold rpC;go_upto_region 27 with fail
         obtain⟨Wb,hWb⟩:=xj (w10.alloc (.cells (rpD g ag ng cg) 40));obtain⟨bg,hbg⟩:=xj w10.heap.size;have H11:Hid (Lb SA TA BA f (fun k=>M k\/k=bq) w1 X1 D1 L0 (.slice a5 z.prs.length c5) z.prs mb r m (L1++L2) [(bg,.cells (rpD g ag ng cg) 40 (0,0))] Wb):=by rw[<-hWb,<-hbg];exact H10.out.1.new HE.out _ 40 (by decide)
         have HRk:Hid (g.k=(if lkB q X1.T x then 3 else 1)/\(lkB q X1.T x=false->g.found=(seK q X1.S x).isSome/\g.val=(seK q X1.S x).getD [])):=H10.out.2;(try rw[hWb,hbg])
         clear hWb hbg H10;have d0:ce Wb bg 0 (iw g.k):=H11.out.cell (.inl (.head _)) rfl;have HMs:Hid (∀wq Lo,Lb SA TA BA f (fun k=>M k\/k=bq) w1 X1 D1 L0 (.slice a5 z.prs.length c5) z.prs mb r m (L1++L2) Lo wq->wq.rangeLeft mb r<wr.rangeLeft mb r):=fun wq Lo h=>by rw[h.rg.left_eq,HRl.out,List.length_append];omega
         cases hlk:lkB q X1.T x with
         |true=>
          have hk3:g.k=3:=by rw[HRk.out.1,hlk];rfl
          rw[hk3]at d0;go_wp2_with fail;go_roundw
          case rel=>exact⟨L1++L2,dn++[x],HP2.out,by rw[List.filter_append];simp[hlk],by rw[List.any_append];simp[hin,hlk],H11.out.less (fun p hp=>by cases hp)⟩
          case measure=>exact HMs.out _ _ H11.out
         |false=>
          have hk1:g.k=1:=by rw[HRk.out.1,hlk];rfl
          obtain⟨hfd,hvl⟩:=HRk.out.2 hlk;have d2:ce Wb bg 2 (.bool g.found):=H11.out.cell (.inl (.head _)) rfl;rw[hk1]at d0;cases hse:seK q X1.S x with
          |none=>
           rw[hse]at hfd;rw[hfd]at d2;clear hvl;go_wp2_with fail;go_roundw
           case rel=>exact⟨L1++L2,dn++[x],HP2.out,by rw[List.filter_append];simp[hse],by rw[List.any_append];simp[hlk],H11.out.less (fun p hp=>by cases hp)⟩
           case measure=>exact HMs.out _ _ H11.out
          |some v=>
           rw[hse]at hfd hvl;rw[hfd]at d2;have HVl:Hid (g.val=v):=hvl;have HCn:Hid (((dn++[x]).filter fun k=>inR q.key q.hi k&& !lkB q X1.T k&&(seK q X1.S k).isSome).length=(dn.filter fun k=>inR q.key q.hi k&& !lkB q X1.T k&&(seK q X1.S k).isSome).length+1):=by show _=_;rw[List.filter_append];simp[hin,hlk,hse]
           have HAn:Hid (((dn++[x]).any fun k=>inR q.key q.hi k&&lkB q X1.T k)=(dn.any fun k=>inR q.key q.hi k&&lkB q X1.T k)):=by show _=_;rw[List.any_append];simp[hlk]
           have HSe:Hid (seK q X1.S x=some v/\inR q.key q.hi x=true):=⟨hse,hin⟩;clear hfd hvl hlk hse hin HRk hk1;generalize List.length (List.filter _ dn)=nn at HDn HCn|-;generalize List.any dn _=aa at HAn|-;have c4:ce Wb b6 4 (.slice a5 z.prs.length c5):=H11.out.cell (.inr H7.out.1) rfl;have hn1:(nn:Int)<18000:=by have:=HDn.out;omega
           go_upto_region 33 with fail
           obtain⟨i0,hi0⟩:=xj (decide (z.prs.length=32)&&ltK (z.prs.getD 31 ([],[])).1 x);have HI0:Hid ((decide (z.prs.length=32)&&ltK (z.prs.getD 31 ([],[])).1 x)=i0):=hi0;clear hi0;go_cut [18] (fun s wc=>s=.bool i0/\Wb=wc)
           case first=>
            by_cases h32:z.prs.length=32
            ·obtain⟨pb,rfl,p0,-⟩:=H11.out.pr.el (i:=31) (by omega);obtain⟨pk,hpk⟩:=xj (z.prs.getD 31 ([],[])).1;have HG0:Hid ((!Op.bytesLess (bs x).toList (bs pk).toList&& !((bs x).toList==(bs pk).toList))=i0):=by show _=_;rw[gtr_lt,<-HI0.out,hpk,h32];rfl
             rw[hpk]at p0;clear hpk;have h32':((z.prs.length:Int)==32)=true:=by rw[h32];rfl
             have h33:(31:Int)<z.prs.length:=by omega
             clear HI0;go_wp2_with fail;go_meet;exact⟨by rw[<-HG0.out],rfl⟩
            ·have h32':((z.prs.length:Int)==32)=false:=by rw[beq_eq_false_iff_ne];omega
             have HI1:Hid (i0=false):=by show _=_;rw[<-HI0.out];simp[h32]
             clear HI0;go_wp2_with fail;go_meet;exact⟨by rw[HI1.out],rfl⟩
           case rest=>
            obtain⟨rfl,rfl⟩:=hcut;have h66:z.prs.length<9223372036854775808:=by
             rcases H11.out.pr.2 with⟨-,e⟩|⟨g1,cap1,cur1,-,-,-,e1,e2,-⟩
             ·omega
             ·have:cap1<=9223372036854775807:=e2;omega
            go_wp2_with fail;go_loopw [18,123] (fun s18 i wq=>∃j:Nat,j<=z.prs.length/\i=iw j/\s18=.bool (i0||(z.prs.take j).any fun p=>p.1==x&&p.2==g.val)/\Lb SA TA BA f (fun k=>M k\/k=bq) w1 X1 D1 L0 (.slice a5 z.prs.length c5) z.prs mb r m (L1++L2) [(bg,.cells (rpD g ag ng cg) 40 (0,0))] wq) (fun _ i _=>z.prs.length-(intOf i).toNat)
            case atStart=>exact⟨0,Nat.zero_le _,rfl,by simp,H11.out⟩
            case round=>
             clear H11;obtain⟨j,hj,rfl,rfl,hl⟩:=hrel;have HLc:Hid (Lb SA TA BA f (fun k=>M k\/k=bq) w1 X1 D1 L0 (.slice a5 z.prs.length c5) z.prs mb r m (L1++L2) [(bg,.cells (rpD g ag ng cg) 40 (0,0))] wr):=hl;by_cases hjl:j<z.prs.length
             ·have hjl':(j:Int)<z.prs.length:=by omega
              obtain⟨pb,rfl,p0,p1⟩:=hl.pr.el hjl;have HT:Hid (z.prs.take (j+1)=z.prs.take j++[z.prs.getD j ([],[])]):=by show _=_;rw[List.take_add_one,List.getElem?_eq_getElem hjl];simp[List.getD,hjl]
              obtain⟨y,hy⟩:=xj (z.prs.getD j ([],[]));rw[hy]at p0 p1 HT;have HV:Hid ((i0||(z.prs.take (j+1)).any fun p=>p.1==x&&p.2==g.val)=((i0||(z.prs.take j).any fun p=>p.1==x&&p.2==g.val)||(y.1==x&&y.2==g.val))):=by show _=_;rw[HT.out,List.any_append];simp[Bool.or_assoc]
              obtain⟨ib,hib⟩:=xj (i0||(z.prs.take j).any fun p=>p.1==x&&p.2==g.val);rw[hib]at HV;rw[hib];clear hib hl hy HT;go_upto_region 37 with fail
              have H12:Hid (Lb SA TA BA f (fun k=>M k\/k=bq) w1 X1 D1 L0 (.slice (some ⟨pb,0,none⟩) z.prs.length c5) z.prs mb r m (L1++L2) [(bg,.cells (rpD g ag ng cg) 40 (0,0))] (wr.alloc (.cells #[sd y.1,sd y.2] 71))):=HLc.out.on HE.out (al _);have b0:(wr.alloc (.cells #[sd y.1,sd y.2] 71)).cell? ⟨wr.heap.size,0,none⟩=some (sd y.1):=Drm.blk_cell (heap_alloc_new wr _) rfl;have b1:(wr.alloc (.cells #[sd y.1,sd y.2] 71)).cell? ⟨wr.heap.size,1,none⟩=some (sd y.2):=Drm.blk_cell (heap_alloc_new wr _) rfl;generalize wr.alloc (.cells #[sd y.1,sd y.2] 71)=We at H12 b0 b1|-;generalize wr.heap.size=be at b0 b1|-;have d3:ce We bg 3 (sd g.val):=H12.out.cell (.inl (.head _)) rfl;have q1:=bs_beq y.1 x;have q2:=bs_beq y.2 g.val;clear p0 p1 HLc;cases ib
              ·cases h1:y.1==x
               ·rw[h1]at q1 HV;clear q2;go_wp2_with fail;go_roundw
                case rel=>exact⟨j+1,by omega,by go_num,by rw[HV.out];rfl,H12.out⟩
                case measure=>simp[intOf];omega
               ·rw[h1]at q1 HV;cases h2:y.2==g.val<;>rw[h2]at q2 HV
                all_goals
                 go_wp2_with fail;go_roundw
                 case rel=>exact⟨j+1,by omega,by go_num,by rw[HV.out];rfl,H12.out⟩
                 case measure=>simp[intOf];omega
              ·clear q1 q2;go_wp2_with fail;go_roundw
               case rel=>exact⟨j+1,by omega,by go_num,by rw[HV.out];rfl,H12.out⟩
               case measure=>simp[intOf];omega
             ·have hjl':¬(j:Int)<z.prs.length:=by omega
              have c0:ce wr b6 0 (iw z.k):=HLc.out.cell (.inr H7.out.1) rfl;rw[List.take_of_length_le (by omega)];have zk:=HSc.out.k;have zp:=HSc.out.p;have HHs:Hid ((lkF q X1.T q.key q.hi).isSome=false->(i0||z.prs.any fun p=>p.1==x&&p.2==g.val)=true):=fun hlk=>by
               rw[hlk,if_neg (by simp)]at zp;rcases sc_sees (q:=q) KO.out.1 HSe.out.2 HSe.out.1 with h1|⟨h1,h2⟩
               ·rw[<-zp]at h1;rw[List.any_eq_true.2 ⟨_,h1,by simp[HVl.out]⟩];simp
               ·rw[<-zp]at h1 h2;rw[<-HI0.out,h1,h2];rfl
              obtain⟨ib,hib⟩:=xj (i0||z.prs.any fun p=>p.1==x&&p.2==g.val);rw[hib]at HHs;rw[hib];clear zp hib hl;cases hlk:(lkF q X1.T q.key q.hi).isSome with
              |true=>
               rw[hlk,if_pos rfl]at zk;rw[zk]at c0;clear HHs zk;go_wp2_with fail;go_roundw
               case rel=>exact⟨L1++L2,dn++[x],HP2.out,by rw[HCn.out];go_num,by rw[HAn.out],HLc.out.less (fun p hp=>by cases hp)⟩
               case measure=>exact HMs.out _ _ HLc.out
              |false=>
               rw[hlk,if_neg (by simp)]at zk;rw[zk]at c0;rw[HHs.out hlk];clear HHs zk;go_wp2_with fail;go_roundw
               case rel=>exact⟨L1++L2,dn++[x],HP2.out,by rw[HCn.out];go_num,by rw[HAn.out],HLc.out.less (fun p hp=>by cases hp)⟩
               case measure=>exact HMs.out _ _ HLc.out
theorem envP:EnvP Sto.SoAt Lat.TabAt Ver.BoAt where
 pS:=by
  rintro B p M S w ⟨q,t,h,rfl⟩ k hk;rcases hk with e|e|e
  ·subst e;exact tag_p h.box (by decide)
  ·subst e;exact tag_p h.mc.mp.box (by decide)
  ·obtain⟨cs,h1⟩:=sto_tag h.mc.mp.ok k e;exact tag_p h1 (by decide)
 pT:=by
  rintro B p M T w ⟨pm,hb,t,m,h,_,rfl⟩ k hk;rcases hk with e|e|(e|e)|⟨x,hx,e⟩
  ·subst e;exact tag_p h.box (by decide)
  ·subst e;obtain⟨es,cl,h1,_⟩:=h.gm;exact map_p h1
  ·subst e;exact tag_p h.map.box (by decide)
  ·obtain⟨cs,h1⟩:=lat_tag h.map.ok k e;exact tag_p h1 (by decide)
  ·obtain⟨cs,h1⟩:=(h.rows x hx).tg k e;exact tag_p h1 (by decide)
 pV:=by
  rintro B p M K w ⟨hb,m,h,hM⟩ k hk;rcases(hM k).1 hk with e|e
  ·subst e;exact tag_p h.box (by decide)
  ·subst e;obtain⟨es,cl,h1,_⟩:=h.map;exact map_p h1
end Go.Proofs.YtdplfgcoaddbdaaGreat
