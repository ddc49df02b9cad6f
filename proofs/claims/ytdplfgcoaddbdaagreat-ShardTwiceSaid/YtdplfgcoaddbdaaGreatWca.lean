import Derived.ProofKit
import Derived.OpenShut
import Derived.Lib.SmallJoins
import Derived.SizedLaws
import Derived.ShutString
import Derived.Deep.Strs
import Derived.Test.YtdplfgcoaddbdaaGreatWby
import Derived.Test.YtdplfgcoaddbdaaGreatWbz
set_option maxHeartbeats 4000000
set_option maxRecDepth 100000
set_option linter.unusedVariables false
set_option linter.unusedSimpArgs false
namespace Go.Proofs.YtdplfgcoaddbdaaGreat
open Go.RowKit
variable {SA:TyS}{TA:TyT}{BA:TyB}
variable {f:Fp}{M:Nat->Prop}{X:Sd}{a:Int}{g:Nat}{D:Drm.Dr}{w w1 W W':World}{Lo:List (Nat×Obj)}
theorem QIn.on{q:Rq}{wa sa:Option Addr}{wc sc:Nat}(h:QIn w q wa wc sa sc)(hb:Below w.heap.size w W):QIn W q wa wc sa sc:=⟨h.ok,(RwAt.on h.ws hb).le hb.size,(RwAt.on h.sk hb).le hb.size⟩
theorem AcsAt.on{v:Value}{L:List Ac}(h:AcsAt w v L)(hb:Below w.heap.size w W):AcsAt W v L:=⟨(RwAt.on h.1 hb).le hb.size,fun x hx=>⟨(h.2 x hx).q.on hb,(h.2 x hx).ph⟩⟩
theorem eql28(p l:Int)(w:World):(binOp .eql 28 (.agg #[uw p,ui l]) (.agg #[uw p,ui l])).run Tryz.prog w=.ok (.bool true) w:=by simp[go_sem]
theorem eql26(p l:Int)(w:World):(binOp .eql 26 (.agg #[ui p,ui l]) (.agg #[ui p,ui l])).run Tryz.prog w=.ok (.bool true) w:=by simp[go_sem]
structure Fr(SA:TyS)(TA:TyT)(BA:TyB)(f:Fp)(M:Nat->Prop)(w1:World)(X:Sd)(D:Drm.Dr)(Lo:List (Nat×Obj))(n b:Nat)(Y:Sd)(vi vt vk:Value)(W:World):Prop where
 cx:Cx SA TA BA f M w1 X 0 1 D Lo W
 hw:Hw n Y b vi vt vk Lo W
theorem Fr.on(E:Env SA TA BA){n b:Nat}{Y:Sd}{vi vt vk:Value}(h:Fr SA TA BA f M w1 X D Lo n b Y vi vt vk W)(hb:Below W.heap.size W W'):Fr SA TA BA f M w1 X D Lo n b Y vi vt vk W':=⟨h.cx.on E hb,h.hw.on hb⟩
theorem Fr.new(E:Env SA TA BA){n b:Nat}{Y:Sd}{vi vt vk:Value}(h:Fr SA TA BA f M w1 X D Lo n b Y vi vt vk W)(cs:Array Value)(ty:TypeId)(ht:ty≠5):Fr SA TA BA f M w1 X D ((W.heap.size,.cells cs ty (0,0))::Lo) n b Y vi vt vk (W.alloc (.cells cs ty (0,0))):=⟨h.cx.new E cs ty ht,(h.hw.on (al _)).sub fun p hp=>List.mem_cons_of_mem _ hp⟩
def rpC(r:Rp)(ao:Option Addr)(n cap:Nat):Array Value:=#[iw r.k,iw r.err,.bool r.found,sd r.val,.slice ao n cap,ui r.c,ui r.n,uw r.sp,ui r.sl,uw r.ap,ui r.al,sd r.prim,uw r.np,ui r.nl]
theorem hand_twice(E:Env SA TA BA){ph:Int}{q:Rq}(hC:Cx SA TA BA f M w1 X a g D Lo W)(G:Gd X)(u:Up D)(h0:0<=ph)(hq:RqOk q)(hk:q.k≠1/\q.k≠2)(hn:(handF ph q X a D).1.k≠0):
  Tw (handF ph q X a D) (handF ph q (handF ph q X a D).2.1 a (handF ph q X a D).2.2):=by
 obtain⟨M',hS,-⟩:=hC.sh;obtain⟨M1,M2,M3,h,rfl⟩:=hS;have hT:=E.J.ok h.t;have lv:=ans_lv (f:=ph) (a:=a) hq hT (E.I.sok h.s) G u h0;have t:=ans_twice (f:=ph) (a:=a) (D:=D) hq hk hT.srt G h0 (fun _ _=>lv.u.2) hn;exact⟨t.k,t.ap,t.al,t.c,t.n,t.s⟩
theorem twice3(E:Env SA TA BA){L:List Ac}{ao:Option Addr}{cap:Nat}(h:AcsAt w (.slice ao L.length cap) L)(ph:Int)(hp0:0<=ph)(hp1:ph<=18446744073709551615){q:Rq}{wa sa:Option Addr}{wc sc:Nat}(hq:QIn w q wa wc sa sc):
  Calls Tryz.prog 3 #[.slice ao L.length cap,uw ph,rqV q wa wc sa sc] w fun e w'=>e=.returned (.bool true)/\Below w.heap.size w w':=by
 have CA:Hid (∀W:World,1=1->_):=fun W _=>awake9 E W;have CS:Hid (∀W:World,Below w.heap.size w W->Calls Tryz.prog 6 #[.slice ao L.length cap] W fun e w'=>AnyB e/\Below W.heap.size W w'):=fun W hb=>small6 (h.on hb);have CD:Hid (∀W:World,Below w.heap.size w W->Calls Tryz.prog 7 #[.slice ao L.length cap] W fun e w'=>DnE SA TA BA W e w'):=fun W hb=>done7 E (h.on hb);have HQ:Hid (∀W:World,Below w.heap.size w W->QIn W q wa wc sa sc):=fun W hb=>hq.on hb;have HQ0:Hid (RqOk q):=hq.ok;have HE:Hid (Env SA TA BA):=E;have HP:Hid (0<=ph/\ph<=18446744073709551615):=⟨hp0,hp1⟩;have H0:Hid (Below w.heap.size w (w.alloc (.cells (rqC q.k q wa wc sa sc) 32))/\(w.alloc (.cells (rqC q.k q wa wc sa sc) 32)).heap[w.heap.size]?=some (.cells (rqC q.k q wa wc sa sc) 32 (0,0))):=⟨al _,heap_alloc_new w _⟩;clear E h hq hp0 hp1;unfold rqV;go_enter Tryz.func3,Tryz.ntmps3;go_upto_region 1 with fail
 obtain⟨W0,hW0⟩:=xj (w.alloc (.cells (rqC q.k q wa wc sa sc) 32));obtain⟨bq,hbq⟩:=xj w.heap.size;have HBQ:Hid (w.heap.size=bq):=hbq;have H1:Hid (Below w.heap.size w W0/\W0.heap[bq]?=some (.cells (rqC q.k q wa wc sa sc) 32 (0,0))):=by have:=H0.out;rw[hW0]at this;rw[<-HBQ.out];exact this
 (try rw[hW0,hbq])
 clear H0 hW0 hbq;go_wp2_with fail;refine(CA.out _ (by trivial)).mono ?_;rintro e W1 ⟨rfl,hb1⟩;have H2:Hid (Below w.heap.size w W1/\W1.heap[bq]?=some (.cells (rqC q.k q wa wc sa sc) 32 (0,0))):=⟨H1.out.1.trans (hb1.mono H1.out.1.size),kept_obj H1.out.2 (Kept.of_below (F:=fun _=>False) hb1) (fun e=>e)⟩;clear hb1 H1 CA;go_wp2_with fail;refine(CS.out _ H2.out.1).mono ?_;rintro e W2 ⟨⟨r,rfl⟩,hb2⟩;have H3:Hid (Below w.heap.size w W2/\W2.heap[bq]?=some (.cells (rqC q.k q wa wc sa sc) 32 (0,0))):=⟨H2.out.1.trans (hb2.mono H2.out.1.size),kept_obj H2.out.2 (Kept.of_below (F:=fun _=>False) hb2) (fun e=>e)⟩;clear hb2 H2 CS;have n0:ce W2 bq 0 (iw q.k):=Drm.blk_cell H3.out.2 rfl;cases r
 ·go_wp2_with fail;go_ret;exact⟨rfl,H3.out.1⟩
 by_cases k1:q.k=1
 ·rw[k1]at n0;clear CD;go_wp2_with fail;go_ret;exact⟨rfl,H3.out.1⟩
 by_cases k2:q.k=2
 ·rw[k2]at n0;clear CD;go_wp2_with fail;go_ret;exact⟨rfl,H3.out.1⟩
 have HK:Hid (q.k≠1/\q.k≠2):=⟨k1,k2⟩;have k1':(q.k==1)=false:=by rw[beq_eq_false_iff_ne];exact k1
 have k2':(q.k==2)=false:=by rw[beq_eq_false_iff_ne];exact k2
 clear k1 k2;go_wp2_with fail;refine(CD.out _ H3.out.1).mono ?_;rintro e W3 ⟨f,M,w1,X,D,rfl,HD⟩;have BW:Hid (∀X D Lo W,Cx SA TA BA f M w1 X 0 1 D Lo W->Below w.heap.size w W/\W.heap[bq]?=some (.cells (rqC q.k q wa wc sa sc) 32 (0,0))):=fun X D Lo W hc=>by have hb:Below W2.heap.size W2 W:=HD.out.2.2.trans (hc.kp.below (B:=W2.heap.size) HD.out.2.2.size HD.out.2.1);exact⟨H3.out.1.trans (hb.mono H3.out.1.size),kept_obj H3.out.2 (Kept.of_below (F:=fun _=>False) hb) (fun e=>e)⟩
 have C8:Hid (∀X D Lo W,Cx SA TA BA f M w1 X 0 1 D Lo W->Gd X->X.wt<8900->Up D->Calls Tryz.prog 8 #[pz f.sb,uw ph,.agg (rqC q.k q wa wc sa sc)] W fun e w'=>∃ao n cap,e=.returned (.agg (rpC (handF ph q X 0 D).1 ao n cap))/\Hid (Cx SA TA BA f M w1 (handF ph q X 0 D).2.1 0 1 (handF ph q X 0 D).2.2 Lo w'/\Lv X (handF ph q X 0 D).2/\Kr Lo W w')):=fun X D Lo W hc G hw hu=>by refine(ask8 HE.out hc HD.out.2.1 HD.out.2.2 G hw hu ph HP.out.1 HP.out.2 (HQ.out W2 H3.out.1)).mono ?_;rintro e w' ⟨ao,n,cap,rfl,h⟩;exact⟨ao,n,cap,rfl,h⟩
 have TW:Hid ((handF ph q X 0 D).1.k≠0->Tw (handF ph q X 0 D) (handF ph q (handF ph q X 0 D).2.1 0 (handF ph q X 0 D).2.2)):=fun hn=>hand_twice HE.out HD.out.1.cx HD.out.1.g HD.out.1.u HP.out.1 HQ0.out HK.out hn;have CH1:Hid (1=1->_):=fun _=>C8.out _ _ _ _ HD.out.1.cx HD.out.1.g (by have:=HD.out.1.wt;omega) HD.out.1.u;have HX3:Hid (Cx SA TA BA f M w1 X 0 1 D [] W3/\X.wt<=800):=⟨HD.out.1.cx,by have:=HD.out.1.wt;omega⟩;obtain⟨m0,m1,m2,m3,m4,m5,m6,m7,m8,m9,m10,m11,m12⟩:ce W3 bq 0 (iw q.k)/\ce W3 bq 1 (ui q.c)/\ce W3 bq 2 (ui q.n)/\ce W3 bq 3 (uw q.sp)/\ce W3 bq 4 (ui q.sl)/\ce W3 bq 5 (uw q.ap)/\ce W3 bq 6 (ui q.al)/\ce W3 bq 7 (sd q.key)/\ce W3 bq 8 (sd q.hi)/\ce W3 bq 9 (iw q.lim)/\ce W3 bq 10 (ub q.pt)/\ce W3 bq 11 (.slice wa q.ws.length wc)/\ce W3 bq 12 (.slice sa q.sk.length sc):=by have hb:=(BW.out _ _ _ _ HX3.out.1).2;exact⟨Drm.blk_cell hb rfl,Drm.blk_cell hb rfl,Drm.blk_cell hb rfl,Drm.blk_cell hb rfl,Drm.blk_cell hb rfl,Drm.blk_cell hb rfl,Drm.blk_cell hb rfl,Drm.blk_cell hb rfl,Drm.blk_cell hb rfl,Drm.blk_cell hb rfl,Drm.blk_cell hb rfl,Drm.blk_cell hb rfl,Drm.blk_cell hb rfl⟩
 obtain⟨R1,hR1⟩:=xj (handF ph q X 0 D);rw[hR1]at CH1 TW;obtain⟨r1,X1,D1⟩:=R1;clear hR1 HD CD n0;go_wp2_with fail;refine(CH1.out (by trivial)).mono ?_;rintro e w4 ⟨a4,n4,c4,rfl,h4⟩;have H4:Hid (Cx SA TA BA f M w1 X1 0 1 D1 [] w4/\Gd X1/\X1.wt<8900/\Up D1):=⟨h4.out.1,h4.out.2.1.g,by have z:X1.wt<=X.wt+16:=h4.out.2.1.w;have:=HX3.out.2;omega,h4.out.2.1.u⟩;clear h4 CH1 HX3 m0 m1 m2 m3 m4 m5 m6 m7 m8 m9 m10 m11 m12;(try dsimp only at TW)
 unfold rpC;go_upto_region 7 with fail
 have H5:Hid (Cx SA TA BA f M w1 X1 0 1 D1 [(w4.heap.size,.cells #[iw r1.k,iw r1.err,.bool r1.found,sd r1.val,.slice a4 n4 c4,ui r1.c,ui r1.n,uw r1.sp,ui r1.sl,uw r1.ap,ui r1.al,sd r1.prim,uw r1.np,ui r1.nl] 40 (0,0))] (w4.alloc (.cells #[iw r1.k,iw r1.err,.bool r1.found,sd r1.val,.slice a4 n4 c4,ui r1.c,ui r1.n,uw r1.sp,ui r1.sl,uw r1.ap,ui r1.al,sd r1.prim,uw r1.np,ui r1.nl] 40))):=H4.out.1.new HE.out _ 40 (by decide);obtain⟨W5,hW5⟩:=xj (w4.alloc (.cells #[iw r1.k,iw r1.err,.bool r1.found,sd r1.val,.slice a4 n4 c4,ui r1.c,ui r1.n,uw r1.sp,ui r1.sl,uw r1.ap,ui r1.al,sd r1.prim,uw r1.np,ui r1.nl] 40));obtain⟨b5,hb5⟩:=xj w4.heap.size;rw[hW5,hb5]at H5;(try rw[hW5,hb5])
 clear hW5 hb5;have HG:Hid (Gd X1/\X1.wt<8900/\Up D1):=H4.out.2;clear H4;have a0:ce W5 b5 0 (iw r1.k):=H5.out.has.cell (.head _) rfl;by_cases hk0:r1.k=0
 ·rw[hk0]at a0;have HB5:Hid (Below w.heap.size w W5):=(BW.out _ _ _ _ H5.out).1;clear C8 TW BW;go_wp2_with fail;go_ret;exact⟨rfl,HB5.out⟩
 have hk0':(r1.k==0)=false:=by rw[beq_eq_false_iff_ne];exact hk0
 have T1:Hid _:=TW.out hk0;have C9:Hid (1=1->Calls Tryz.prog 9 #[pz f.sb] W5 fun e w'=>∃b vi vt vk Lo',e=.returned (.pointer (some ⟨b+1+1+1,0,none⟩))/\Hid (Fr SA TA BA f M w1 X1 D1 Lo' (b+4) b X1 vi vt vk w'/\(b5,Obj.cells #[iw r1.k,iw r1.err,.bool r1.found,sd r1.val,.slice a4 n4 c4,ui r1.c,ui r1.n,uw r1.sp,ui r1.sl,uw r1.ap,ui r1.al,sd r1.prim,uw r1.np,ui r1.nl] 40 (0,0))∈Lo')):=fun _=>by refine(has9 HE.out H5.out (by have:=HG.out.2.1;omega)).mono ?_;rintro e w' ⟨b,vi,vt,vk,Lo',rfl,h1,h2,h3⟩;exact⟨b,vi,vt,vk,Lo',rfl,⟨h1,h3⟩,h2 _ (.head _)⟩
 clear hk0 TW H5;go_wp2_with fail;refine(C9.out (by trivial)).mono ?_;rintro e W6 ⟨b,vi,vt,vk,Lo,rfl,H6⟩;clear C9 a0 hk0';have CH2:Hid (1=1->_):=fun _=>C8.out _ _ _ _ H6.out.1.cx HG.out.1 HG.out.2.1 HG.out.2.2;obtain⟨m0,m1,m2,m3,m4,m5,m6,m7,m8,m9,m10,m11,m12⟩:ce W6 bq 0 (iw q.k)/\ce W6 bq 1 (ui q.c)/\ce W6 bq 2 (ui q.n)/\ce W6 bq 3 (uw q.sp)/\ce W6 bq 4 (ui q.sl)/\ce W6 bq 5 (uw q.ap)/\ce W6 bq 6 (ui q.al)/\ce W6 bq 7 (sd q.key)/\ce W6 bq 8 (sd q.hi)/\ce W6 bq 9 (iw q.lim)/\ce W6 bq 10 (ub q.pt)/\ce W6 bq 11 (.slice wa q.ws.length wc)/\ce W6 bq 12 (.slice sa q.sk.length sc):=by have hb:=(BW.out _ _ _ _ H6.out.1.cx).2;exact⟨Drm.blk_cell hb rfl,Drm.blk_cell hb rfl,Drm.blk_cell hb rfl,Drm.blk_cell hb rfl,Drm.blk_cell hb rfl,Drm.blk_cell hb rfl,Drm.blk_cell hb rfl,Drm.blk_cell hb rfl,Drm.blk_cell hb rfl,Drm.blk_cell hb rfl,Drm.blk_cell hb rfl,Drm.blk_cell hb rfl,Drm.blk_cell hb rfl⟩
 obtain⟨R2,hR2⟩:=xj (handF ph q X1 0 D1);rw[hR2]at CH2 T1;obtain⟨r2,X2,D2⟩:=R2;clear hR2 C8;go_wp2_with fail;refine(CH2.out (by trivial)).mono ?_;rintro e w7 ⟨a7,n7,c7,rfl,h7⟩;have H7:Hid (Fr SA TA BA f M w1 X2 D2 Lo (b+4) b X1 vi vt vk w7/\X2.wt<9000):=⟨⟨h7.out.1,H6.out.1.hw.kept h7.out.2.2⟩,by have z:X2.wt<=X1.wt+16:=h7.out.2.1.w;have:=HG.out.2.1;omega⟩;have HM:Hid ((b5,Obj.cells #[iw r1.k,iw r1.err,.bool r1.found,sd r1.val,.slice a4 n4 c4,ui r1.c,ui r1.n,uw r1.sp,ui r1.sl,uw r1.ap,ui r1.al,sd r1.prim,uw r1.np,ui r1.nl] 40 (0,0))∈Lo):=H6.out.2;clear h7 CH2 HG H6 m0 m1 m2 m3 m4 m5 m6 m7 m8 m9 m10 m11 m12;unfold rpC;go_upto_region 11 with fail
 have H8:Hid (Fr SA TA BA f M w1 X2 D2 ((w7.heap.size,.cells #[iw r2.k,iw r2.err,.bool r2.found,sd r2.val,.slice a7 n7 c7,ui r2.c,ui r2.n,uw r2.sp,ui r2.sl,uw r2.ap,ui r2.al,sd r2.prim,uw r2.np,ui r2.nl] 40 (0,0))::Lo) (b+4) b X1 vi vt vk (w7.alloc (.cells #[iw r2.k,iw r2.err,.bool r2.found,sd r2.val,.slice a7 n7 c7,ui r2.c,ui r2.n,uw r2.sp,ui r2.sl,uw r2.ap,ui r2.al,sd r2.prim,uw r2.np,ui r2.nl] 40))):=H7.out.1.new HE.out _ 40 (by decide);obtain⟨W8,hW8⟩:=xj (w7.alloc (.cells #[iw r2.k,iw r2.err,.bool r2.found,sd r2.val,.slice a7 n7 c7,ui r2.c,ui r2.n,uw r2.sp,ui r2.sl,uw r2.ap,ui r2.al,sd r2.prim,uw r2.np,ui r2.nl] 40));obtain⟨b8,hb8⟩:=xj w7.heap.size;rw[hW8,hb8]at H8;(try rw[hW8,hb8])
 clear hW8 hb8;obtain⟨Lo8,hLo8⟩:=xj ((b8,Obj.cells #[iw r2.k,iw r2.err,.bool r2.found,sd r2.val,.slice a7 n7 c7,ui r2.c,ui r2.n,uw r2.sp,ui r2.sl,uw r2.ap,ui r2.al,sd r2.prim,uw r2.np,ui r2.nl] 40 (0,0))::Lo);have HM8:Hid ((b8,Obj.cells #[iw r2.k,iw r2.err,.bool r2.found,sd r2.val,.slice a7 n7 c7,ui r2.c,ui r2.n,uw r2.sp,ui r2.sl,uw r2.ap,ui r2.al,sd r2.prim,uw r2.np,ui r2.nl] 40 (0,0))∈Lo8/\(b5,Obj.cells #[iw r1.k,iw r1.err,.bool r1.found,sd r1.val,.slice a4 n4 c4,ui r1.c,ui r1.n,uw r1.sp,ui r1.sl,uw r1.ap,ui r1.al,sd r1.prim,uw r1.np,ui r1.nl] 40 (0,0))∈Lo8):=by rw[<-hLo8];exact⟨List.mem_cons_self ..,List.mem_cons_of_mem _ HM.out⟩
 rw[hLo8]at H8;clear hLo8 HM;have ek:r2.k=r1.k:=T1.out.k;have ep:r2.ap=r1.ap:=T1.out.ap;have el:r2.al=r1.al:=T1.out.al;have ec:r2.c=r1.c:=T1.out.c;have en:r2.n=r1.n:=T1.out.n;rw[ek,ep,el,ec,en]at HM8;have SD:Hid (SameD X1 X2):=T1.out.s;have HW2:Hid (X2.wt<9000):=H7.out.2;clear ek ep el ec en T1 H7;have SC:Hid (∀W,Fr SA TA BA f M w1 X2 D2 Lo8 (b+4) b X1 vi vt vk W->((fun W=>ce W b5 0 (iw r1.k)/\ce W b5 5 (ui r1.c)/\ce W b5 6 (ui r1.n)/\ce W b5 9 (uw r1.ap)/\ce W b5 10 (ui r1.al)/\ce W b8 0 (iw r1.k)/\ce W b8 5 (ui r1.c)/\ce W b8 6 (ui r1.n)/\ce W b8 9 (uw r1.ap)/\ce W b8 10 (ui r1.al)/\ce W (b+1+1+1) 1 (.pointer (some ⟨b+1,0,none⟩))/\ce W (b+1) 0 (vt)) W)):=fun W h=>⟨h.cx.has.cell HM8.out.2 rfl,h.cx.has.cell HM8.out.2 rfl,h.cx.has.cell HM8.out.2 rfl,h.cx.has.cell HM8.out.2 rfl,h.cx.has.cell HM8.out.2 rfl,h.cx.has.cell HM8.out.1 rfl,h.cx.has.cell HM8.out.1 rfl,h.cx.has.cell HM8.out.1 rfl,h.cx.has.cell HM8.out.1 rfl,h.cx.has.cell HM8.out.1 rfl,h.cx.has.cell h.hw.o0 rfl,h.cx.has.cell h.hw.o2 rfl⟩;have DR:Hid (∀W,Fr SA TA BA f M w1 X2 D2 Lo8 (b+4) b X1 vi vt vk W->Fr SA TA BA f M w1 X2 D2 Lo8 (b+4) b X1 vi vt vk W.drew):=fun W h=>h.on HE.out (Below.refl _ _).drew;have SH:∀W,Fr SA TA BA f M w1 X2 D2 Lo8 (b+4) b X1 vi vt vk W->∃M',ShAt SA TA BA f M' X2 0 1 D2 W:=fun W h=>⟨_,h.cx.sh.choose_spec.1⟩;have C11:Hid (∀W,Fr SA TA BA f M w1 X2 D2 Lo8 (b+4) b X1 vi vt vk W->Calls Tryz.prog 11 #[pz f.sb] W fun e w'=>∃v,e=.returned v/\Hid (RI 0 X1.S v w'/\Fr SA TA BA f M w1 X2 D2 Lo8 (b+4) b X1 vi vt vk w')):=fun W h=>by obtain⟨M',hS⟩:=SH W h;refine(items11 HE.out hS HW2.out).mono ?_;rintro e w' ⟨v,rfl,h1,h2⟩;rw[SD.out.S]at h1;exact⟨v,rfl,h1.le (Nat.zero_le _),h.on HE.out h2⟩
 have C12:Hid (∀W v1,Hid (RI 0 X1.S v1 W/\Fr SA TA BA f M w1 X2 D2 Lo8 (b+4) b X1 vi vt vk W)->Calls Tryz.prog 12 #[pz f.sb] W fun e w'=>∃v,e=.returned v/\Hid (RI 0 X1.S v1 w'/\RT 0 X1.T v w'/\Fr SA TA BA f M w1 X2 D2 Lo8 (b+4) b X1 vi vt vk w')):=fun W v1 h=>by obtain⟨M',hS⟩:=SH W h.out.2;refine(intents12 HE.out hS HW2.out).mono ?_;rintro e w' ⟨v,rfl,h1,h2⟩;rw[SD.out.T]at h1;exact⟨v,rfl,h.out.1.on h2,h1.le (Nat.zero_le _),h.out.2.on HE.out h2⟩
 have C13:Hid (∀W v1 v2,Hid (RI 0 X1.S v1 W/\RT 0 X1.T v2 W/\Fr SA TA BA f M w1 X2 D2 Lo8 (b+4) b X1 vi vt vk W)->Calls Tryz.prog 13 #[pz f.sb] W fun e w'=>∃v,e=.returned v/\Hid (RI 0 X1.S v1 w'/\RT 0 X1.T v2 w'/\RK 0 X1.K v w'/\Fr SA TA BA f M w1 X2 D2 Lo8 (b+4) b X1 vi vt vk w')):=fun W v1 v2 h=>by obtain⟨M',hS⟩:=SH W h.out.2.2;refine(verdicts13 HE.out hS HW2.out).mono ?_;rintro e w' ⟨v,rfl,h1,h2⟩;rw[SD.out.K]at h1;exact⟨v,rfl,h.out.1.on h2,h.out.2.1.on h2,h1.le (Nat.zero_le _),h.out.2.2.on HE.out h2⟩
 have C14:Hid (∀W v1 v2 v3,Hid (RI 0 X1.S v1 W/\RT 0 X1.T v2 W/\RK 0 X1.K v3 W/\Fr SA TA BA f M w1 X2 D2 Lo8 (b+4) b X1 vi vt vk W)->Calls Tryz.prog 14 #[pz f.sb] W fun e w'=>e=.returned (.agg #[uw X1.sp,ui X1.sl])/\Hid (RI 0 X1.S v1 w'/\RT 0 X1.T v2 w'/\RK 0 X1.K v3 w'/\Fr SA TA BA f M w1 X2 D2 Lo8 (b+4) b X1 vi vt vk w')):=fun W v1 v2 v3 h=>by obtain⟨M',hS⟩:=SH W h.out.2.2.2;have:=safe14 hS;rw[SD.out.sp,SD.out.sl]at this;refine Calls.mono this ?_;rintro e w' ⟨rfl,h2⟩;exact⟨rfl,h.out.1.on h2,h.out.2.1.on h2,h.out.2.2.1.on h2,h.out.2.2.2.on HE.out h2⟩
 have C10:Hid (∀W v1 v2 v3,Hid (RI 0 X1.S v1 W/\RT 0 X1.T v2 W/\RK 0 X1.K v3 W/\Fr SA TA BA f M w1 X2 D2 Lo8 (b+4) b X1 vi vt vk W)->Calls Tryz.prog 10 #[.pointer (some ⟨b+1+1+1,0,none⟩),v1,v2,v3,.agg #[uw X1.sp,ui X1.sl]] W fun e w'=>e=.returned (.bool true)/\Hid (Fr SA TA BA f M w1 X2 D2 Lo8 (b+4) b X1 vi vt vk w')):=fun W v1 v2 v3 h=>by refine(like10 h.out.2.2.2.cx.has h.out.2.2.2.hw h.out.1 h.out.2.1 h.out.2.2.1).mono ?_;rintro e w' ⟨rfl,h2⟩;exact⟨rfl,h.out.2.2.2.on HE.out h2⟩
 have C12b:Hid (∀W,Hid (Fr SA TA BA f M w1 X2 D2 Lo8 (b+4) b X1 vi vt vk W)->Calls Tryz.prog 12 #[pz f.sb] W fun e w'=>∃v,e=.returned v/\Hid (RT 0 X1.T v w'/\Fr SA TA BA f M w1 X2 D2 Lo8 (b+4) b X1 vi vt vk w')):=fun W h=>by obtain⟨M',hS⟩:=SH W h.out;refine(intents12 HE.out hS HW2.out).mono ?_;rintro e w' ⟨v,rfl,h1,h2⟩;rw[SD.out.T]at h1;exact⟨v,rfl,h1.le (Nat.zero_le _),h.out.on HE.out h2⟩
 have C15:Hid (∀W v,Hid (RT 0 X1.T v W/\Fr SA TA BA f M w1 X2 D2 Lo8 (b+4) b X1 vi vt vk W)->Calls Tryz.prog 15 #[v,vt] W fun e w'=>e=.returned (.bool true)/\Hid (Fr SA TA BA f M w1 X2 D2 Lo8 (b+4) b X1 vi vt vk w')):=fun W v h=>by refine(Lat.same12 _ _ X1.T v vt W h.out.1.r h.out.2.hw.t.r).mono ?_;rintro e w' ⟨rfl,h2⟩;exact⟨rfl,h.out.2.on HE.out h2⟩
 have FB:Hid (∀W,Fr SA TA BA f M w1 X2 D2 Lo8 (b+4) b X1 vi vt vk W->Below w.heap.size w W):=fun W h=>(BW.out _ _ _ _ h.cx).1;have q28:=eql28 r1.ap r1.al;have q26:=eql26 r1.c r1.n;clear SH SD HW2 HM8 BW HE HQ HQ0 HP HK HBQ;have zy0:=SC.out _ H8.out;go_region_held3 (fun W=>ce W b5 0 (iw r1.k)/\ce W b5 5 (ui r1.c)/\ce W b5 6 (ui r1.n)/\ce W b5 9 (uw r1.ap)/\ce W b5 10 (ui r1.al)/\ce W b8 0 (iw r1.k)/\ce W b8 5 (ui r1.c)/\ce W b8 6 (ui r1.n)/\ce W b8 9 (uw r1.ap)/\ce W b8 10 (ui r1.al)/\ce W (b+1+1+1) 1 (.pointer (some ⟨b+1,0,none⟩))/\ce W (b+1) 0 (vt)) (first|exact SC.out _ H8.out|exact SC.out _ (DR.out _ H8.out)|exact SC.out _ G1.out.2|exact SC.out _ G2.out.2.2|exact SC.out _ G3.out.2.2.2|exact SC.out _ G4.out.2.2.2|exact SC.out _ G5.out|exact SC.out _ G6.out.2|exact SC.out _ G7.out) (first
  |(go_at_call 11;refine(C11.out _ (DR.out _ H8.out)).mono ?_;rintro e x1 ⟨v1,rfl,G1⟩)
  |(go_at_call 12;refine(C12.out _ _ G1).mono ?_;rintro e x2 ⟨v2,rfl,G2⟩;clear G1)
  |(go_at_call 13;refine(C13.out _ _ _ G2).mono ?_;rintro e x3 ⟨v3,rfl,G3⟩;clear G2)
  |(go_at_call 14;refine(C14.out _ _ _ _ G3).mono ?_;rintro e x4 ⟨rfl,G4⟩;clear G3)
  |(go_at_call 10;refine(C10.out _ _ _ _ G4).mono ?_;rintro e x5 ⟨rfl,G5⟩;clear G4)
  |(go_at_call 12;refine(C12b.out _ G5).mono ?_;rintro e x6 ⟨v6,rfl,G6⟩;clear G5)
  |(go_at_call 15;refine(C15.out _ _ G6).mono ?_;rintro e x7 ⟨rfl,G7⟩;clear G6))
 rename_i hHeld;clear hHeld;go_wp2_with fail;go_ret;exact⟨rfl,FB.out _ G7.out⟩
end Go.Proofs.YtdplfgcoaddbdaaGreat
namespace Go.Proofs.YtdplfgcoaddbdaaGreat
open Go.ChangeShapes Go.WideShapes Go.ChangeAt Go.RowKit Go.Joins Go.Deep
namespace Opn
theorem own:ownKnob Tryz.prog.godebug=none:=by kernel_rfl
theorem laidOut:laidOutB Tryz.prog=true:=by kernel_rfl
theorem c3:Tryz.prog.cellsOf 3=1:=by kernel_rfl
theorem c4:Tryz.prog.cellsOf 4=1:=by kernel_rfl
theorem cu8:Tryz.prog.cellsOf 5=1:=by kernel_rfl
theorem cStr:Tryz.prog.cellsOf 9=1:=by kernel_rfl
theorem cu64:Tryz.prog.cellsOf 23=1:=by kernel_rfl
theorem cu32:Tryz.prog.cellsOf 24=1:=by kernel_rfl
theorem cTs:Tryz.prog.cellsOf 28=2:=by kernel_rfl
theorem cTxn:Tryz.prog.cellsOf 26=2:=by kernel_rfl
theorem cWr:Tryz.prog.cellsOf 67=3:=by kernel_rfl
theorem cWs:Tryz.prog.cellsOf 29=1:=by kernel_rfl
theorem cTx:Tryz.prog.cellsOf 30=1:=by kernel_rfl
theorem cIs:Tryz.prog.cellsOf 78=1:=by kernel_rfl
theorem cRq:Tryz.prog.cellsOf 32=13:=by kernel_rfl
theorem cAc:Tryz.prog.cellsOf 80=17:=by kernel_rfl
section
variable {H:Type}{enc:TypeId×Value->H}{w:World}{base:Nat}{spare:Nat->Bool}{held:Bool}
theorem struct3{t:TypeId}{f0 f1 f2:Field}{fuel:Nat}{cs:List Value}{x:DataW H×List MemPlace}(ht:Tryz.prog.underlying t=some (.struct #[f0,f1,f2]))(h:DataW.trod enc Tryz.prog w base spare held fuel t cs=some x):
  ∃y0 y1 y2 n,x.1=.agg [y0.1,y1.1,y2.1]/\cs.length=Tryz.prog.cellsOf t/\DataW.trod enc Tryz.prog w base spare held n f0.type ((cs.drop f0.offset).take (Tryz.prog.cellsOf f0.type))=some y0/\DataW.trod enc Tryz.prog w base spare held n f1.type ((cs.drop f1.offset).take (Tryz.prog.cellsOf f1.type))=some y1/\DataW.trod enc Tryz.prog w base spare held n f2.type ((cs.drop f2.offset).take (Tryz.prog.cellsOf f2.type))=some y2:=by
 obtain⟨xs,n,_,rfl,hl,hlen,hf⟩:=DataW.trod_struct ht h;match xs,hlen with
 |[y0,y1,y2],_=>exact⟨y0,y1,y2,n,by simp,hl,by simpa using hf 0 f0 rfl,by simpa using hf 1 f1 rfl,by simpa using hf 2 f2 rfl⟩
theorem struct10{t:TypeId}{f0 f1 f2 f3 f4 f5 f6 f7 f8 f9:Field}{fuel:Nat}{cs:List Value}{x:DataW H×List MemPlace}(ht:Tryz.prog.underlying t=some (.struct #[f0,f1,f2,f3,f4,f5,f6,f7,f8,f9]))(h:DataW.trod enc Tryz.prog w base spare held fuel t cs=some x):
  ∃y0 y1 y2 y3 y4 y5 y6 y7 y8 y9 n,x.1=.agg [y0.1,y1.1,y2.1,y3.1,y4.1,y5.1,y6.1,y7.1,y8.1,y9.1]/\cs.length=Tryz.prog.cellsOf t/\DataW.trod enc Tryz.prog w base spare held n f0.type ((cs.drop f0.offset).take (Tryz.prog.cellsOf f0.type))=some y0/\DataW.trod enc Tryz.prog w base spare held n f1.type ((cs.drop f1.offset).take (Tryz.prog.cellsOf f1.type))=some y1/\DataW.trod enc Tryz.prog w base spare held n f2.type ((cs.drop f2.offset).take (Tryz.prog.cellsOf f2.type))=some y2/\DataW.trod enc Tryz.prog w base spare held n f3.type ((cs.drop f3.offset).take (Tryz.prog.cellsOf f3.type))=some y3/\DataW.trod enc Tryz.prog w base spare held n f4.type ((cs.drop f4.offset).take (Tryz.prog.cellsOf f4.type))=some y4/\DataW.trod enc Tryz.prog w base spare held n f5.type ((cs.drop f5.offset).take (Tryz.prog.cellsOf f5.type))=some y5/\DataW.trod enc Tryz.prog w base spare held n f6.type ((cs.drop f6.offset).take (Tryz.prog.cellsOf f6.type))=some y6/\DataW.trod enc Tryz.prog w base spare held n f7.type ((cs.drop f7.offset).take (Tryz.prog.cellsOf f7.type))=some y7/\DataW.trod enc Tryz.prog w base spare held n f8.type ((cs.drop f8.offset).take (Tryz.prog.cellsOf f8.type))=some y8/\DataW.trod enc Tryz.prog w base spare held n f9.type ((cs.drop f9.offset).take (Tryz.prog.cellsOf f9.type))=some y9:=by
 obtain⟨xs,n,_,rfl,hl,hlen,hf⟩:=DataW.trod_struct ht h;match xs,hlen with
 |[y0,y1,y2,y3,y4,y5,y6,y7,y8,y9],_=>exact⟨y0,y1,y2,y3,y4,y5,y6,y7,y8,y9,n,by simp,hl,by simpa using hf 0 f0 rfl,by simpa using hf 1 f1 rfl,by simpa using hf 2 f2 rfl,by simpa using hf 3 f3 rfl,by simpa using hf 4 f4 rfl,by simpa using hf 5 f5 rfl,by simpa using hf 6 f6 rfl,by simpa using hf 7 f7 rfl,by simpa using hf 8 f8 rfl,by simpa using hf 9 f9 rfl⟩
theorem struct5{t:TypeId}{f0 f1 f2 f3 f4:Field}{fuel:Nat}{cs:List Value}{x:DataW H×List MemPlace}(ht:Tryz.prog.underlying t=some (.struct #[f0,f1,f2,f3,f4]))(h:DataW.trod enc Tryz.prog w base spare held fuel t cs=some x):
  ∃y0 y1 y2 y3 y4 n,cs.length=Tryz.prog.cellsOf t/\DataW.trod enc Tryz.prog w base spare held n f0.type ((cs.drop f0.offset).take (Tryz.prog.cellsOf f0.type))=some y0/\DataW.trod enc Tryz.prog w base spare held n f1.type ((cs.drop f1.offset).take (Tryz.prog.cellsOf f1.type))=some y1/\DataW.trod enc Tryz.prog w base spare held n f2.type ((cs.drop f2.offset).take (Tryz.prog.cellsOf f2.type))=some y2/\DataW.trod enc Tryz.prog w base spare held n f3.type ((cs.drop f3.offset).take (Tryz.prog.cellsOf f3.type))=some y3/\DataW.trod enc Tryz.prog w base spare held n f4.type ((cs.drop f4.offset).take (Tryz.prog.cellsOf f4.type))=some y4:=by
 obtain⟨xs,n,_,rfl,hl,hlen,hf⟩:=DataW.trod_struct ht h;match xs,hlen with
 |[y0,y1,y2,y3,y4],_=>exact⟨y0,y1,y2,y3,y4,n,hl,by simpa using hf 0 f0 rfl,by simpa using hf 1 f1 rfl,by simpa using hf 2 f2 rfl,by simpa using hf 3 f3 rfl,by simpa using hf 4 f4 rfl⟩
theorem nat_of{k:IntKind}{q:Int}(hk:k=.u8\/k=.u32\/k=.u64)(h:(Lit.int k q).wf=true):∃n:Nat,q=n/\(k=.u8->n<256)/\(k=.u32->n<4294967296)/\(k=.u64->n<18446744073709551616):=by
 simp only[Lit.wf,Bool.and_eq_true,decide_eq_true_eq]at h;rcases hk with rfl|rfl|rfl
 ·have h1:(IntKind.u8.min:Int)=0:=by decide
  have h2:(IntKind.u8.max:Int)=255:=by decide
  exact⟨q.toNat,by omega,fun _=>(by omega),fun h=>(by cases h),fun h=>(by cases h)⟩
 ·have h1:(IntKind.u32.min:Int)=0:=by decide
  have h2:(IntKind.u32.max:Int)=4294967295:=by decide
  exact⟨q.toNat,by omega,fun h=>(by cases h),fun _=>(by omega),fun h=>(by cases h)⟩
 ·have h1:(IntKind.u64.min:Int)=0:=by decide
  have h2:(IntKind.u64.max:Int)=18446744073709551615:=by decide
  exact⟨q.toNat,by omega,fun h=>(by cases h),fun h=>(by cases h),fun _=>by omega⟩
theorem bs_self(s:ByteArray):bs s.data.toList=s:=by obtain⟨d⟩:=s;simp[bs]
theorem str_open{fuel:Nat}{cs:List Value}{x:DataW H×List MemPlace}(h:DataW.trod enc Tryz.prog w base spare held fuel 9 cs=some x):∃l:List UInt8,cs=[sd l]:=by obtain⟨s,e0,rfl,_⟩:=DataW.trod_string Tryz.underlying9 h;exact⟨s.data.toList,by show _=[Value.string (bs _)];rw[bs_self];exact e0⟩
theorem ts_open{fuel:Nat}{cs:List Value}{x:DataW H×List MemPlace}(h:DataW.trod enc Tryz.prog w base spare held fuel 28 cs=some x):∃p q:Int,cs=[uw p,ui q]/\Ts p q:=by
 obtain⟨y0,y1,n,rfl,hl,h0,h1⟩:=trod_struct2 Tryz.underlying28 h;rw[cTs]at hl;match cs,hl with
 |[c0,c1],_=>
  simp only[cu64,cu32,List.drop_zero,List.take_succ_cons,List.take_zero,List.drop_succ_cons]at h0 h1;obtain⟨p,e0,rfl,w0⟩:=DataW.trod_int Tryz.underlying23 h0;obtain⟨q,e1,rfl,w1⟩:=DataW.trod_int Tryz.underlying24 h1;obtain⟨p,rfl,-,-,r0⟩:=nat_of (.inr (.inr rfl)) w0;obtain⟨q,rfl,-,r1,-⟩:=nat_of (.inr (.inl rfl)) w1;simp only[List.cons.injEq,and_true]at e0 e1;subst e0 e1;have:=r0 rfl;have:=r1 rfl;exact⟨p,q,rfl,⟨by omega,by omega⟩,by omega,by omega⟩
theorem txn_open{fuel:Nat}{cs:List Value}{x:DataW H×List MemPlace}(h:DataW.trod enc Tryz.prog w base spare held fuel 26 cs=some x):∃p q:Int,cs=[ui p,ui q]/\Ver.R32 p/\Ver.R32 q:=by
 obtain⟨y0,y1,n,rfl,hl,h0,h1⟩:=trod_struct2 Tryz.underlying26 h;rw[cTxn]at hl;match cs,hl with
 |[c0,c1],_=>
  simp only[cu32,List.drop_zero,List.take_succ_cons,List.take_zero,List.drop_succ_cons]at h0 h1;obtain⟨p,e0,rfl,w0⟩:=DataW.trod_int Tryz.underlying24 h0;obtain⟨q,e1,rfl,w1⟩:=DataW.trod_int Tryz.underlying24 h1;obtain⟨p,rfl,-,r0,-⟩:=nat_of (.inr (.inl rfl)) w0;obtain⟨q,rfl,-,r1,-⟩:=nat_of (.inr (.inl rfl)) w1;simp only[List.cons.injEq,and_true]at e0 e1;subst e0 e1;have:=r0 rfl;have:=r1 rfl;exact⟨p,q,rfl,⟨by omega,by omega⟩,by omega,by omega⟩
theorem wr_open{fuel:Nat}{cs:List Value}{x:DataW H×List MemPlace}(h:DataW.trod enc Tryz.prog w base spare held fuel 67 cs=some x):∃u:Wr,cs=Lat.wrc u/\True:=by
 obtain⟨y0,y1,y2,n,hx,hl,h0,h1,h2⟩:=struct3 Tryz.underlying67 h;rw[cWr]at hl;match cs,hl with
 |[c0,c1,c2],_=>
  simp only[cStr,c4,List.drop_zero,List.take_succ_cons,List.take_zero,List.drop_succ_cons]at h0 h1 h2;obtain⟨k,e0⟩:=str_open h0;obtain⟨v,e1⟩:=str_open h1;obtain⟨d,e2,-⟩:=DataW.trod_bool Tryz.underlying4 h2;simp only[List.cons.injEq,and_true]at e0 e1 e2;subst e0 e1 e2;exact⟨⟨k,v,d⟩,rfl,trivial⟩
theorem tn_open{fuel:Nat}{cs:List Value}{x:DataW H×List MemPlace}(h:DataW.trod enc Tryz.prog w base spare held fuel 26 cs=some x):∃u:Int×Int,cs=Lat.txc u/\True:=by obtain⟨p,q,e,-⟩:=txn_open h;exact⟨(p,q),e,trivial⟩
theorem row_open{α:Type}(d:α)(vc:α->List Value)(size:Nat)(hsz:0<size)(hvc:∀a,(vc a).length=size){t e:TypeId}(ht:Tryz.prog.underlying t=some (.slice e))(hce:Tryz.prog.cellsOf e=size)
  (P:α->Prop) (hel:∀{n:Nat} {cs:List Value} {x:DataW H×List MemPlace},DataW.trod enc Tryz.prog w base (fun _=>true) held n e cs=some x->∃a,cs=vc a/\P a)
  {fuel:Nat} {v:Value} {x:DataW H×List MemPlace} (h:DataW.trod enc Tryz.prog w base (fun _=>true) held fuel t [v]=some x):
  ∃(L:List α) (ao:Option Addr) (cap:Nat),v=.slice ao L.length cap/\RwAt w.heap.size size (.slice ao L.length cap) L.length (L.flatMap vc) w/\(∀a∈L,P a):=by
 rcases open_slice ht h with⟨hcs,_⟩|⟨a,len,cap,m,n,D,Pl,hcs,_,hl,hm,hmm,hd,hx⟩
 ·simp at hcs;subst hcs;exact⟨[],none,0,rfl,RwAt.nil _ _ _,by simp⟩
 ·simp at hcs;subst hcs;rw[hce]at hx;obtain⟨b,off,spot⟩:=a;have hmc:m=cap:=by rw[hmm];rfl
  subst hmc;have each:∀i,i<m->∃f:α,P f/\(spot=none\/0<i)/\∀j u,(vc f)[j]?=some u->ce w b (off+i*size+j) u:=by
   intro i hi;obtain⟨cs',h1,h2⟩:=hx i (by omega);obtain⟨c,rfl,hP⟩:=hel h2;obtain⟨_,_,hc⟩:=World.cells?_some h1;have hsp:spot=none\/0<i:=by
    by_cases hi0:i=0
    ·left;subst hi0;have h0:=hc 0 hsz;rw[show(vc c)[0]?=some ((vc c)[0]'(by rw[hvc];exact hsz))from List.getElem?_eq_getElem _]at h0;simpa[Addr.add]using World.cell?_spot h0
    ·right;omega
   have ha:(⟨b,off,spot⟩:Addr).add (i*size)=⟨b,off+i*size,none⟩:=by
    rcases hsp with rfl|h0
    ·exact add_plain _ _ _
    ·have:0<i*size:=Nat.mul_pos h0 hsz;simp[Addr.add];omega
   refine⟨c,hP,hsp,fun j u hj=>?_⟩;have hjl:j<size:=by rw[<-hvc c];exact(List.getElem?_eq_some_iff.1 hj).1
   have:=hc j hjl;rw[ha,add_plain]at this;show w.cell? _=_;rw[this];exact hj
  haveI:Inhabited α:=⟨d⟩
  obtain⟨F,hF⟩:=choose_lt each;have hlen:((List.range len).map F).length=len:=by simp
  have hfl:∀(n:Nat),(((List.range n).map F).flatMap vc).length=n*size:=fun n=>by
   induction n with
   |zero=>simp
   |succ n ih=>rw[List.range_succ,List.map_append,List.flatMap_append,List.length_append,ih];simp[hvc,Nat.succ_mul]
  have hget:∀(n j:Nat) (u:Value),(((List.range n).map F).flatMap vc)[j]?=some u->∃i,i<n/\(vc (F i))[j-i*size]?=some u/\i*size<=j:=fun n=>by
   induction n with
   |zero=>intro j u h;simp at h
   |succ n ih=>
    intro j u h;rw[List.range_succ,List.map_append,List.flatMap_append]at h;by_cases hj:j<n*size
    ·rw[List.getElem?_append_left (by rw[hfl];exact hj)]at h;obtain⟨i,hi,r⟩:=ih j u h;exact⟨i,by omega,r⟩
    ·rw[List.getElem?_append_right (by rw[hfl];omega),hfl]at h;exact⟨n,by omega,by simpa using h,by omega⟩
  refine⟨(List.range len).map F,some ⟨b,off,spot⟩,m,by rw[hlen],⟨some ⟨b,off,spot⟩,m,rfl,by rw[hlen];exact hfl len,by rw[hlen];exact hl,by unfold maxLen at hm;omega,fun h0=>⟨b,off,?_,?_,?_⟩⟩,?_⟩
  ·rcases(hF 0 (by omega)).2.1 with rfl|h1
   ·rfl
   ·omega
  ·intro _;have h1:(vc (F 0))[0]?=some ((vc (F 0))[0]'(by rw[hvc];exact hsz)):=List.getElem?_eq_getElem _;exact World.block_lt_of_cell? _ _ ((hF 0 (by omega)).2.2 0 _ h1)
  ·intro j u hj;obtain⟨i,hi,hu,hle⟩:=hget len j u hj;have:=(hF i (by omega)).2.2 _ u hu;rw[show off+i*size+(j-i*size)=off+j from by omega]at this;exact this
  ·intro a ha;obtain⟨i,hi,rfl⟩:=List.mem_map.1 ha;exact(hF i (by have:=List.mem_range.1 hi;omega)).1
theorem rq_open{fuel:Nat}{cs:List Value}{x:DataW H×List MemPlace}(h:DataW.trod enc Tryz.prog w base (fun _=>true) held fuel 32 cs=some x):
  ∃(q:Rq) (wa sa:Option Addr) (wc sc:Nat),cs=[iw q.k,ui q.c,ui q.n,uw q.sp,ui q.sl,uw q.ap,ui q.al,sd q.key,sd q.hi,iw q.lim,ub q.pt,.slice wa q.ws.length wc,.slice sa q.sk.length sc]/\QIn w q wa wc sa sc:=by
 obtain⟨y0,y1,y2,y3,y4,y5,y6,y7,y8,y9,n,hx,hl,h0,h1,h2,h3,h4,h5,h6,h7,h8,h9⟩:=struct10 Tryz.underlying32 h;rw[cRq]at hl;match cs,hl with
 |[k0,k1,k2,k3,k4,k5,k6,k7,k8,k9,k10,k11,k12],_=>
  simp only[c3,cTxn,cTs,cStr,cu8,cWs,cTx,List.drop_zero,List.take_succ_cons,List.take_zero,List.drop_succ_cons]at h0 h1 h2 h3 h4 h5 h6 h7 h8 h9;obtain⟨k,e0,-,w0⟩:=DataW.trod_int Tryz.underlying3 h0;obtain⟨c,m,e1,r1⟩:=txn_open h1;obtain⟨sp,sl,e2,r2⟩:=ts_open h2;obtain⟨ap,al,e3,r3⟩:=ts_open h3;obtain⟨key,e4⟩:=str_open h4;obtain⟨tt,e5⟩:=str_open h5;obtain⟨lim,e6,-,w6⟩:=DataW.trod_int Tryz.underlying3 h6;obtain⟨pt,e7,-,w7⟩:=DataW.trod_int Tryz.underlying5 h7;obtain⟨L,ao,cap,e8,hL,-⟩:=row_open ⟨[],[],false⟩ Lat.wrc 3 (by omega) (fun _=>rfl) Tryz.underlying29 cWr (fun u=>True) wr_open h8;obtain⟨M,so,cas,e9,hM,-⟩:=row_open (0,0) Lat.txc 2 (by omega) (fun _=>rfl) Tryz.underlying30 cTxn (fun u=>True) tn_open h9;obtain⟨pt,rfl,r7,-,-⟩:=nat_of (.inl rfl) w7;simp only[List.cons.injEq,and_true]at e0 e1 e2 e3 e4 e5 e6 e7;obtain⟨e1,e1'⟩:=e1;obtain⟨e2,e2'⟩:=e2;obtain⟨e3,e3'⟩:=e3;subst e0 e1 e1' e2 e2' e3 e3' e4 e5 e6 e7 e8 e9;have:=r7 rfl;exact⟨⟨k,c,m,sp,sl,ap,al,key,tt,lim,pt,L,M⟩,ao,so,cap,cas,rfl,⟨⟨r1,r2,r3,by show(0:Int)<=(pt:Int);omega,by show(pt:Int)<256;omega⟩,hL,hM⟩⟩
theorem sl_open{t e:TypeId}(ht:Tryz.prog.underlying t=some (.slice e)){fuel:Nat}{v:Value}{x:DataW H×List MemPlace}(h:DataW.trod enc Tryz.prog w base (fun _=>true) held fuel t [v]=some x):∃ao n cp,v=.slice ao n cp:=by
 rcases open_slice ht h with⟨hcs,_⟩|⟨a,len',cap',m,n,D,Pl,hcs,_⟩
 ·simp at hcs;exact⟨_,_,_,hcs⟩
 ·simp at hcs;exact⟨_,_,_,hcs⟩
theorem act_open{fuel:Nat}{cs:List Value}{x:DataW H×List MemPlace}(h:DataW.trod enc Tryz.prog w base (fun _=>true) held fuel 80 cs=some x):∃a:Ac,cs=acc a/\AcOk w a:=by
 obtain⟨y0,y1,y2,y3,y4,n,hl,h0,h1,h2,h3,h4⟩:=struct5 Tryz.underlying80 h;rw[cAc]at hl;match cs,hl with
 |[k0,k1,k2,k3,k4,k5,k6,k7,k8,k9,k10,k11,k12,k13,k14,k15,k16],_=>
  simp only[c3,cu64,cRq,cIs,List.drop_zero,List.take_succ_cons,List.take_zero,List.drop_succ_cons]at h0 h1 h2 h3 h4;obtain⟨wh,e0,-,-⟩:=DataW.trod_int Tryz.underlying3 h0;obtain⟨nn,e1,-,-⟩:=DataW.trod_int Tryz.underlying3 h1;obtain⟨ph,e2,-,w2⟩:=DataW.trod_int Tryz.underlying23 h2;obtain⟨ph,rfl,-,-,r2⟩:=nat_of (.inr (.inr rfl)) w2;obtain⟨q,wa,sa,wc,sc,e3,hq⟩:=rq_open h3;obtain⟨ka,kn,kc,e4⟩:=sl_open Tryz.underlying78 h4;simp only[List.cons.injEq,and_true]at e0 e1 e2 e3;obtain⟨a0,a1,a2,a3,a4,a5,a6,a7,a8,a9,a10,a11,a12⟩:=e3;subst e0 e1 e2 a0 a1 a2 a3 a4 a5 a6 a7 a8 a9 a10 a11 a12 e4;have:=r2 rfl;exact⟨⟨wh,nn,ph,q,wa,wc,sa,sc,ka,kn,kc⟩,rfl,hq,by show(0:Int)<=(ph:Int)/\(ph:Int)<=_;omega⟩
theorem acts_open{fuel:Nat}{v:Value}{x:DataW H×List MemPlace}(h:DataW.trod enc Tryz.prog w base (fun _=>true) held fuel 22 [v]=some x):∃(L:List Ac) (ao:Option Addr) (cap:Nat),v=.slice ao L.length cap/\AcsAt w (.slice ao L.length cap) L:=by obtain⟨L,ao,cap,e,hr,h1⟩:=row_open dac acc 17 (by omega) acc_len Tryz.underlying22 cAc (fun a=>AcOk w a) act_open h;exact⟨L,ao,cap,e,hr,h1⟩
end
end Opn
end Go.Proofs.YtdplfgcoaddbdaaGreat
