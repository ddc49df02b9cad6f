import Derived.Test.YtdplfgcoaddbdaaGreatXbj
import Derived.Test.YtdplfgcoaddbdaaGreatXbu
set_option maxHeartbeats 4000000
set_option maxRecDepth 100000
set_option linter.unusedVariables false
set_option linter.unusedSimpArgs false
namespace Go.Proofs.YtdplfgcoaddbdaaGreat
open Go.RowKit
variable {SA:TyS}{TA:TyT}{BA:TyB}
variable {f:Fp}{M:Nat->Prop}{X:Sd}{a:Int}{g:Nat}{D:Drm.Dr}{w w1 W W':World}{Lo:List (Nat×Obj)}
structure Ac where
 what:Int
 n:Int
 ph:Int
 q:Rq
 wa:Option Addr
 wc:Nat
 sa:Option Addr
 sc:Nat
 ka:Option Addr
 kn:Nat
 kc:Nat
def acc(x:Ac):List Value:=[iw x.what,iw x.n,uw x.ph,iw x.q.k,ui x.q.c,ui x.q.n,uw x.q.sp,ui x.q.sl,uw x.q.ap,ui x.q.al,sd x.q.key,sd x.q.hi,iw x.q.lim,ub x.q.pt,.slice x.wa x.q.ws.length x.wc,.slice x.sa x.q.sk.length x.sc,.slice x.ka x.kn x.kc]
def dac:Ac:=⟨0,0,0,⟨0,0,0,0,0,0,0,[],[],0,0,[],[]⟩,none,0,none,0,none,0,0⟩
structure AcOk(w:World)(x:Ac):Prop where
 q:QIn w x.q x.wa x.wc x.sa x.sc
 ph:0<=x.ph/\x.ph<=18446744073709551615
def AnyB(e:Ending):Prop:=∃r,e=.returned (.bool r)
theorem acc_len(x:Ac):(acc x).length=17:=rfl
def AcsAt(w:World)(v:Value)(L:List Ac):Prop:=RwAt w.heap.size 17 v L.length (rowC acc L) w/\∀x∈L,AcOk w x
def AcAt(b off:Nat)(x:Ac)(W:World):Prop:=∀k u,(acc x)[k]?=some u->ce W b (off+k) u
theorem AcsAt.el{L:List Ac}{ao:Option Addr}{cap:Nat}(h:AcsAt w (.slice ao L.length cap) L)(hb:Below w.heap.size w W){i:Nat}(hi:i<L.length):∃b off,ao=some ⟨b,off,none⟩/\AcAt b (off+i*17) (L.getD i dac) W/\AcOk w (L.getD i dac):=by
 obtain⟨b,off,e,hc⟩:=rowC_el acc_len dac (by omega) rfl (h.1.on hb) hi;refine⟨b,off,e,fun k u hk=>hc k u ?_ hk,h.2 _ ?_⟩
 ·have:=(List.getElem?_eq_some_iff.1 hk).1;rw[acc_len]at this;exact this
 ·rw[List.getD,List.getElem?_eq_getElem hi];exact List.getElem_mem hi
theorem AcAt.all{b off:Nat}{x:Ac}(h:AcAt b off x W):ce W b off (iw x.what)/\ce W b (off+1) (iw x.n)/\ce W b (off+2) (uw x.ph)/\ce W b (off+3) (iw x.q.k)/\ce W b (off+4) (ui x.q.c)/\ce W b (off+5) (ui x.q.n)/\ce W b (off+6) (uw x.q.sp)/\ce W b (off+7) (ui x.q.sl)/\ce W b (off+8) (uw x.q.ap)/\ce W b (off+9) (ui x.q.al)/\ce W b (off+10) (sd x.q.key)/\ce W b (off+11) (sd x.q.hi)/\ce W b (off+12) (iw x.q.lim)/\ce W b (off+13) (ub x.q.pt)/\ce W b (off+14) (.slice x.wa x.q.ws.length x.wc)/\ce W b (off+15) (.slice x.sa x.q.sk.length x.sc)/\ce W b (off+16) (.slice x.ka x.kn x.kc):=
 ⟨h 0 _ rfl,h 1 _ rfl,h 2 _ rfl,h 3 _ rfl,h 4 _ rfl,h 5 _ rfl,h 6 _ rfl,h 7 _ rfl,h 8 _ rfl,h 9 _ rfl,h 10 _ rfl,h 11 _ rfl,h 12 _ rfl,h 13 _ rfl,h 14 _ rfl,h 15 _ rfl,h 16 _ rfl⟩
theorem small6{L:List Ac}{ao:Option Addr}{cap:Nat}(h:AcsAt w (.slice ao L.length cap) L):Calls Tryz.prog 6 #[.slice ao L.length cap] w fun e w'=>AnyB e/\Below w.heap.size w w':=by
 have HA:Hid (∀W,Below w.heap.size w W->∀i,i<L.length->∃b off,ao=some ⟨b,off,none⟩/\AcAt b (off+i*17) (L.getD i dac) W/\AcOk w (L.getD i dac)):=fun W hW i hi=>h.el hW hi;have hL9:L.length<9223372036854775808:=by obtain⟨_,_,e,_,h1,h2,_⟩:=h.1;injection e with _ _ e;omega
 clear h;go_enter Tryz.func6,Tryz.ntmps6;go_wp2_with fail;go_loopw [3,8] (fun s3 i wr=>(∃z:Int,s3=iw z)/\Below w.heap.size w wr/\∃m:Nat,m<=L.length/\i=iw m) (fun _ i _=>L.length-(intOf i).toNat)
 case atStart=>exact⟨⟨_,rfl⟩,Below.refl _ _,0,Nat.zero_le _,rfl⟩
 case round=>
  obtain⟨⟨z,rfl⟩,hbr,m,hm,rfl⟩:=hrel;have HBr:Hid _:=hbr;by_cases hml:m<L.length
  ·obtain⟨b,off,rfl,hat,hok⟩:=HA.out wr hbr m hml;have hml':(m:Int)<L.length:=by omega
   generalize L.getD m dac=x at*;have ze0:=hat.all;clear hbr HA hat hok;go_upto_region 5 with fail
   have HB5:Hid (Below w.heap.size w (wr.alloc (.cells #[iw x.what,iw x.n,uw x.ph,iw x.q.k,ui x.q.c,ui x.q.n,uw x.q.sp,ui x.q.sl,uw x.q.ap,ui x.q.al,sd x.q.key,sd x.q.hi,iw x.q.lim,ub x.q.pt,.slice x.wa x.q.ws.length x.wc,.slice x.sa x.q.sk.length x.sc,.slice x.ka x.kn x.kc] 80))):=HBr.out.trans ((al _).mono HBr.out.size);obtain⟨W5,hW5⟩:=xj (wr.alloc (.cells #[iw x.what,iw x.n,uw x.ph,iw x.q.k,ui x.q.c,ui x.q.n,uw x.q.sp,ui x.q.sl,uw x.q.ap,ui x.q.al,sd x.q.key,sd x.q.hi,iw x.q.lim,ub x.q.pt,.slice x.wa x.q.ws.length x.wc,.slice x.sa x.q.sk.length x.sc,.slice x.ka x.kn x.kc] 80));obtain⟨b5,hb5⟩:=xj wr.heap.size;have hbx:W5.heap[b5]?=some (.cells #[iw x.what,iw x.n,uw x.ph,iw x.q.k,ui x.q.c,ui x.q.n,uw x.q.sp,ui x.q.sl,uw x.q.ap,ui x.q.al,sd x.q.key,sd x.q.hi,iw x.q.lim,ub x.q.pt,.slice x.wa x.q.ws.length x.wc,.slice x.sa x.q.sk.length x.sc,.slice x.ka x.kn x.kc] 80 (0,0)):=by rw[<-hW5,<-hb5];exact heap_alloc_new wr _
   rw[hW5]at HB5;(try rw[hW5,hb5])
   clear hW5 hb5 HBr ze0;have n10:ce W5 b5 10 (sd x.q.key):=Drm.blk_cell hbx rfl;have n11:ce W5 b5 11 (sd x.q.hi):=Drm.blk_cell hbx rfl;have n14:ce W5 b5 14 (.slice x.wa x.q.ws.length x.wc):=Drm.blk_cell hbx rfl;have n15:ce W5 b5 15 (.slice x.sa x.q.sk.length x.sc):=Drm.blk_cell hbx rfl;clear hbx;generalize x.q.ws.length=lw at*;generalize x.q.sk.length=ls at*;go_upto_region 6 with fail
   obtain⟨y,hy⟩:=xj (wrap64 (z+wrap64 (wrap64 (wrap64 ((lw:Int)+wrap64 ((ls:Int)/4))+((bs x.q.key).size:Int))+((bs x.q.hi).size:Int))));rw[hy];clear hy n10 n11 n15;by_cases h1:(20000:Int)<y
   ·go_wp2_with fail;go_ret;exact⟨⟨_,rfl⟩,HB5.out⟩
   ·by_cases h2:(40:Int)<lw
    ·go_wp2_with fail;go_ret;exact⟨⟨_,rfl⟩,HB5.out⟩
    ·go_wp2_with fail;go_roundw
     case rel=>exact⟨⟨_,rfl⟩,HB5.out,m+1,by omega,by go_num⟩
     case measure=>simp[intOf];omega
  ·have hml':¬(m:Int)<L.length:=by omega
   clear hbr HA;go_wp2_with fail;go_ret;exact⟨⟨_,rfl⟩,HBr.out⟩
theorem gd_new:Gd Sd.new:=⟨⟨⟨⟨by decide,by decide⟩,by decide,by decide⟩,⟨⟨by decide,by decide⟩,by decide,by decide⟩,⟨⟨by decide,by decide⟩,by decide,by decide⟩,fun _ h=>by simp[holdF,Sd.new]at h,fun _ h=>(by cases h),fun _ h=>(by cases h)⟩,fun _ h=>(by cases h),fun _ h=>(by cases h)⟩
theorem up_new(room:Int):Up (Drm.Dr.new room):=⟨by show(-1:Int)<0;omega,rfl⟩
def DB5:Drm.Dr:=(Lgs.layF (Drm.Dr.new 500000) 0 1 []).2
theorem open5:Lgs.layF (Drm.Dr.new 500000) 0 1 []=(0,DB5):=by kernel_rfl
theorem has5(i:Int):(Drm.Dr.new 500000).has i=false:=by simp[Drm.Dr.has,Drm.Dr.new,Drm.Pt.none]
structure Dn(SA:TyS)(TA:TyT)(BA:TyB)(f:Fp)(M:Nat->Prop)(w1:World)(m:Nat)(X:Sd)(D:Drm.Dr)(W:World):Prop where
 cx:Cx SA TA BA f M w1 X 0 1 D [] W
 g:Gd X
 wt:X.wt<=16*m
 u:Up D
def DnE(SA:TyS)(TA:TyT)(BA:TyB)(w:World)(e:Ending)(w':World):Prop:=∃f M w1 X D,e=.returned (pz f.sb)/\Hid (Dn SA TA BA f M w1 50 X D w'/\(∀k,M k->w.heap.size<=k)/\Below w.heap.size w w1)
theorem done7(E:Env SA TA BA){L:List Ac}{ao:Option Addr}{cap:Nat}(h:AcsAt w (.slice ao L.length cap) L):Calls Tryz.prog 7 #[.slice ao L.length cap] w fun e w'=>DnE SA TA BA w e w':=by
 have HA:Hid (∀W,Below w.heap.size w W->∀i,i<L.length->∃b off,ao=some ⟨b,off,none⟩/\AcAt b (off+i*17) (L.getD i dac) W/\AcOk w (L.getD i dac)):=fun W hW i hi=>h.el hW hi;have hL9:L.length<9223372036854775808:=by obtain⟨_,_,e,_,h1,h2,_⟩:=h.1;injection e with _ _ e;omega
 have CN:Hid (1=1->_):=fun _=>Drm.new8 500000 w (by decide) (by decide);have CO:Hid (∀W:World,Below w.heap.size w W->Drm.DrumAt w.heap.size (Drm.Dr.new 500000) W->Calls Tryz.prog 17 #[pz w.heap.size] W fun e w'=>∃f M,e=.returned (.tuple #[pz f.sb,iw 0])/\Hid (Dn SA TA BA f M w' 0 Sd.new DB5 w'/\(∀k,M k->w.heap.size<=k)/\Below w.heap.size w w')):=fun W hb h=>by refine(open15_new E w.heap.size _ h (Drm.Dr.Ok.new 500000 (by decide) (by decide)) has5 open5 (lay_ok (Drm.Dr.Ok.new 500000 (by decide) (by decide)) _ _ _)).mono ?_;rintro e w' ⟨f,M,rfl,h1,h2,h3⟩;exact⟨f,M,rfl,⟨Cx.start h1,gd_new,Nat.zero_le _,(up_new _).lay _ _ _⟩,fun k hk=>by rw[<-h2];exact h1.lo E hk,hb.trans h3⟩
 have DB:Hid (∀f M w1 m X D W,Dn SA TA BA f M w1 m X D W->(∀k,M k->w.heap.size<=k)->Below w.heap.size w w1->Below w.heap.size w W):=fun f M w1 m X D W hd hM hb=>hb.trans (hd.cx.kp.below (B:=w.heap.size) hb.size hM);have DA:Hid (∀f M w1 m X D W W',Dn SA TA BA f M w1 m X D W->Below W.heap.size W W'->Dn SA TA BA f M w1 m X D W'):=fun f M w1 m X D W W' hd hb=>⟨hd.cx.on E hb,hd.g,hd.wt,hd.u⟩;have CH:Hid (∀f M w1 (m:Nat) X D W (x:Ac),m<50->Dn SA TA BA f M w1 m X D W->(∀k,M k->w.heap.size<=k)->Below w.heap.size w w1->AcOk w x->Calls Tryz.prog 8 #[pz f.sb,uw x.ph,rqV x.q x.wa x.wc x.sa x.sc] W fun e w'=>∃v X' D',e=.returned v/\Hid (Dn SA TA BA f M w1 (m+1) X' D' w')):=fun f M w1 m X D W x hm hd hM hb hx=>by refine(ask8 E hd.cx hM hb hd.g (by have:=hd.wt;omega) hd.u x.ph hx.ph.1 hx.ph.2 hx.q).mono ?_;rintro e w' ⟨ao,n,cap,rfl,h1,h2,-⟩;exact⟨_,_,_,rfl,h1,h2.g,by have:=h2.w;have:=hd.wt;omega,h2.u⟩
 clear h E;go_enter Tryz.func7,Tryz.ntmps7;go_wp2_with fail;refine(CN.out (by trivial)).mono ?_;rintro e w1 ⟨rfl,hd,hb1⟩;have H1:Hid (Drm.DrumAt w.heap.size (Drm.Dr.new 500000) w1/\Below w.heap.size w w1):=⟨hd,hb1⟩;clear hd hb1 CN;go_wp2_with fail;refine(CO.out _ H1.out.2 H1.out.1).mono ?_;rintro e w2 ⟨f,M,rfl,H2⟩;clear H1 CO;go_wp2_with fail;go_loopw [22] (fun i wr=>∃(m:Nat) (X:Sd) (D:Drm.Dr),m<=50/\m<=L.length/\i=iw m/\Hid (Dn SA TA BA f M w2 m X D wr)) (fun i _=>L.length-(intOf i).toNat)
 case atStart=>exact⟨0,_,_,by omega,by omega,rfl,H2.out.1⟩
 case round=>
  obtain⟨m,X,D,hm50,hm,rfl,HD⟩:=hrel;by_cases hml:m<L.length
  ·obtain⟨b,off,rfl,hat,hok⟩:=HA.out wr (DB.out _ _ _ _ _ _ _ HD.out H2.out.2.1 H2.out.2.2) m hml;have hml':(m:Int)<L.length:=by omega
   generalize L.getD m dac=x at*;have HOK:Hid (AcOk w x):=hok;have ze0:=hat.all;clear HA hat hok;go_upto_region 8 with fail
   have HD5:Hid (Dn SA TA BA f M w2 m X D (wr.alloc (.cells #[iw x.what,iw x.n,uw x.ph,iw x.q.k,ui x.q.c,ui x.q.n,uw x.q.sp,ui x.q.sl,uw x.q.ap,ui x.q.al,sd x.q.key,sd x.q.hi,iw x.q.lim,ub x.q.pt,.slice x.wa x.q.ws.length x.wc,.slice x.sa x.q.sk.length x.sc,.slice x.ka x.kn x.kc] 80))):=DA.out _ _ _ _ _ _ _ _ HD.out (al _);obtain⟨W5,hW5⟩:=xj (wr.alloc (.cells #[iw x.what,iw x.n,uw x.ph,iw x.q.k,ui x.q.c,ui x.q.n,uw x.q.sp,ui x.q.sl,uw x.q.ap,ui x.q.al,sd x.q.key,sd x.q.hi,iw x.q.lim,ub x.q.pt,.slice x.wa x.q.ws.length x.wc,.slice x.sa x.q.sk.length x.sc,.slice x.ka x.kn x.kc] 80));obtain⟨b5,hb5⟩:=xj wr.heap.size;have hbx:W5.heap[b5]?=some (.cells #[iw x.what,iw x.n,uw x.ph,iw x.q.k,ui x.q.c,ui x.q.n,uw x.q.sp,ui x.q.sl,uw x.q.ap,ui x.q.al,sd x.q.key,sd x.q.hi,iw x.q.lim,ub x.q.pt,.slice x.wa x.q.ws.length x.wc,.slice x.sa x.q.sk.length x.sc,.slice x.ka x.kn x.kc] 80 (0,0)):=by rw[<-hW5,<-hb5];exact heap_alloc_new wr _
   rw[hW5]at HD5;(try rw[hW5,hb5])
   clear hW5 hb5 HD ze0;have n0:ce W5 b5 0 (iw x.what):=Drm.blk_cell hbx rfl;by_cases h50:m=50
   ·subst h50;clear hbx;go_wp2_with fail;go_ret;exact⟨f,M,w2,X,D,rfl,HD5.out,H2.out.2.1,H2.out.2.2⟩
   ·have h51:((m:Int)==50)=false:=by rw[beq_eq_false_iff_ne];omega
    by_cases hw:x.what=0
    ·have HC:Hid (∀W,Dn SA TA BA f M w2 m X D W->Calls Tryz.prog 8 #[pz f.sb,uw x.ph,rqV x.q x.wa x.wc x.sa x.sc] W fun e w'=>∃v X' D',e=.returned v/\Hid (Dn SA TA BA f M w2 (m+1) X' D' w')):=fun W hd=>CH.out _ _ _ _ _ _ _ _ (by omega) hd H2.out.2.1 H2.out.2.2 HOK.out;have n2:ce W5 b5 2 (uw x.ph):=Drm.blk_cell hbx rfl;have n3:ce W5 b5 3 (iw x.q.k):=Drm.blk_cell hbx rfl;have n4:ce W5 b5 4 (ui x.q.c):=Drm.blk_cell hbx rfl;have n5:ce W5 b5 5 (ui x.q.n):=Drm.blk_cell hbx rfl;have n6:ce W5 b5 6 (uw x.q.sp):=Drm.blk_cell hbx rfl;have n7:ce W5 b5 7 (ui x.q.sl):=Drm.blk_cell hbx rfl;have n8:ce W5 b5 8 (uw x.q.ap):=Drm.blk_cell hbx rfl;have n9:ce W5 b5 9 (ui x.q.al):=Drm.blk_cell hbx rfl;have n10:ce W5 b5 10 (sd x.q.key):=Drm.blk_cell hbx rfl;have n11:ce W5 b5 11 (sd x.q.hi):=Drm.blk_cell hbx rfl;have n12:ce W5 b5 12 (iw x.q.lim):=Drm.blk_cell hbx rfl;have n13:ce W5 b5 13 (ub x.q.pt):=Drm.blk_cell hbx rfl;have n14:ce W5 b5 14 (.slice x.wa x.q.ws.length x.wc):=Drm.blk_cell hbx rfl;have n15:ce W5 b5 15 (.slice x.sa x.q.sk.length x.sc):=Drm.blk_cell hbx rfl;rw[hw]at n0;clear hbx CH DA HOK;go_wp2_with fail;refine(HC.out _ HD5.out).mono ?_;rintro e w6 ⟨v,X',D',rfl,HD6⟩;clear n0 n2 n3 n4 n5 n6 n7 n8 n9 n10 n11 n12 n13 n14 n15 HC HD5;go_wp2_with fail;go_roundw
     case rel=>exact⟨m+1,X',D',by omega,by omega,by go_num,HD6⟩
     case measure=>simp[intOf];omega
    ·have hw':(x.what==0)=false:=by rw[beq_eq_false_iff_ne];exact hw
     clear hbx CH HOK;go_wp2_with fail;go_roundw
     case rel=>exact⟨m+1,X,D,by omega,by omega,by go_num,HD5.out.cx,HD5.out.g,by have:=HD5.out.wt;omega,HD5.out.u⟩
     case measure=>simp[intOf];omega
  ·have hml':¬(m:Int)<L.length:=by omega
   clear HA;go_wp2_with fail;go_ret;exact⟨f,M,w2,X,D,rfl,⟨HD.out.cx,HD.out.g,by have:=HD.out.wt;omega,HD.out.u⟩,H2.out.2.1,H2.out.2.2⟩
end Go.Proofs.YtdplfgcoaddbdaaGreat
