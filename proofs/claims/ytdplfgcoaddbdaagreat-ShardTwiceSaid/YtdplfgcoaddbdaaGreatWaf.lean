import Derived.Test.YtdplfgcoaddbdaaGreatWae
set_option maxHeartbeats 4000000
set_option maxRecDepth 100000
set_option linter.unusedVariables false
set_option linter.unusedSimpArgs false
namespace Go.Proofs.YtdplfgcoaddbdaaGreat.Sto
open Go.RowKit Go.Sort
structure Veil(p:Prop):Prop where
 out:p
theorem vq_step{P:Program}{ops:Array Oper}{C:World->Prop}{Q:Act->Prop}{a:Act}{o:Oper}{rest:List Oper}
  (h:∀K:Act->Prop,(∀a,Veil (wpQuiet P ops C Q rest a)->K a)->if Region.wanted o (yielded ops a.tmps)then o.quiet P a C K else K (a.put o.dst undef)):Veil (wpQuiet P ops C Q (o::rest) a):=
 ⟨wpQuiet_step fun K hK=>h K fun a ha=>hK a ha.out⟩
theorem vq_nil{P:Program}{ops:Array Oper}{C:World->Prop}{Q:Act->Prop}{a:Act}(h:Q a):Veil (wpQuiet P ops C Q [] a):=⟨wpQuiet_nil h⟩
def stepB(C:List Ve)(i:Nat):Bool:=vOk (C.getD i dv)&&(i==0||ltS (C.getD i dv).p (C.getD i dv).l (C.getD (i-1) dv))
theorem okFrom_idx:∀(C:List Ve) (u:Ve),okFrom (some u) C=true↔∀i,i<C.length->stepB (u::C) (i+1)=true
 |[],u=>by simp[okFrom]
 |v::r,u=>by
  unfold okFrom;rw[Bool.and_eq_true,okFrom_idx r v];constructor
  ·rintro⟨h1,h2⟩ i hi;cases i with
   |zero=>simpa[stepB]using h1
   |succ i=>
    have:=h2 i (by simpa using hi);simpa[stepB]using this
  ·intro h;refine⟨by simpa[stepB]using h 0 (by simp),fun i hi=>?_⟩;have:=h (i+1) (by simpa using hi);simpa[stepB]using this
theorem rightC_idx{C:List Ve}(hl:C.length<=1000):rightC C=true↔∀i,i<C.length->stepB C i=true:=by
 unfold rightC;rw[Bool.and_eq_true,decide_eq_true_eq];cases C with
 |nil=>simp[okFrom]
 |cons v r=>
  unfold okFrom;rw[Bool.and_eq_true,okFrom_idx];constructor
  ·rintro⟨⟨h1,h2⟩,_⟩ i hi;cases i with
   |zero=>simpa[stepB]using h1
   |succ i=>exact h2 i (by simpa using hi)
  ·intro h;exact⟨⟨by simpa[stepB]using h 0 (by simp),fun i hi=>h (i+1) (by simpa using hi)⟩,hl⟩
theorem right12(B:Nat)(C:List Ve)(v:Value)(w:World)(hv:VsAt B v C w)(hB:B<=w.heap.size):
  Calls Tryz.prog 196 #[v] w fun e w'=>e=.returned (.bool (rightC C))/\Below w.heap.size w w':=by
 obtain⟨ao,cap,rfl,hlc,hcm,hx⟩:=hv;obtain⟨r,hr⟩:=xj (rightC C);rw[hr];have HR:Hid _:=hr;have HX:Hid _:=hx;have HB:Hid _:=hB;have HC:Hid _:=hlc;have HM:Hid _:=hcm;clear hr hx hB hlc hcm;by_cases hlen:C.length<=1000
 ·have HI:Hid (rightC C=true↔∀i,i<C.length->stepB C i=true):=rightC_idx hlen;have hlen':¬(1000<(C.length:Int)):=by omega
  go_enter Tryz.func196,Tryz.ntmps196;go_wp2_with fail;go_loopw [10] (fun i wr=>∃k:Nat,k<=C.length/\i=iw k/\(∀j,j<k->stepB C j=true)/\Below w.heap.size w wr) (fun i _=>C.length-(intOf i).toNat)
  case atStart=>exact⟨0,Nat.zero_le _,rfl,fun j hj=>absurd hj (by omega),Below.refl _ _⟩
  case round=>
   obtain⟨k,hk,rfl,hall,hbr⟩:=hrel;have HE:Hid _:=hall;clear hall;by_cases hkl:k<C.length
   ·obtain⟨b,off,rfl,hb,hc⟩:=HX.out (by have:=HC.out;omega);have hbw:b<w.heap.size:=Nat.lt_of_lt_of_le (hb (by omega)) HB.out;have HCk:Hid (∀i,i<C.length->VeAt wr b (off+i*6) (C.getD i dv)):=fun i hi=>(hc i hi).on hbr hbw;have HK:Hid (stepB C k=true->∀j,j<k+1->stepB C j=true):=fun h j hj=>by
     by_cases hjk:j=k
     ·subst hjk;exact h
     ·exact HE.out j (by omega)
    have HN:Hid (stepB C k=false->r=false):=fun h=>by rw[<-HR.out];rw[Bool.eq_false_iff];intro h2;rw[HI.out.1 h2 k hkl]at h;cases h
    have HSt:Hid (stepB C k=(vOk (C.getD k dv)&&(k==0||ltS (C.getD k dv).p (C.getD k dv).l (C.getD (k-1) dv)))):=rfl;obtain⟨st,hst⟩:=xj (stepB C k);rw[hst]at HK HN HSt;clear hst;have hck:=HCk.out k hkl;clear hc hb;have hkl':(k:Int)<C.length:=by omega
    have hbr':b<wr.heap.size:=by have:=hbr.size;omega
    by_cases hk0:k=0
    ·subst hk0;clear HCk;have HS2:Hid (st=vOk (C.getD 0 dv)):=by rw[HSt.out];show _=_;simp
     clear HSt;generalize C.getD 0 dv=x at hck HS2;obtain⟨xp,xl,xc,xn,xs,xd⟩:=x;obtain⟨e0,e1,e2,e3,e4,e5⟩:=hck;dsimp only at e0 e1 e2 e3 e4 e5;simp only[Nat.zero_mul,Nat.add_zero]at e0 e1 e2 e3 e4 e5;go_wp2_with fail;obtain⟨w4,hw4⟩:∃w4,w4=wr.alloc (.cells #[uw xp,ui xl,ui xc,ui xn,sd xs,.bool xd] 120):=⟨_,rfl⟩;have hv4:VeAt w4 wr.heap.size 0 ⟨xp,xl,xc,xn,xs,xd⟩:=by rw[hw4];exact⟨by simp[go_sem],by simp[go_sem],by simp[go_sem],by simp[go_sem],by simp[go_sem],by simp[go_sem],_,_,heap_alloc_new wr _⟩
     have H4:Hid (Below w.heap.size w w4):=by rw[hw4];exact hbr.alloc hbr.size _
     rw[<-hw4];clear hw4 e0 e1 e2 e3 e4 e5;obtain⟨e0,e1,e2,e3,e4,e5⟩:=hv4;dsimp only at e0 e1 e2 e3 e4 e5;simp only[Nat.zero_add]at e1 e2 e3 e4 e5;have g0:=cell_regrown e0;have g1:=cell_regrown e1;have g2:=cell_regrown e2;have g3:=cell_regrown e3;have g4:=cell_regrown e4;have g5:=cell_regrown e5;have cA:Hid (∀d os,Calls Tryz.prog 237 #[.agg #[uw xp,ui xl,ui xc,ui xn,sd xs,.bool xd]] (grow (redrawn w4 d) os) fun e w''=>e=.returned (.bool st)/\∃p:Regrown,w''=grow (redrawn w4 p.d) p.os):=fun d os=>Calls.regrown_of (by rw[HS2.out];exact fits20 ⟨xp,xl,xc,xn,xs,xd⟩ _);clear HS2;cases st
     all_goals
      refine wp_region_quiet_below (by kernel_rfl) (by kernel_rfl) (Veil.out ?_);repeat (refine vq_step (fun K hK=>?_);go_simp;refine hK _ ?_;clear hK K)
      (refine vq_step (fun K hK=>?_);go_simp;apply Exists.intro;refine⟨fun _=>?_,hK _ ?_⟩;exact cA.out _ _;clear hK K)
      repeat (refine vq_step (fun K hK=>?_);go_simp;refine hK _ ?_;clear hK K)
      refine vq_nil ?_;intro _ hw';obtain⟨⟨dq,osq⟩,hw''⟩:=hw';subst hw'';have H5:Hid (Below w.heap.size w (grow (redrawn w4 dq) osq)):=H4.out.trans ((below_regrown w4 dq osq).mono H4.out.size)
     ·have HX2:Hid _:=HN.out rfl;go_wp2;go_ret;rw[HX2.out];exact⟨rfl,H5.out⟩
     ·have HX2:Hid _:=HK.out rfl;go_wp2;go_roundw
      case rel=>exact⟨1,by omega,by go_num,HX2.out,H5.out⟩
      case measure=>simp[intOf];omega
    ·have hck2:=HCk.out (k-1) (by omega);clear HCk;have HS2:Hid (st=(vOk (C.getD k dv)&&ltS (C.getD k dv).p (C.getD k dv).l (C.getD (k-1) dv))):=by rw[HSt.out,show(k==0)=false from by simp[hk0]];show _=_;simp
     clear HSt;generalize C.getD k dv=x at hck HS2;generalize C.getD (k-1) dv=y at hck2 HS2;obtain⟨k1,hk1⟩:∃k1:Nat,k=k1+1:=⟨k-1,by omega⟩;subst hk1;clear hk0;simp only[Nat.add_sub_cancel]at hck2;obtain⟨xp,xl,xc,xn,xs,xd⟩:=x;obtain⟨yp,yl,yc,yn,ys,yd⟩:=y;have hck2':=hck2.on ((Below.refl wr.heap.size wr).alloc (Nat.le_refl _) (.cells #[uw xp,ui xl,ui xc,ui xn,sd xs,.bool xd] 120)) hbr';clear hck2;obtain⟨e0,e1,e2,e3,e4,e5⟩:=hck;dsimp only at e0 e1 e2 e3 e4 e5;go_wp2_with fail;obtain⟨w4,hw4⟩:∃w4,w4=wr.alloc (.cells #[uw xp,ui xl,ui xc,ui xn,sd xs,.bool xd] 120):=⟨_,rfl⟩;have hv4:VeAt w4 wr.heap.size 0 ⟨xp,xl,xc,xn,xs,xd⟩:=by rw[hw4];exact⟨by simp[go_sem],by simp[go_sem],by simp[go_sem],by simp[go_sem],by simp[go_sem],by simp[go_sem],_,_,heap_alloc_new wr _⟩
     have H4:Hid (Below w.heap.size w w4):=by rw[hw4];exact hbr.alloc hbr.size _
     rw[<-hw4]at hck2'|-;clear hw4 e0 e1 e2 e3 e4 e5;obtain⟨e0,e1,e2,e3,e4,e5⟩:=hv4;dsimp only at e0 e1 e2 e3 e4 e5;simp only[Nat.zero_add]at e1 e2 e3 e4 e5;have g0:=cell_regrown e0;have g1:=cell_regrown e1;have g2:=cell_regrown e2;have g3:=cell_regrown e3;have g4:=cell_regrown e4;have g5:=cell_regrown e5;have m0:=cell_regrown hck2'.c0;have m1:=cell_regrown hck2'.c1;clear hck2' e0 e1 e2 e3 e4 e5;dsimp only at m0 m1;obtain⟨s1,hs1⟩:=xj (vOk ⟨xp,xl,xc,xn,xs,xd⟩);obtain⟨s2,hs2⟩:=xj (lessB xp xl yp yl);have HS3:Hid (st=(s1&&s2)):=by rw[HS2.out,<-hs1,<-hs2];exact rfl
     have cA:Hid (∀d os,Calls Tryz.prog 237 #[.agg #[uw xp,ui xl,ui xc,ui xn,sd xs,.bool xd]] (grow (redrawn w4 d) os) fun e w''=>e=.returned (.bool s1)/\∃p:Regrown,w''=grow (redrawn w4 p.d) p.os):=fun d os=>Calls.regrown_of (by rw[<-hs1];exact fits20 ⟨xp,xl,xc,xn,xs,xd⟩ _);have cB:Hid (∀d os,Calls Tryz.prog 87 #[.agg #[uw xp,ui xl],.agg #[uw yp,ui yl]] (grow (redrawn w4 d) os) fun e w''=>e=.returned (.bool s2)/\∃p:Regrown,w''=grow (redrawn w4 p.d) p.os):=fun d os=>Calls.regrown_of (by rw[<-hs2];exact lessP _ _ _ _ _);clear HS2 hs1 hs2;have hkk:¬((k1+1:Int)<=0):=by omega
     have hk2:((k1+1:Nat):Int)>0:=by omega
     have hkm:IntKind.i64.wrap (k1:Int)=k1:=by simp[IntKind.wrap,IntKind.signed,IntKind.bits];omega
     have hkm2:(k1:Int)<C.length:=by omega
     cases s1
     ·refine wp_region_quiet_below (by kernel_rfl) (by kernel_rfl) (Veil.out ?_);repeat (refine vq_step (fun K hK=>?_);go_simp;refine hK _ ?_;clear hK K)
      (refine vq_step (fun K hK=>?_);go_simp;apply Exists.intro;refine⟨fun _=>?_,hK _ ?_⟩;exact cA.out _ _;clear hK K)
      repeat (refine vq_step (fun K hK=>?_);go_simp;refine hK _ ?_;clear hK K)
      refine vq_nil ?_;intro _ hw';obtain⟨⟨dq,osq⟩,hw''⟩:=hw';subst hw'';have H5:Hid (Below w.heap.size w (grow (redrawn w4 dq) osq)):=H4.out.trans ((below_regrown w4 dq osq).mono H4.out.size);have HX2:Hid _:=HN.out (by rw[HS3.out];rfl);go_wp2;go_ret;rw[HX2.out];exact⟨rfl,H5.out⟩
     ·cases s2
      all_goals
       refine wp_region_quiet_below (by kernel_rfl) (by kernel_rfl) (Veil.out ?_);repeat (refine vq_step (fun K hK=>?_);go_simp;refine hK _ ?_;clear hK K)
       (refine vq_step (fun K hK=>?_);go_simp;apply Exists.intro;refine⟨fun _=>?_,hK _ ?_⟩;exact cA.out _ _;clear hK K)
       repeat (refine vq_step (fun K hK=>?_);go_simp;refine hK _ ?_;clear hK K)
       (refine vq_step (fun K hK=>?_);go_simp;apply Exists.intro;refine⟨fun _=>?_,hK _ ?_⟩;exact cB.out _ _;clear hK K)
       repeat (refine vq_step (fun K hK=>?_);go_simp;refine hK _ ?_;clear hK K)
       refine vq_nil ?_;intro _ hw';obtain⟨⟨dq,osq⟩,hw''⟩:=hw';subst hw'';have H5:Hid (Below w.heap.size w (grow (redrawn w4 dq) osq)):=H4.out.trans ((below_regrown w4 dq osq).mono H4.out.size)
      ·have HX2:Hid _:=HN.out (by rw[HS3.out];rfl);go_wp2;go_ret;rw[HX2.out];exact⟨rfl,H5.out⟩
      ·have HX2:Hid _:=HK.out (by rw[HS3.out];rfl);go_wp2;go_roundw
       case rel=>exact⟨k1+1+1,by omega,by go_num,HX2.out,H5.out⟩
       case measure=>simp[intOf];omega
   ·have hkl':¬(k:Int)<C.length:=by omega
    have HX2:Hid (r=true):=by show _=_;rw[<-HR.out];exact HI.out.2 fun i hi=>HE.out i (by omega)
    go_wp2;go_ret;rw[HX2.out];exact⟨rfl,hbr⟩
 ·have hlen':1000<(C.length:Int):=by omega
  have HX2:Hid (r=false):=by show _=_;rw[<-HR.out];unfold rightC;rw[decide_eq_false hlen];simp
  go_enter Tryz.func196,Tryz.ntmps196;go_wp2;go_ret;rw[HX2.out];exact⟨rfl,Below.refl _ _⟩
theorem VsAt.el{B:Nat}{ao:Option Addr}{cap:Nat}{C:List Ve}{w:World}{k:Nat}(h:VsAt B (.slice ao C.length cap) C w)(hk:k<C.length):∃b off,ao=some ⟨b,off,none⟩/\b<B/\VeAt w b (off+k*6) (C.getD k dv):=by obtain⟨ao',cap',e,hl,hm,h⟩:=h;simp only[Value.slice.injEq]at e;obtain⟨rfl,_,rfl⟩:=e;obtain⟨b,off,rfl,hb,hc⟩:=h (by omega);exact⟨b,off,rfl,hb (by omega),hc k hk⟩
theorem VsAt.take{B:Nat}{ao:Option Addr}{cap:Nat}{C:List Ve}{w:World}(h:VsAt B (.slice ao C.length cap) C w){k:Nat}(hk:k<=C.length):VsAt B (.slice ao k cap) (C.take k) w:=by
 obtain⟨ao',cap',e,hl,hm,h⟩:=h;simp only[Value.slice.injEq]at e;obtain⟨rfl,_,rfl⟩:=e;have hlen:(C.take k).length=k:=by simp;omega
 refine⟨ao,cap,by rw[hlen],by omega,hm,fun h0=>?_⟩;obtain⟨b,off,rfl,hb,hc⟩:=h h0;refine⟨b,off,rfl,fun h1=>hb (by omega),fun i hi=>?_⟩;have e:(C.take k).getD i dv=C.getD i dv:=by simp[List.getD,show i<k by omega]
 rw[e];exact hc i (by omega)
theorem VsAt.drop{B:Nat}{ao:Option Addr}{cap:Nat}{C:List Ve}{w:World}(h:VsAt B (.slice ao C.length cap) C w){k:Nat}(hk:k<=C.length):VsAt B (.slice (if cap=k then ao else ao.map (·.add (k*6))) (C.length-k) (cap-k)) (C.drop k) w:=by
 obtain⟨ao',cap',e,hl,hm,h⟩:=h;simp only[Value.slice.injEq]at e;obtain⟨rfl,_,rfl⟩:=e;have hlen:(C.drop k).length=C.length-k:=by simp
 refine⟨_,cap-k,by rw[hlen],by omega,by omega,fun h0=>?_⟩;obtain⟨b,off,rfl,hb,hc⟩:=h (by omega);clear h;refine⟨b,off+k*6,?_,fun h1=>hb (by omega),fun i hi=>?_⟩
 ·rw[if_neg (by omega)];simp[Addr.add]
 ·have e:(C.drop k).getD i dv=C.getD (k+i) dv:=by simp[List.getD]
  rw[e];have:=hc (k+i) (by omega);rw[show off+k*6+i*6=off+(k+i)*6 from by omega];exact this
theorem putF_bad{C:List Ve}{x:Ve}(h:(rightC C&&vOk x)=false):putF C x=([],1):=by unfold putF;rw[h];rfl
theorem putF_has{C:List Ve}{x u:Ve}(h:(rightC C&&vOk x)=true)(hu:C[seenN x.p x.l C]?=some u)(ha:atB u x=true)(he:eqV u x=true):putF C x=(C,0):=by unfold putF;rw[h,if_pos rfl,insF_seen,hu];simp[ha,he]
theorem putF_busy{C:List Ve}{x u:Ve}(h:(rightC C&&vOk x)=true)(hu:C[seenN x.p x.l C]?=some u)(ha:atB u x=true)(he:eqV u x=false):putF C x=([],40):=by unfold putF;rw[h,if_pos rfl,insF_seen,hu];simp[ha,he]
theorem putF_else{C:List Ve}{x:Ve}(h:(rightC C&&vOk x)=true)(hu:∀u,C[seenN x.p x.l C]?=some u->atB u x=false):putF C x=if 1000<=C.length then([],3)else(C.take (seenN x.p x.l C)++x::C.drop (seenN x.p x.l C),0):=by
 unfold putF;rw[h,if_pos rfl,insF_seen];cases hc:C[seenN x.p x.l C]?with
 |none=>
  have hk:=List.getElem?_eq_none_iff.1 hc;rw[List.take_of_length_le hk,List.drop_eq_nil_of_le hk];simp
 |some u=>
  have hk:=seenN_le x.p x.l C;have hl:C.length<(C.take (seenN x.p x.l C)++x::C.drop (seenN x.p x.l C)).length:=by simp;omega
  simp only[hu u hc,Bool.false_eq_true,if_false];by_cases h2:1000<=C.length
  ·rw[if_pos ⟨hl,h2⟩,if_pos h2]
  ·rw[if_neg (fun h=>h2 h.2),if_neg h2]
theorem again22(B:Nat)(C:List Ve)(v:Value)(k:Nat)(x:Ve)(w:World)(hv:VsAt B v C w)(hB:B<=w.heap.size)(hk:k<C.length)(hl:C.length<=1048576):
  Calls Tryz.prog 240 #[v,iw k,veV x] w fun e w'=>∃v',e=.returned (.tuple #[v',iw (if eqV (C.getD k dv) x then 0 else 40)])/\VsAt w'.heap.size v' (if eqV (C.getD k dv) x then C else[]) w'/\Below w.heap.size w w':=by
 have hv':=hv;obtain⟨ao,cap,rfl,hlc,hcm,-⟩:=hv;obtain⟨b,off,rfl,hb,hck⟩:=hv'.el hk;have H:Hid (VsAt B (.slice (some ⟨b,off,none⟩) C.length cap) C w):=hv';have HL:Hid _:=hl;have HB:Hid _:=hB;have hbw:b<w.heap.size:=by omega
 clear hv' hl hB hlc hcm hb;generalize C.getD k dv=y at hck|-;obtain⟨xp,xl,xc,xn,xs,xd⟩:=x;obtain⟨yp,yl,yc,yn,ys,yd⟩:=y;obtain⟨e0,e1,e2,e3,e4,e5⟩:=hck;dsimp only at e0 e1 e2 e3 e4 e5;unfold veV;dsimp only;have hrun:=run_neq30 yp yl yc yn ys yd xp xl xc xn xs xd;obtain⟨z,hz⟩:=xj (eqV ⟨yp,yl,yc,yn,ys,yd⟩ ⟨xp,xl,xc,xn,xs,xd⟩);rw[hz]at hrun|-;clear hz;have hkl:(k:Int)<C.length:=by omega
 cases z
 ·go_enter Tryz.func240,Tryz.ntmps240;go_wp2_with fail
  go_quiet (fail)
  go_wp2;refine bodyPost_ret (v:=.tuple #[sy,iw 40]) (by simp[results,Tryz.results240,go_sem]) rfl ?_;exact⟨_,rfl,vs_nil _ _,below_drewN ((Below.refl _ _).alloc (Nat.le_refl _) _) _⟩
 ·go_enter Tryz.func240,Tryz.ntmps240;go_wp2_with fail
  go_quiet (fail)
  rename_i nq;have HW:Hid (Below w.heap.size w ((w.alloc (.cells #[uw xp,ui xl,ui xc,ui xn,sd xs,.bool xd] 120)).drewN nq)):=below_drewN ((Below.refl _ _).alloc (Nat.le_refl _) _) _;go_wp2_with fail;refine(clone27 w.heap.size C _ _ ((H.out.le HB.out).on HW.out) HW.out.size HL.out).mono ?_;rintro e w2 ⟨v',rfl,hv2,hb2⟩;have H2:Hid (VsAt w2.heap.size v' C w2/\Below w.heap.size w w2):=⟨hv2,HW.out.trans (hb2.mono HW.out.size)⟩;clear hv2 hb2;go_wp2;refine bodyPost_ret (v:=.tuple #[v',iw 0]) (by simp[results,Tryz.results240,go_sem]) rfl ?_;exact⟨_,rfl,H2.out.1,H2.out.2⟩
theorem VeAt.six{w:World}{b:Nat}{p l c n:Int}{s:List UInt8}{d:Bool}(h:VeAt w b 0 ⟨p,l,c,n,s,d⟩):w.cell? ⟨b,0,none⟩=some (uw p)/\w.cell? ⟨b,1,none⟩=some (ui l)/\w.cell? ⟨b,2,none⟩=some (ui c)/\w.cell? ⟨b,3,none⟩=some (ui n)/\w.cell? ⟨b,4,none⟩=some (sd s)/\w.cell? ⟨b,5,none⟩=some (.bool d):=by obtain⟨e0,e1,e2,e3,e4,e5⟩:=h;dsimp only at e0 e1 e2 e3 e4 e5;simp only[Nat.zero_add]at e1 e2 e3 e4 e5;exact⟨e0,e1,e2,e3,e4,e5⟩
theorem ve_new(w:World)(p l c n:Int)(s:List UInt8)(d:Bool):VeAt (w.alloc (.cells #[uw p,ui l,ui c,ui n,sd s,.bool d] 120)) w.heap.size 0 ⟨p,l,c,n,s,d⟩:=
 ⟨by simp[go_sem],by simp[go_sem],by simp[go_sem],by simp[go_sem],by simp[go_sem],by simp[go_sem],_,_,heap_alloc_new w _⟩
structure Bx(w:World)(bx:Nat)(x:Ve)(W:World):Prop where
 box:VeAt W bx 0 x
 bel:Below w.heap.size w W
theorem Bx.on{w W W':World}{bx:Nat}{x:Ve}(h:Bx w bx x W)(hb:Below W.heap.size W W'):Bx w bx x W':=
 ⟨h.box.on hb (World.block_lt_of_cell? _ _ h.box.c0),h.bel.trans (hb.mono h.bel.size)⟩
theorem Bx.dr{w W:World}{bx:Nat}{x:Ve}(h:Bx w bx x W):Bx w bx x W.drew:=h.on (Below.refl _ _).drew
theorem Bx.s7{w W:World}{bx:Nat}{p l c n:Int}{s:List UInt8}{d:Bool}(h:Bx w bx ⟨p,l,c,n,s,d⟩ W):W.cell? ⟨bx,0,none⟩=some (uw p)/\W.cell? ⟨bx,1,none⟩=some (ui l)/\W.cell? ⟨bx,2,none⟩=some (ui c)/\W.cell? ⟨bx,3,none⟩=some (ui n)/\W.cell? ⟨bx,4,none⟩=some (sd s)/\W.cell? ⟨bx,5,none⟩=some (.bool d)/\Hid (Bx w bx ⟨p,l,c,n,s,d⟩ W):=
 ⟨h.box.six.1,h.box.six.2.1,h.box.six.2.2.1,h.box.six.2.2.2.1,h.box.six.2.2.2.2.1,h.box.six.2.2.2.2.2,h⟩
theorem vs_one(w:World)(p l c n:Int)(s:List UInt8)(d:Bool):VsAt (w.heap.size+1) (.slice (some ⟨w.heap.size,0,none⟩) 1 1) [⟨p,l,c,n,s,d⟩] (w.alloc (.cells #[uw p,ui l,ui c,ui n,sd s,.bool d] 120)):=by
 refine⟨_,1,rfl,Nat.le_refl _,by omega,fun _=>⟨w.heap.size,0,rfl,fun _=>Nat.lt_succ_self _,fun i hi=>?_⟩⟩;have hi0:i=0:=by simpa using hi
 subst hi0;exact ve_new w p l c n s d
theorem cat3(w W:World)(bx:Nat)(p l c n:Int)(s:List UInt8)(d:Bool)(C:List Ve)(ao:Option Addr)(vg:Value)(cap k:Nat)(hW:Bx w bx ⟨p,l,c,n,s,d⟩ W)(hv:VsAt w.heap.size (.slice ao C.length cap) C w)(hg:VsAt w.heap.size vg (C.drop k) w)(hk:k<=C.length)(hl:C.length<=1000):
  Calls Tryz.prog 241 #[.slice (some ⟨W.heap.size+1,0,none⟩) 3 3] ((W.alloc (.cells #[uw p,ui l,ui c,ui n,sd s,.bool d] 120)).alloc (.cells #[.slice ao k cap,.slice (some ⟨W.heap.size,0,none⟩) 1 1,vg] 63)).drew fun e w'=>∃v',e=.returned v'/\VsAt w'.heap.size v' (C.take k++⟨p,l,c,n,s,d⟩::C.drop k) w'/\Bx w bx ⟨p,l,c,n,s,d⟩ w':=by
 have b1:Below W.heap.size W (W.alloc (.cells #[uw p,ui l,ui c,ui n,sd s,.bool d] 120)):=(Below.refl _ _).alloc (Nat.le_refl _) _;have hone:=vs_one W p l c n s d;obtain⟨W1,hW1⟩:∃W1,W1=W.alloc (.cells #[uw p,ui l,ui c,ui n,sd s,.bool d] 120):=⟨_,rfl⟩;rw[<-hW1]at b1 hone|-;have hs1:W1.heap.size=W.heap.size+1:=by rw[hW1];simp
 clear hW1;obtain⟨W2,hW2⟩:∃W2,W2=(W1.alloc (.cells #[.slice ao k cap,.slice (some ⟨W.heap.size,0,none⟩) 1 1,vg] 63)).drew:=⟨_,rfl⟩;have b2:Below W1.heap.size W1 W2:=by rw[hW2];exact((Below.refl _ _).alloc (Nat.le_refl _) _).drew
 have hc0:W2.cell? ⟨W.heap.size+1,0,none⟩=some (.slice ao k cap):=by rw[hW2,<-hs1];simp[go_sem]
 have hc1:W2.cell? ⟨W.heap.size+1,1,none⟩=some (.slice (some ⟨W.heap.size,0,none⟩) 1 1):=by rw[hW2,<-hs1];simp[go_sem]
 have hc2:W2.cell? ⟨W.heap.size+1,2,none⟩=some vg:=by rw[hW2,<-hs1];simp[go_sem]
 rw[<-hW2];clear hW2;have hs:=hW.bel.size;have b3:Below W.heap.size W W2:=b1.trans (b2.mono (by omega));have h0:VsAt (W.heap.size+1) (.slice ao k cap) (C.take k) W2:=(((hv.on hW.bel).take hk).le hs |>.on b3).le (by omega);have h1:VsAt (W.heap.size+1) (.slice (some ⟨W.heap.size,0,none⟩) 1 1) [⟨p,l,c,n,s,d⟩] W2:=hone.on (b2.mono (by omega));have h2:VsAt (W.heap.size+1) vg (C.drop k) W2:=((hg.on hW.bel).le hs |>.on b3).le (by omega);have hcat:cat [(.slice ao k cap,C.take k),(.slice (some ⟨W.heap.size,0,none⟩) 1 1,[⟨p,l,c,n,s,d⟩]),(vg,C.drop k)]=C.take k++⟨p,l,c,n,s,d⟩::C.drop k:=by simp[cat]
 refine(concat23 (W.heap.size+1) (W.heap.size+1) [(.slice ao k cap,C.take k),(.slice (some ⟨W.heap.size,0,none⟩) 1 1,[⟨p,l,c,n,s,d⟩]),(vg,C.drop k)] W2 ?_ ?_ (World.block_lt_of_cell? _ _ hc0) (by have:=b2.size;omega) (by rw[hcat];simp;omega) (by simp)).mono ?_
 ·intro i hi;match i,hi with
  |0,_=>exact hc0
  |1,_=>exact hc1
  |2,_=>exact hc2
 ·intro i hi;match i,hi with
  |0,_=>exact h0
  |1,_=>exact h1
  |2,_=>exact h2
 ·rintro e w' ⟨v',rfl,hv',hb'⟩;rw[hcat]at hv';exact⟨v',rfl,hv',(hW.on b3).on hb'⟩
theorem put8(B:Nat)(C:List Ve)(v:Value)(x:Ve)(w:World)(hv:VsAt B v C w)(hB:B<=w.heap.size):
  Calls Tryz.prog 201 #[v,veV x] w fun e w'=>∃v',e=.returned (.tuple #[v',iw (putF C x).2])/\VsAt w'.heap.size v' (putF C x).1 w'/\Below w.heap.size w w':=by
 have hv':=hv;obtain⟨ao,cap,rfl,hlc,hcm,-⟩:=hv;have H:Hid (VsAt w.heap.size (.slice ao C.length cap) C w):=hv'.le hB;clear hv' hB;have HSn:Hid (seenN x.p x.l C<=C.length):=seenN_le _ _ _;have HP1:Hid ((rightC C&&vOk x)=false->putF C x=([],1)):=putF_bad;have HP2:Hid (∀u,(rightC C&&vOk x)=true->C[seenN x.p x.l C]?=some u->atB u x=true->eqV u x=true->putF C x=(C,0)):=fun u h1 h2 h3 h4=>putF_has h1 h2 h3 h4;have HP3:Hid (∀u,(rightC C&&vOk x)=true->C[seenN x.p x.l C]?=some u->atB u x=true->eqV u x=false->putF C x=([],40)):=fun u h1 h2 h3 h4=>putF_busy h1 h2 h3 h4;have HP4:Hid ((rightC C&&vOk x)=true->(∀u,C[seenN x.p x.l C]?=some u->atB u x=false)->putF C x=if 1000<=C.length then([],3)else(C.take (seenN x.p x.l C)++x::C.drop (seenN x.p x.l C),0)):=putF_else;have HRl:Hid (rightC C=true->C.length<=1000):=fun h=>(rightC_iff.1 h).len;have CR:Hid (∀W,Below w.heap.size w W->Calls Tryz.prog 196 #[.slice ao C.length cap] W fun e w'=>e=.returned (.bool (rightC C))/\Below W.heap.size W w'):=fun W hW=>right12 w.heap.size C _ W (H.out.on hW) hW.size;have CS:Hid (∀W,Below w.heap.size w W->Calls Tryz.prog 197 #[.slice ao C.length cap,.agg #[uw x.p,ui x.l]] W fun e w'=>e=.returned (iw (seenN x.p x.l C))/\Below W.heap.size W w'):=fun W hW=>seen21 w.heap.size C _ _ _ W (H.out.on hW) hW.size;have CF:Hid (∀W,1=1->Calls Tryz.prog 237 #[veV x] W fun e w'=>e=.returned (.bool (vOk x))/\Below W.heap.size W w'):=fun W _=>fits20 x W;have CA:Hid (∀W k,Below w.heap.size w W->k<C.length->C.length<=1000->Calls Tryz.prog 240 #[.slice ao C.length cap,iw (k:Nat),veV x] W fun e w'=>∃v',e=.returned (.tuple #[v',iw (if eqV (C.getD k dv) x then 0 else 40)])/\VsAt w'.heap.size v' (if eqV (C.getD k dv) x then C else[]) w'/\Below W.heap.size W w'):=fun W k hW hk hl=>again22 w.heap.size C _ k x W (H.out.on hW) hW.size hk (by omega);generalize putF C x=y at*;generalize rightC C=r1 at*;generalize vOk x=r2 at*;generalize seenN x.p x.l C=k at*;obtain⟨D,er⟩:=y;obtain⟨xp,xl,xc,xn,xs,xd⟩:=x;unfold veV at*;dsimp only at*;have HB0:Hid (Bx w w.heap.size ⟨xp,xl,xc,xn,xs,xd⟩ (w.alloc (.cells #[uw xp,ui xl,ui xc,ui xn,sd xs,.bool xd] 120))):=⟨ve_new _ _ _ _ _ _ _,(Below.refl _ _).alloc (Nat.le_refl _) _⟩;go_enter Tryz.func201,Tryz.ntmps201;go_wp2_with fail;refine(CR.out _ HB0.out.bel).mono ?_;rintro e w1 ⟨rfl,hb1⟩;have HB1:Hid (Bx w w.heap.size ⟨xp,xl,xc,xn,xs,xd⟩ w1):=HB0.out.on hb1;clear hb1 HB0;cases r1
 ·have HE:Hid _:=HP1.out rfl;go_wp2_with fail;have he:=HE.out;injection he with he1 he2;subst he1 he2;refine bodyPost_ret (v:=.tuple #[sy,iw 1]) (by simp[results,Tryz.results201,go_sem]) rfl ?_;exact⟨_,rfl,vs_nil _ _,HB1.out.bel⟩
 ·have zc0:=HB1.out.box.six;go_wp2_with fail;refine(CF.out _ (by trivial)).mono ?_;rintro e w2 ⟨rfl,hb2⟩;have HB2:Hid (Bx w w.heap.size ⟨xp,xl,xc,xn,xs,xd⟩ w2):=HB1.out.on hb2;clear hb2 HB1 zc0;cases r2
  ·have HE:Hid _:=HP1.out rfl;go_wp2_with fail;have he:=HE.out;injection he with he1 he2;subst he1 he2;refine bodyPost_ret (v:=.tuple #[sy,iw 1]) (by simp[results,Tryz.results201,go_sem]) rfl ?_;exact⟨_,rfl,vs_nil _ _,HB2.out.bel⟩
  ·have hl1000:C.length<=1000:=HRl.out (by trivial);have zc0:=HB2.out.box.six;go_wp2_with fail;refine(CS.out _ HB2.out.bel).mono ?_;rintro e w3 ⟨rfl,hb3⟩;have HB3:Hid (Bx w w.heap.size ⟨xp,xl,xc,xn,xs,xd⟩ w3):=HB2.out.on hb3;clear hb3 HB2 zc0;have hk:=HSn.out;by_cases hkl:k<C.length
   ·obtain⟨b,off,rfl,hb,hck⟩:=(H.out.on HB3.out.bel).el hkl;have HG:Hid (C[k]?=some (C.getD k dv)):=getD_some hkl;have CA':Hid (∀W,Below w.heap.size w W->1=1->_):=fun W hW _=>CA.out W k hW hkl hl1000;clear CA CR CS CF HP1 hb;generalize C.getD k dv=y at hck HG CA';obtain⟨yp,yl,yc,yn,ys,yd⟩:=y;obtain⟨m0,m1,-,-,-,-⟩:=hck;dsimp only at m0 m1;have hrun:=run_eql26 yp yl xp xl;have HAt:Hid (atB ⟨yp,yl,yc,yn,ys,yd⟩ ⟨xp,xl,xc,xn,xs,xd⟩=eqB yp yl xp xl):=rfl;obtain⟨z,hz⟩:=xj (eqB yp yl xp xl);rw[hz]at hrun HAt;clear hz;have hkl':(k:Int)<C.length:=by omega
    have zc0:=HB3.out.box.six;cases z
    ·have HNo:Hid (∀u,C[k]?=some u->atB u ⟨xp,xl,xc,xn,xs,xd⟩=false):=fun u hu=>by rw[HG.out]at hu;injection hu with hu;subst hu;exact HAt.out
     clear HG HAt HP2 HP3 CA';have hne:¬cap=k:=by omega
     have hdr:=H.out.drop hk;rw[if_neg hne]at hdr;simp only[Option.map_some,Addr.add_lit]at hdr;have HDr:Hid _:=hdr;clear hdr;go_wp2_with fail
     go_quiet (fail)
     rename_i nq;clear m0 m1;have HB4:Hid (Bx w w.heap.size ⟨xp,xl,xc,xn,xs,xd⟩ (w3.drewN nq)):=HB3.out.on (below_drewN (Below.refl _ _) _);clear HB3 zc0;generalize w3.drewN nq=w4 at*;have HP5:Hid _:=HP4.out (by trivial) HNo.out;clear HP4 HNo;by_cases hfull:C.length=1000
     ·have hfull':((C.length:Int)==1000)=true:=by simp;omega
      have HE:Hid ((D,er)=([],3)):=by rw[HP5.out,if_pos (by omega)];exact rfl
      clear HP5 hfull;go_wp2_with fail;have he:=HE.out;injection he with he1 he2;subst he1 he2;refine bodyPost_ret (v:=.tuple #[sy,iw 3]) (by simp[results,Tryz.results201,go_sem]) rfl ?_;exact⟨_,rfl,vs_nil _ _,HB4.out.bel⟩
     ·have hfull':((C.length:Int)==1000)=false:=by simp;omega
      have HE:Hid ((D,er)=(C.take k++⟨xp,xl,xc,xn,xs,xd⟩::C.drop k,0)):=by rw[HP5.out,if_neg (by omega)];exact rfl
      clear HP5 hfull;have hkc:k<=cap:=by omega
      have HCt:Hid (∀W,Bx w w.heap.size ⟨xp,xl,xc,xn,xs,xd⟩ W->_):=fun W hW=>cat3 w W _ _ _ _ _ _ _ C _ _ cap k hW H.out HDr.out hk hl1000;go_wp2_with fail;go_region_held3 (fun w'=>w'.cell? ⟨w.heap.size,0,none⟩=some (uw xp)/\w'.cell? ⟨w.heap.size,1,none⟩=some (ui xl)/\w'.cell? ⟨w.heap.size,2,none⟩=some (ui xc)/\w'.cell? ⟨w.heap.size,3,none⟩=some (ui xn)/\w'.cell? ⟨w.heap.size,4,none⟩=some (sd xs)/\w'.cell? ⟨w.heap.size,5,none⟩=some (.bool xd)/\Hid (Bx w w.heap.size ⟨xp,xl,xc,xn,xs,xd⟩ w')) (first|exact HB4.out.dr.s7|exact(HB4.out.on (((Below.refl _ _).alloc (Nat.le_refl _) _).drew)).s7|exact(HB4.out.on ((((Below.refl _ _).alloc (Nat.le_refl _) _).alloc (by simp) _).drew)).s7|exact HB5.out.s7) (first
       |(go_at_call 241;refine(HCt.out _ HB4.out).mono ?_;rintro e w5 ⟨v5,rfl,hv5,hb5⟩;have H5:Hid (VsAt w5.heap.size v5 (C.take k++⟨xp,xl,xc,xn,xs,xd⟩::C.drop k) w5):=hv5;have HB5:Hid (Bx w w.heap.size ⟨xp,xl,xc,xn,xs,xd⟩ w5):=hb5;clear hv5 hb5))
      go_wp2_with fail;have he:=HE.out;injection he with he1 he2;subst he1 he2;refine bodyPost_ret (v:=.tuple #[v5,iw 0]) (by simp[results,Tryz.results201,go_sem]) rfl ?_;exact⟨_,rfl,H5.out,HB5.out.bel⟩
    ·go_wp2_with fail
     go_quiet (fail)
     rename_i nq;have HB4:Hid (Bx w w.heap.size ⟨xp,xl,xc,xn,xs,xd⟩ (w3.drewN nq)):=HB3.out.on (below_drewN (Below.refl _ _) _);clear HB3 zc0;generalize w3.drewN nq=w4 at*;have zc0:=HB4.out.box.six;go_wp2_with fail;refine(CA'.out _ HB4.out.bel (by trivial)).mono ?_;rintro e w5 ⟨v',rfl,hv5,hb5⟩;obtain⟨q,hq⟩:=xj (eqV ⟨yp,yl,yc,yn,ys,yd⟩ ⟨xp,xl,xc,xn,xs,xd⟩);rw[hq]at hv5|-;have H5:Hid (VsAt w5.heap.size v' (if q then C else[]) w5/\Below w.heap.size w w5):=⟨hv5,HB4.out.bel.trans (hb5.mono HB4.out.bel.size)⟩;clear hv5 hb5;cases q
     ·have HE:Hid _:=HP3.out _ (by trivial) HG.out HAt.out hq;clear hq;go_wp2_with fail;have he:=HE.out;injection he with he1 he2;subst he1 he2;refine bodyPost_ret (v:=.tuple #[v',iw 40]) (by simp[results,Tryz.results201,go_sem]) rfl ?_;exact⟨_,rfl,H5.out.1,H5.out.2⟩
     ·have HE:Hid _:=HP2.out _ (by trivial) HG.out HAt.out hq;clear hq;go_wp2_with fail;have he:=HE.out;injection he with he1 he2;subst he1 he2;refine bodyPost_ret (v:=.tuple #[v',iw 0]) (by simp[results,Tryz.results201,go_sem]) rfl ?_;exact⟨_,rfl,H5.out.1,H5.out.2⟩
   ·have HNo:Hid (∀u,C[k]?=some u->atB u ⟨xp,xl,xc,xn,xs,xd⟩=false):=fun u hu=>by rw[List.getElem?_eq_none (by omega)]at hu;cases hu
    have hkl':¬(k:Int)<C.length:=by omega
    clear CA CR CS CF HP1 HP2 HP3;have hdr:=H.out.drop hk;by_cases hne:cap=k
    ·rw[if_pos hne]at hdr;subst hne;rw[Nat.sub_self,Nat.sub_eq_zero_of_le hlc]at hdr;have HDr:Hid _:=hdr;clear hdr;have zc0:=HB3.out.box.six;go_wp2_with fail
     go_quiet (fail)
     rename_i nq;have HB4:Hid (Bx w w.heap.size ⟨xp,xl,xc,xn,xs,xd⟩ (w3.drewN nq)):=HB3.out.on (below_drewN (Below.refl _ _) _);clear HB3 zc0;generalize w3.drewN nq=w4 at*;have HP5:Hid _:=HP4.out (by trivial) HNo.out;clear HP4 HNo;by_cases hfull:C.length=1000
     ·have hfull':((C.length:Int)==1000)=true:=by simp;omega
      have HE:Hid ((D,er)=([],3)):=by rw[HP5.out,if_pos (by omega)];exact rfl
      clear HP5 hfull;go_wp2_with fail;have he:=HE.out;injection he with he1 he2;subst he1 he2;refine bodyPost_ret (v:=.tuple #[sy,iw 3]) (by simp[results,Tryz.results201,go_sem]) rfl ?_;exact⟨_,rfl,vs_nil _ _,HB4.out.bel⟩
     ·have hfull':((C.length:Int)==1000)=false:=by simp;omega
      have HE:Hid ((D,er)=(C.take cap++⟨xp,xl,xc,xn,xs,xd⟩::C.drop cap,0)):=by rw[HP5.out,if_neg (by omega)];exact rfl
      clear HP5 hfull;have HCt:Hid (∀W,Bx w w.heap.size ⟨xp,xl,xc,xn,xs,xd⟩ W->_):=fun W hW=>cat3 w W _ _ _ _ _ _ _ C _ _ cap cap hW H.out HDr.out hk hl1000;go_wp2_with fail;go_region_held3 (fun w'=>w'.cell? ⟨w.heap.size,0,none⟩=some (uw xp)/\w'.cell? ⟨w.heap.size,1,none⟩=some (ui xl)/\w'.cell? ⟨w.heap.size,2,none⟩=some (ui xc)/\w'.cell? ⟨w.heap.size,3,none⟩=some (ui xn)/\w'.cell? ⟨w.heap.size,4,none⟩=some (sd xs)/\w'.cell? ⟨w.heap.size,5,none⟩=some (.bool xd)/\Hid (Bx w w.heap.size ⟨xp,xl,xc,xn,xs,xd⟩ w')) (first|exact HB4.out.dr.s7|exact(HB4.out.on (((Below.refl _ _).alloc (Nat.le_refl _) _).drew)).s7|exact(HB4.out.on ((((Below.refl _ _).alloc (Nat.le_refl _) _).alloc (by simp) _).drew)).s7|exact HB5.out.s7) (first
       |(go_at_call 241;refine(HCt.out _ HB4.out).mono ?_;rintro e w5 ⟨v5,rfl,hv5,hb5⟩;have H5:Hid (VsAt w5.heap.size v5 (C.take cap++⟨xp,xl,xc,xn,xs,xd⟩::C.drop cap) w5):=hv5;have HB5:Hid (Bx w w.heap.size ⟨xp,xl,xc,xn,xs,xd⟩ w5):=hb5;clear hv5 hb5))
      go_wp2_with fail;have he:=HE.out;injection he with he1 he2;subst he1 he2;refine bodyPost_ret (v:=.tuple #[v5,iw 0]) (by simp[results,Tryz.results201,go_sem]) rfl ?_;exact⟨_,rfl,H5.out,HB5.out.bel⟩
    ·rw[if_neg hne]at hdr;obtain⟨b,off,rfl⟩:∃b off,ao=some ⟨b,off,none⟩:=by obtain⟨ao',cap',e,_,_,h⟩:=H.out;simp only[Value.slice.injEq]at e;obtain⟨rfl,_,rfl⟩:=e;obtain⟨b,off,rfl,_⟩:=h (by omega);exact⟨b,off,rfl⟩
     simp only[Option.map_some,Addr.add_lit]at hdr;have HDr:Hid _:=hdr;clear hdr;have zc0:=HB3.out.box.six;go_wp2_with fail
     go_quiet (fail)
     rename_i nq;have HB4:Hid (Bx w w.heap.size ⟨xp,xl,xc,xn,xs,xd⟩ (w3.drewN nq)):=HB3.out.on (below_drewN (Below.refl _ _) _);clear HB3 zc0;generalize w3.drewN nq=w4 at*;have HP5:Hid _:=HP4.out (by trivial) HNo.out;clear HP4 HNo;by_cases hfull:C.length=1000
     ·have hfull':((C.length:Int)==1000)=true:=by simp;omega
      have HE:Hid ((D,er)=([],3)):=by rw[HP5.out,if_pos (by omega)];exact rfl
      clear HP5 hfull;go_wp2_with fail;have he:=HE.out;injection he with he1 he2;subst he1 he2;refine bodyPost_ret (v:=.tuple #[sy,iw 3]) (by simp[results,Tryz.results201,go_sem]) rfl ?_;exact⟨_,rfl,vs_nil _ _,HB4.out.bel⟩
     ·have hfull':((C.length:Int)==1000)=false:=by simp;omega
      have HE:Hid ((D,er)=(C.take k++⟨xp,xl,xc,xn,xs,xd⟩::C.drop k,0)):=by rw[HP5.out,if_neg (by omega)];exact rfl
      clear HP5 hfull;have hkc:k<=cap:=by omega
      have HCt:Hid (∀W,Bx w w.heap.size ⟨xp,xl,xc,xn,xs,xd⟩ W->_):=fun W hW=>cat3 w W _ _ _ _ _ _ _ C _ _ cap k hW H.out HDr.out hk hl1000;go_wp2_with fail;go_region_held3 (fun w'=>w'.cell? ⟨w.heap.size,0,none⟩=some (uw xp)/\w'.cell? ⟨w.heap.size,1,none⟩=some (ui xl)/\w'.cell? ⟨w.heap.size,2,none⟩=some (ui xc)/\w'.cell? ⟨w.heap.size,3,none⟩=some (ui xn)/\w'.cell? ⟨w.heap.size,4,none⟩=some (sd xs)/\w'.cell? ⟨w.heap.size,5,none⟩=some (.bool xd)/\Hid (Bx w w.heap.size ⟨xp,xl,xc,xn,xs,xd⟩ w')) (first|exact HB4.out.dr.s7|exact(HB4.out.on (((Below.refl _ _).alloc (Nat.le_refl _) _).drew)).s7|exact(HB4.out.on ((((Below.refl _ _).alloc (Nat.le_refl _) _).alloc (by simp) _).drew)).s7|exact HB5.out.s7) (first
       |(go_at_call 241;refine(HCt.out _ HB4.out).mono ?_;rintro e w5 ⟨v5,rfl,hv5,hb5⟩;have H5:Hid (VsAt w5.heap.size v5 (C.take k++⟨xp,xl,xc,xn,xs,xd⟩::C.drop k) w5):=hv5;have HB5:Hid (Bx w w.heap.size ⟨xp,xl,xc,xn,xs,xd⟩ w5):=hb5;clear hv5 hb5))
      go_wp2_with fail;have he:=HE.out;injection he with he1 he2;subst he1 he2;refine bodyPost_ret (v:=.tuple #[v5,iw 0]) (by simp[results,Tryz.results201,go_sem]) rfl ?_;exact⟨_,rfl,H5.out,HB5.out.bel⟩
end Go.Proofs.YtdplfgcoaddbdaaGreat.Sto
