import Derived.Great.BuildSlice
import Derived.ProofKit
import Derived.OpenShut
import Derived.Lib.SmallJoins
import Derived.SizedLaws
import Derived.ShutString
import Derived.Deep.Strs
import Derived.Test.YtnfpfbehebcdpaaGreatVbk
set_option maxHeartbeats 0
set_option maxRecDepth 99999
set_option linter.all false
namespace Go.Proofs.YtnfpfbehebcdpaaGreat
open Go.RowKit
variable {SA:TyS}{TA:TyT}{BA:TyB}
variable {w W:World}{c n p l:Int}
def DB2:Drm.Dr:=(Lgs.Qm (Drm.Dr.new 200000)).2.2
def open2:Lgs.Qm (Drm.Dr.new 200000)=(0,(((0:Nat):Int),1,enc []),DB2):=by kernel_rfl
def holds2:Lgs.Holds DB2 0 1 (enc []):=⟨by decide,by kernel_rfl,⟨by decide,(λr h=>by cases h),[],[],rfl,by kernel_rfl⟩,by kernel_rfl,λi h1 h2=>by
 rcases(by omega:i=1\/i=2\/i=3)with rfl|rfl|rfl
 all_goals kernel_rfl⟩
def Pn.start(E:Env SA TA BA)(hd:Drm.Ak w.heap.size (Drm.Dr.new 200000) W)(hb:Bw w W):
  cpr 8 #[pz w.heap.size] W λe w'=>∃sb,e=.returned (.tuple #[pz sb,iw 0])/\Hid (Pn SA TA BA c n p l w w.heap.size false 0 sb [] w'):=by
 have hO:=Drm.Dr.Ok.new 200000 (by decide) (by decide);have hO':DB2.Ok:=abv hO;refine(ao5 E hd hO rfl open2 hO' (es:=[]) (λe h=>by cases h) (by decide)).mono ?_;rintro e w' ⟨f,M,rfl,H⟩;obtain⟨k1,k2,k3,k4,k5,k6⟩:=H.out;have ge:∀i,Dk w.heap.size W i\/W.heap.size<=i->w.heap.size<=i:=λi hi=>by have:=hb.size;rcases hi with(e|⟨e,-⟩)|e<;>omega
 have hb2:Bw w w':=hb.trans (k3.below hb.size λk hk=>ge k (.inl hk));refine⟨_,rfl,f,_,0,1,DB2,rfl,⟨⟨M,k1,λi hi=>.inl (ge i (k4 i hi)),(λp hp=>by cases hp)⟩,Kept.Xa hb2,(λp hp=>by cases hp)⟩,k2,k5,k6,aio (es:=[]) ⟨(λe h=>by cases h),(λe h=>by cases h),aj _,(λx hx=>by cases hx),by decide,(λe=>by cases e)⟩ k5.ok.b (λe=>by cases e) (by kernel_rfl) hO' (aj _) holds2,(λe=>by cases e)⟩
def apy(p l q m:Int)(w:World):
  cpr 14 #[.agg #[uw p,ui l],.agg #[uw q,ui m]] w λe w'=>e=.returned (.bool (Clk.Ar p l q m))/\Bw w w':=by
 go_enter Tryz.func14,Tryz.ntmps14;by_cases h:p<q
 .go_wp2;go_ret;exact⟨Clk.Dj (by simp[Clk.Ar,h]),(al _).alloc (by simp) _⟩
 by_cases h1:p=q
 .subst h1;go_wp2;go_ret;exact⟨Clk.Dj (by simp[Clk.Ar]),(al _).alloc (by simp) _⟩
 .have h2:(p==q)=false:=by simpa using h1
  go_wp2;go_ret;exact⟨Clk.Dj (by simp[Clk.Ar,h,h1]),(al _).alloc (by simp) _⟩
def N9.on{v:Value}{L:List Ac}(h:N9 w v L)(hb:Bw w W):N9 W v L:=⟨(RwAt.on h.1 hb).le hb.size,λx hx=>⟨⟨(h.2 x hx).q.ok,(RwAt.on (h.2 x hx).q.ws hb).le hb.size,(RwAt.on (h.2 x hx).q.sk hb).le hb.size⟩,(h.2 x hx).ph,(h.2 x hx).n,(RwAt.on (h.2 x hx).k hb).le hb.size,(h.2 x hx).kb⟩⟩
def atn(E:Env SA TA BA){A B:List Ac}{aa ab:Option Addr}{ca cb:Nat}(hA:N9 w (.slice aa A.length ca) A)(hB:N9 w (.slice ab B.length cb) B)(ph:Int)(h0:0<=ph)(h1:ph<=18446744073709551615)(hc:Ver.R32 c/\Ver.R32 n)(ht:Ts p l):
  cpr 5 #[.agg #[.slice aa A.length ca,.slice ab B.length cb,ui c,ui n,uw p,ui l,uw ph]] w λe w'=>e=.returned (.bool true)/\Bw w w':=by
 have CA:Hid (∀W:World,1=1->_):=λW _=>azo E W;have CSA:Hid (∀W:World,Bw w W->cpr 9 #[.slice aa A.length ca] W λe w'=>AnyB e/\Bw W w'):=λW hb=>an5 (hA.on hb);have CSB:Hid (∀W:World,Bw w W->cpr 9 #[.slice ab B.length cb] W λe w'=>AnyB e/\Bw W w'):=λW hb=>an5 (hB.on hb);have CN:Hid (∀W:World,1=1->_):=λW _=>Drm.Yi 200000 W (by decide) (by decide);have CO:Hid (∀w W:World,Drm.Ak w.heap.size (Drm.Dr.new 200000) W->Bw w W->cpr 8 #[pz w.heap.size] W λe w'=>∃sb,e=.returned (.tuple #[pz sb,iw 0])/\Hid (Pn SA TA BA c n p l w w.heap.size false 0 sb [] w')):=λw W h1 h2=>Pn.start E h1 h2;have HX:Hid (N9 w (.slice aa A.length ca) A/\N9 w (.slice ab B.length cb) B/\(0<=ph/\ph<=18446744073709551615)/\RqOk (puQ c n p l)/\Ts p l):=⟨hA,hB,⟨h0,h1⟩,⟨hc,(⟨⟨by decide,by decide⟩,by decide,by decide⟩:Ts 0 0),ht,(by decide:(0:Int)<=0),(by decide:(0:Int)<256)⟩,ht⟩;have HE:Hid (Env SA TA BA):=E;have H0:Hid (Bw w (w.alloc (.cells #[.slice aa A.length ca,.slice ab B.length cb,ui c,ui n,uw p,ui l,uw ph] 69))/\(w.alloc (.cells #[.slice aa A.length ca,.slice ab B.length cb,ui c,ui n,uw p,ui l,uw ph] 69)).heap[w.heap.size]?=some (.cells #[.slice aa A.length ca,.slice ab B.length cb,ui c,ui n,uw p,ui l,uw ph] 69 (0,0))):=⟨al _,ae w _⟩;clear E hA hB h0 h1 hc ht;go_enter Tryz.func5,Tryz.ntmps5;go_upto_region 1 with fail
 obtain⟨W0,hW0⟩:=xj (w.alloc (.cells #[.slice aa A.length ca,.slice ab B.length cb,ui c,ui n,uw p,ui l,uw ph] 69));obtain⟨b0,hb0⟩:=xj w.heap.size;have HB0:Hid (w.heap.size=b0):=hb0;have H1:Hid (Bw w W0/\W0.heap[b0]?=some (.cells #[.slice aa A.length ca,.slice ab B.length cb,ui c,ui n,uw p,ui l,uw ph] 69 (0,0))):=by have:=H0.out;rw[hW0]at this;rw[<-HB0.out];exact this
 (try rw[hW0,hb0])
 clear H0 hW0 hb0;go_wp2_with fail;refine(CA.out _ (by trivial)).mono ?_;rintro e W1 ⟨rfl,hb1⟩;have H2:Hid (Bw w W1/\W1.heap[b0]?=some (.cells #[.slice aa A.length ca,.slice ab B.length cb,ui c,ui n,uw p,ui l,uw ph] 69 (0,0))):=⟨H1.out.1.trans (hb1.mono H1.out.1.size),Ov H1.out.2 (Kept.of_below (F:=λ_=>False) hb1) (λe=>e)⟩;clear hb1 H1 CA;go_wp2_with fail;refine(CN.out _ (by trivial)).mono ?_;rintro e W2 ⟨rfl,hd,hb2⟩;have HD:Hid (Drm.Ak W1.heap.size (Drm.Dr.new 200000) W2/\Bw W1 W2):=⟨hd,hb2⟩;clear hd hb2 CN;go_wp2_with fail;refine(CO.out W1 W2 HD.out.1 HD.out.2).mono ?_;rintro e W3 ⟨sb,rfl,H3⟩;obtain⟨pb,hpb⟩:=xj W1.heap.size;have HR:Hid (∀W,Bw W1 W->Bw w W/\W.heap[b0]?=some (.cells #[.slice aa A.length ca,.slice ab B.length cb,ui c,ui n,uw p,ui l,uw ph] 69 (0,0))):=λW hb=>⟨H2.out.1.trans (hb.mono H2.out.1.size),Ov H2.out.2 (Kept.of_below (F:=λ_=>False) hb) (λe=>e)⟩;have H4:Hid (Pn SA TA BA c n p l W1 pb false 0 sb [] W3):=by rw[<-hpb];exact H3
 have HPB:Hid (W1.heap.size=pb):=hpb;clear HD CO H2 H3;have g3:=(HR.out _ H4.out.bel).2;have x0:ce W3 b0 0 (.slice aa A.length ca):=Drm.Ae g3 rfl;have x1:ce W3 b0 1 (.slice ab B.length cb):=Drm.Ae g3 rfl;clear g3;go_wp2_with fail;refine(CSA.out _ (HR.out _ H4.out.bel).1).mono ?_;rintro e W4 ⟨⟨r4,rfl⟩,hb4⟩;have H5:Hid (Pn SA TA BA c n p l W1 pb false 0 sb [] W4):=H4.out.on HE.out hb4;clear hb4 H4 CSA x0 x1;cases r4
 .go_wp2_with fail;go_ret;exact⟨rfl,(HR.out _ H5.out.bel).1⟩
 have x1:ce W4 b0 1 (.slice ab B.length cb):=Drm.Ae (HR.out _ H5.out.bel).2 rfl;go_wp2_with fail;refine(CSB.out _ (HR.out _ H5.out.bel).1).mono ?_;rintro e W5 ⟨⟨r5,rfl⟩,hb5⟩;have H6:Hid (Pn SA TA BA c n p l W1 pb false 0 sb [] W5):=H5.out.on HE.out hb5;clear hb5 H5 CSB x1;cases r5
 .go_wp2_with fail;go_ret;exact⟨rfl,(HR.out _ H6.out.bel).1⟩
 have g5:=(HR.out _ H6.out.bel).2;have x0:ce W5 b0 0 (.slice aa A.length ca):=Drm.Ae g5 rfl;have x1:ce W5 b0 1 (.slice ab B.length cb):=Drm.Ae g5 rfl;have x2:ce W5 b0 2 (ui c):=Drm.Ae g5 rfl;have x3:ce W5 b0 3 (ui n):=Drm.Ae g5 rfl;have x4:ce W5 b0 4 (uw p):=Drm.Ae g5 rfl;have x5:ce W5 b0 5 (ui l):=Drm.Ae g5 rfl;clear g5;go_upto_region 7 with fail
 go_cut [7,8] (λs7 s8 wc=>∃b7 b8,s7=.pointer (some ⟨b7,0,none⟩)/\s8=.pointer (some ⟨b8,0,none⟩)/\Pn SA TA BA c n p l W1 pb false 0 sb [(b7,.cells #[ui c,ui n] 36 (0,0)),(b8,.cells #[uw p,ui l] 38 (0,0))] wc)
 case first=>
  have hl5:b0<W5.heap.size:=df _ _ x0;have hne:W5.heap.size≠b0:=by omega
  have hne':b0≠W5.heap.size:=by omega
  have hne1:b0≠W5.heap.size+1:=by omega
  go_region;all_goals (go_wp2_with fail)
  all_goals go_meet
  .refine⟨_,_,rfl,rfl,(Pn.on HE.out (W:=(W5.alloc (.cells #[ui c,ui n] 36)).alloc (.cells #[uw p,ui l] 38)) ?_ (ai _ _).drew)⟩;have e:(W5.alloc (.cells #[ui c,ui n] 36)).heap.size=W5.heap.size+1:=by simp
   have:=(H6.out.new HE.out #[ui c,ui n] 36 (by decide)).new HE.out #[uw p,ui l] 38 (by decide);rw[e]at this;exact this.less λp hp=>by
    rcases az.1 hp with rfl|hp
    .exact .tail _ tq0
    .rw[kw.1 hp];exact .head _
  .refine⟨_,_,rfl,rfl,(Pn.on HE.out (W:=(W5.alloc (.cells #[uw p,ui l] 38)).alloc (.cells #[ui c,ui n] 36)) ?_ (ai _ _).drew)⟩;have e:(W5.alloc (.cells #[uw p,ui l] 38)).heap.size=W5.heap.size+1:=by simp
   have:=(H6.out.new HE.out #[uw p,ui l] 38 (by decide)).new HE.out #[ui c,ui n] 36 (by decide);rw[e]at this;exact this
 case rest=>
  obtain⟨b7,b8,rfl,rfl,h7⟩:=hcut;have H7:Hid (Pn SA TA BA c n p l W1 pb false 0 sb [(b7,.cells #[ui c,ui n] 36 (0,0)),(b8,.cells #[uw p,ui l] 38 (0,0))] wc):=h7;clear h7 H6 x0 x1 x2 x3 x4 x5;have g7:=(HR.out _ H7.out.bel).2;have x0:ce wc b0 0 (.slice aa A.length ca):=Drm.Ae g7 rfl;have x1:ce wc b0 1 (.slice ab B.length cb):=Drm.Ae g7 rfl;clear g7;go_upto_region 9 with fail
  go_wp2_with (first
   |(refine wpList_buildSlice rfl 70 22 2 _ rfl #[.slice aa A.length ca,.slice ab B.length cb] _ _ Tryz.underlying70 rfl rfl (by decide) (by decide) (by kernel_rfl) ?_))
  obtain⟨W8,hW8⟩:=xj (wc.alloc (.cells #[.slice aa A.length ca,.slice ab B.length cb] 22));obtain⟨b9,hb9⟩:=xj wc.heap.size;have H8:Hid (Pn SA TA BA c n p l W1 pb false 0 sb [(b9,.cells #[.slice aa A.length ca,.slice ab B.length cb] 22 (0,0)),(b7,.cells #[ui c,ui n] 36 (0,0)),(b8,.cells #[uw p,ui l] 38 (0,0))] W8):=by rw[<-hW8,<-hb9];exact H7.out.new HE.out _ 22 (by decide)
  (try rw[hW8,hb9])
  clear hW8 hb9 x0 x1 H7;obtain⟨Lo,hLo⟩:∃Lo:List (Nat×Obj),[(b9,.cells #[.slice aa A.length ca,.slice ab B.length cb] 22 (0,0)),(b7,.cells #[ui c,ui n] 36 (0,0)),(b8,.cells #[uw p,ui l] 38 (0,0))]=Lo:=⟨_,rfl⟩;rw[hLo]at H8;have HLo:Hid (∀W,Has Lo W->ce W b9 0 (.slice aa A.length ca)/\ce W b9 1 (.slice ab B.length cb)/\ce W b7 0 (ui c)/\ce W b7 1 (ui n)/\ce W b8 0 (uw p)/\ce W b8 1 (ui l)):=λW hh=>by rw[<-hLo]at hh;exact⟨hh.cell tq0 rfl,hh.cell tq0 rfl,hh.cell tq1 rfl,hh.cell tq1 rfl,hh.cell tq2 rfl,hh.cell tq2 rfl⟩
  clear hLo;go_loopw [5,9,56] (λs5 s9 i wr=>∃(k:Nat) (t:Bool) (sb:Nat),k<=2/\i=iw k/\s5=.pointer (some ⟨sb,0,none⟩)/\s9=.bool t/\(k<=1->t=false)/\Pn SA TA BA c n p l W1 pb t (123*k) sb Lo wr) (λ_ _ i _=>2-(intOf i).toNat)
  case atStart=>exact⟨0,false,sb,by omega,rfl,rfl,rfl,λ_=>rfl,H8.out⟩
  case round=>
   clear H8;obtain⟨k,t,sb,hk2,rfl,rfl,rfl,ht1,hw⟩:=hrel;have HP:Hid (Pn SA TA BA c n p l W1 pb t (123*k) sb Lo wr):=hw;clear hw;by_cases hkl:k<2
   .have hkl':(k:Int)<2:=by omega
    have ht0:=ht1 (by omega);subst ht0;obtain⟨L,al,cl,hcl,hacs⟩:∃L al cl,ce wr b9 k (.slice al L.length cl)/\N9 W1 (.slice al L.length cl) L:=by
     rcases(by omega:k=0\/k=1)with rfl|rfl
     .exact⟨A,aa,ca,(HLo.out _ HP.out.has).1,HX.out.1.on (HR.out _ (ai _ _)).1⟩
     .exact⟨B,ab,cb,(HLo.out _ HP.out.has).2.1,HX.out.2.1.on (HR.out _ (ai _ _)).1⟩
    have HAc:Hid (N9 W1 (.slice al L.length cl) L):=hacs;have hcl0:ce wr b9 (0+k) (.slice al L.length cl):=by rw[mf];exact hcl
    clear hacs ht1;go_upto_if 62 with fail
    go_cut [9] (λs9 wc=>∃t:Bool,s9=.bool t/\(k=0->t=false)/\Pn SA TA BA c n p l W1 pb t (123*k+3) sb Lo wc)
    case first=>
     as_aux_lemma=>
     clear HAc hcl hcl0;by_cases hk1:k=1
     .subst hk1;have g8:=HLo.out _ HP.out.has;have x6:ce wr b0 6 (uw ph):=Drm.Ae (HR.out _ HP.out.bel).2 rfl;obtain⟨-,-,y0,y1,y2,y3⟩:=g8;have CP:Hid (1=1->cpr 10 #[pz sb,uw ph,.agg #[iw 7,ui c,ui n,uw 0,ui 0,uw p,ui l,su,su,iw 0,ub 0,sy,sy]] wr λe w'=>∃(r:Rp) (ao:Option Addr) (m cap:Nat),e=.returned (.agg (rpD r ao m cap))/\Hid (∀t',t'=(decide (r.k=8)&& !(p==0&&l==0))->(t'=true->Clk.Ar p l r.ap r.al=true)/\Pn SA TA BA c n p l W1 pb t' (123*1+3) sb Lo w')):=λ_=>HP.out.push HE.out (by decide) ph HX.out.2.2.1.1 HX.out.2.2.1.2 HX.out.2.2.2.1;have CL:Hid (∀q m W,cpr 14 #[.agg #[uw p,ui l],.agg #[uw q,ui m]] W λe w'=>e=.returned (.bool (Clk.Ar p l q m))/\Bw W w'):=λq m W=>apy p l q m W;clear HP hkl hkl';go_wp2_with fail;refine(CP.out (by trivial)).mono ?_;rintro e w2 ⟨r,ao,m,cap,rfl,H2⟩;clear CP x6 y0 y1 y2 y3;go_upto_region 14 with fail
      obtain⟨W3,hW3⟩:=xj (w2.alloc (.cells (rpD r ao m cap) 48));obtain⟨bx,hbx⟩:=xj w2.heap.size;have H3:Hid (∀t',t'=(decide (r.k=8)&& !(p==0&&l==0))->(t'=true->Clk.Ar p l r.ap r.al=true)/\Pn SA TA BA c n p l W1 pb t' (123*1+3) sb ((bx,.cells (rpD r ao m cap) 48 (0,0))::Lo) W3):=λt' e=>by rw[<-hW3,<-hbx];exact⟨(H2.out t' e).1,(H2.out t' e).2.new HE.out _ 48 (by decide)⟩
      (try rw[hW3,hbx])
      clear hW3 hbx H2;have h3:=(H3.out _ rfl).2.has;have z0:ce W3 bx 0 (iw r.k):=h3.cell tq0 rfl;have z9:ce W3 bx 9 (uw r.ap):=h3.cell tq0 rfl;have z10:ce W3 bx 10 (ui r.al):=h3.cell tq0 rfl;obtain⟨-,-,y0,y1,y2,y3⟩:=HLo.out W3 (λp hp=>h3 p (.tail _ hp));have HF:Hid (∀(t':Bool) W,t'=(decide (r.k=8)&& !(p==0&&l==0))->Bw W3 W->Pn SA TA BA c n p l W1 pb t' (123*1+3) sb Lo W):=λt' W e hb=>((H3.out t' e).2.on HE.out hb).less λp hp=>.tail _ hp;have HL2:Hid (true=(decide (r.k=8)&& !(p==0&&l==0))->Clk.Ar p l r.ap r.al=true):=λe=>(H3.out true e).1 rfl;clear h3 H3;by_cases hk8:r.k=8
      .rw[hk8]at z0;rcases(by by_cases h1:p=0<;>by_cases h2:l=0<;>simp[h1,h2]:(p=0/\l=0)\/(p==0)=false\/(p=0/\(l==0)=false))with⟨rfl,rfl⟩|hz|⟨rfl,hz⟩
       .have H4:Hid (Pn SA TA BA c n 0 0 W1 pb false (123*1+3) sb Lo W3):=HF.out false W3 (by simp) (ai _ _);go_wp2_with fail;go_meet;exact⟨false,rfl,λe=>by omega,H4.out⟩
       .have e8:Hid (true=(decide (r.k=8)&& !(p==0&&l==0))):=by show _=_;rw[decide_eq_true hk8];simp[hz]
        have hless:=HL2.out e8.out;go_wp2_with fail;refine(CL.out _ _ _).mono ?_;rintro e w4 ⟨rfl,hb4⟩;rw[hless];have H4:Hid (Pn SA TA BA c n p l W1 pb true (123*1+3) sb Lo w4):=HF.out true w4 e8.out hb4;exact bd6
       .have e8:Hid (true=(decide (r.k=8)&& !((0:Int)==0&&l==0))):=by show _=_;rw[decide_eq_true hk8];simp[hz]
        have hless:=HL2.out e8.out;go_wp2_with fail;refine(CL.out _ _ _).mono ?_;rintro e w4 ⟨rfl,hb4⟩;rw[hless];have H4:Hid (Pn SA TA BA c n 0 l W1 pb true (123*1+3) sb Lo w4):=HF.out true w4 e8.out hb4;exact bd6
      .have hk8':(r.k==8)=false:=by rw[jf];exact hk8
       have H4:Hid (Pn SA TA BA c n p l W1 pb false (123*1+3) sb Lo W3):=HF.out false W3 (by rw[decide_eq_false hk8];rfl) (ai _ _);go_wp2_with fail;go_meet;exact⟨false,rfl,λe=>by omega,H4.out⟩
     .have hk1':((k:Int)==1)=false:=by rw[jf];omega
      go_wp2_with fail;go_meet;exact⟨false,rfl,λ_=>rfl,HP.out.up (by omega)⟩
    case rest=>
     as_aux_lemma=>
     obtain⟨t,rfl,ht0,h9⟩:=hcut;have H9:Hid (Pn SA TA BA c n p l W1 pb t (123*k+3) sb Lo wc):=h9;clear h9 HP hcl hcl0;have hL63:L.length<9223372036854775808:=by obtain⟨_,_,e,_,h1,h2,_⟩:=HAc.out.1;injection e with _ _ e;omega
     go_wp2_with fail;go_loopw [5,88] (λs5 i wr=>∃(j sb:Nat),j<=L.length/\j<=40/\i=iw j/\s5=.pointer (some ⟨sb,0,none⟩)/\Pn SA TA BA c n p l W1 pb t (123*k+3+3*j) sb Lo wr) (λ_ i _=>L.length-(intOf i).toNat)
     case atStart=>exact⟨0,sb,by omega,by omega,rfl,rfl,H9.out⟩
     case round=>
      clear H9;obtain⟨j,sb,hj,hj40,rfl,rfl,hw⟩:=hrel;have HP:Hid (Pn SA TA BA c n p l W1 pb t (123*k+3+3*j) sb Lo wr):=hw;clear hw;by_cases hjl:j<L.length
      .have hjl':(j:Int)<L.length:=by omega
       obtain⟨b,off,rfl,hat,hok⟩:=HAc.out.el HP.out.bel hjl;generalize L.getD j dac=x at*;have HOK:Hid (AcOk W1 x):=hok;obtain⟨e0,e1,e2,e3,e4,e5,e6,e7,e8,e9,e10,e11,e12,e13,e14,e15,e16⟩:=hat.all;clear hat hok;go_upto_region 20 with fail
       obtain⟨W5,hW5⟩:=xj (wr.alloc (.cells #[iw x.what,iw x.n,uw x.ph,iw x.q.k,ui x.q.c,ui x.q.n,uw x.q.sp,ui x.q.sl,uw x.q.ap,ui x.q.al,sd x.q.key,sd x.q.hi,iw x.q.lim,ub x.q.pt,.slice x.wa x.q.ws.length x.wc,.slice x.sa x.q.sk.length x.sc,.slice x.ka x.ks.length x.kc] 45));obtain⟨b5,hb5⟩:=xj wr.heap.size;have H5:Hid (Pn SA TA BA c n p l W1 pb t (123*k+3+3*j) sb ((b5,.cells #[iw x.what,iw x.n,uw x.ph,iw x.q.k,ui x.q.c,ui x.q.n,uw x.q.sp,ui x.q.sl,uw x.q.ap,ui x.q.al,sd x.q.key,sd x.q.hi,iw x.q.lim,ub x.q.pt,.slice x.wa x.q.ws.length x.wc,.slice x.sa x.q.sk.length x.sc,.slice x.ka x.ks.length x.kc] 45 (0,0))::Lo) W5):=by rw[<-hW5,<-hb5];exact HP.out.new HE.out _ 45 (by decide)
       (try rw[hW5,hb5])
       clear e0 e1 e2 e3 e4 e5 e6 e7 e8 e9 e10 e11 e12 e13 e14 e15 e16 hW5 hb5 HP;have HS:Hid (∀sb N W,Pn SA TA BA c n p l W1 pb t N sb ((b5,.cells #[iw x.what,iw x.n,uw x.ph,iw x.q.k,ui x.q.c,ui x.q.n,uw x.q.sp,ui x.q.sl,uw x.q.ap,ui x.q.al,sd x.q.key,sd x.q.hi,iw x.q.lim,ub x.q.pt,.slice x.wa x.q.ws.length x.wc,.slice x.sa x.q.sk.length x.sc,.slice x.ka x.ks.length x.kc] 45 (0,0))::Lo) W->Pn SA TA BA c n p l W1 pb t N sb Lo W):=λsb N W h=>h.less λp hp=>.tail _ hp;have h5:=H5.out.has;have n0:ce W5 b5 0 (iw x.what):=h5.cell tq0 rfl;by_cases h40:j=40
       .subst h40;clear h5;go_wp2_with fail;go_roundw
        case rel=>exact⟨k+1,t,sb,by omega,by go_num,rfl,rfl,λh=>ht0 (by omega),(HS.out _ _ _ H5.out).up (by omega)⟩
        case measure=>simp[intOf];omega
       .have h41:((j:Int)==40)=false:=by rw[jf];omega
        by_cases hw0:x.what=0
        .as_aux_lemma=>
         rw[hw0]at n0;have n2:ce W5 b5 2 (uw x.ph):=h5.cell tq0 rfl;have n3:ce W5 b5 3 (iw x.q.k):=h5.cell tq0 rfl;have n4:ce W5 b5 4 (ui x.q.c):=h5.cell tq0 rfl;have n5:ce W5 b5 5 (ui x.q.n):=h5.cell tq0 rfl;have n6:ce W5 b5 6 (uw x.q.sp):=h5.cell tq0 rfl;have n7:ce W5 b5 7 (ui x.q.sl):=h5.cell tq0 rfl;have n8:ce W5 b5 8 (uw x.q.ap):=h5.cell tq0 rfl;have n9:ce W5 b5 9 (ui x.q.al):=h5.cell tq0 rfl;have n10:ce W5 b5 10 (sd x.q.key):=h5.cell tq0 rfl;have n11:ce W5 b5 11 (sd x.q.hi):=h5.cell tq0 rfl;have n12:ce W5 b5 12 (iw x.q.lim):=h5.cell tq0 rfl;have n13:ce W5 b5 13 (ub x.q.pt):=h5.cell tq0 rfl;have n14:ce W5 b5 14 (.slice x.wa x.q.ws.length x.wc):=h5.cell tq0 rfl;have n15:ce W5 b5 15 (.slice x.sa x.q.sk.length x.sc):=h5.cell tq0 rfl;have CH:Hid (1=1->cpr 10 #[pz sb,uw x.ph,.agg #[iw x.q.k,ui x.q.c,ui x.q.n,uw x.q.sp,ui x.q.sl,uw x.q.ap,ui x.q.al,sd x.q.key,sd x.q.hi,iw x.q.lim,ub x.q.pt,.slice x.wa x.q.ws.length x.wc,.slice x.sa x.q.sk.length x.sc]] W5 λe w'=>(∃v,e=.returned v)/\Hid (Pn SA TA BA c n p l W1 pb t (123*k+3+3*j+3) sb ((b5,.cells #[iw x.what,iw x.n,uw x.ph,iw x.q.k,ui x.q.c,ui x.q.n,uw x.q.sp,ui x.q.sl,uw x.q.ap,ui x.q.al,sd x.q.key,sd x.q.hi,iw x.q.lim,ub x.q.pt,.slice x.wa x.q.ws.length x.wc,.slice x.sa x.q.sk.length x.sc,.slice x.ka x.ks.length x.kc] 45 (0,0))::Lo) w')):=λ_=>H5.out.ask HE.out (by omega) x.ph HOK.out.ph.1 HOK.out.ph.2 HOK.out.q;clear h5 H5;go_wp2_with fail;refine(CH.out (by trivial)).mono ?_;rintro e w6 ⟨⟨v,rfl⟩,H6⟩;clear n0 n2 n3 n4 n5 n6 n7 n8 n9 n10 n11 n12 n13 n14 n15 CH;go_wp2_with fail;go_roundw
         case rel=>exact⟨j+1,sb,by omega,by omega,by go_num,rfl,(HS.out _ _ _ H6.out).up (by omega)⟩
         case measure=>simp[intOf];omega
        .have hw0':(x.what==0)=false:=by rw[jf];exact hw0
         by_cases hw1:x.what=1
         .as_aux_lemma=>
          rw[hw1]at n0;have n1:ce W5 b5 1 (iw x.n):=h5.cell tq0 rfl;have CH:Hid (1=1->cpr 11 #[pz pb,iw x.n] W5 λe w'=>e=.returned (.tuple #[])/\Hid (Pn SA TA BA c n p l W1 pb t (123*k+3+3*j) sb ((b5,.cells #[iw x.what,iw x.n,uw x.ph,iw x.q.k,ui x.q.c,ui x.q.n,uw x.q.sp,ui x.q.sl,uw x.q.ap,ui x.q.al,sd x.q.key,sd x.q.hi,iw x.q.lim,ub x.q.pt,.slice x.wa x.q.ws.length x.wc,.slice x.sa x.q.sk.length x.sc,.slice x.ka x.ks.length x.kc] 45 (0,0))::Lo) w')):=λ_=>H5.out.fuel HE.out x.n HOK.out.n.1 HOK.out.n.2;clear h5 H5 hw0 hw0' hw1;go_wp2_with fail;refine(CH.out (by trivial)).mono ?_;rintro e w6 ⟨rfl,H6⟩;clear n0 n1 CH;go_wp2_with fail;go_roundw
          case rel=>exact⟨j+1,sb,by omega,by omega,by go_num,rfl,(HS.out _ _ _ H6.out).up (by omega)⟩
          case measure=>simp[intOf];omega
         .have hw1':(x.what==1)=false:=by rw[jf];exact hw1
          by_cases hw2:x.what=2
          .as_aux_lemma=>
           rw[hw2]at n0;have n16:ce W5 b5 16 (.slice x.ka x.ks.length x.kc):=h5.cell tq0 rfl;have CH:Hid (1=1->cpr 12 #[pz pb,.slice x.ka x.ks.length x.kc] W5 λe w'=>e=.returned (.tuple #[])/\Hid (Pm SA TA BA c n p l W1 pb t (123*k+3+3*j) ((b5,.cells #[iw x.what,iw x.n,uw x.ph,iw x.q.k,ui x.q.c,ui x.q.n,uw x.q.sp,ui x.q.sl,uw x.q.ap,ui x.q.al,sd x.q.key,sd x.q.hi,iw x.q.lim,ub x.q.pt,.slice x.wa x.q.ws.length x.wc,.slice x.sa x.q.sk.length x.sc,.slice x.ka x.ks.length x.kc] 45 (0,0))::Lo) w')):=λ_=>by obtain⟨k1,k2,k3⟩:=HOK.out.keep H5.out.bel (pb:=pb) (by rw[HPB.out];exact aj _);exact H5.out.fall k1 k2 k3
           clear h5 H5 hw0 hw0' hw1 hw1' hw2;go_wp2_with fail;refine(CH.out (by trivial)).mono ?_;rintro e w6 ⟨rfl,H6⟩;have CI:Hid (1=1->_):=λ_=>H6.out.open HE.out (by omega) HX.out.2.2.2.2;clear n0 n16 CH H6;go_wp2_with fail;refine(CI.out (by trivial)).mono ?_;rintro e w7 ⟨sb2,rfl,H7⟩;clear CI;go_wp2_with fail;go_roundw
           case rel=>exact⟨j+1,sb2,by omega,by omega,by go_num,rfl,(HS.out _ _ _ H7.out).up (by omega)⟩
           case measure=>simp[intOf];omega
          .have hw2':(x.what==2)=false:=by rw[jf];exact hw2
           clear h5 hw0 hw1 hw2;go_wp2_with fail;go_roundw
           case rel=>exact⟨j+1,sb,by omega,by omega,by go_num,rfl,(HS.out _ _ _ H5.out).up (by omega)⟩
           case measure=>simp[intOf];omega
      .have hjl':¬(j:Int)<L.length:=by omega
       go_wp2_with fail;go_roundw
       case rel=>exact⟨k+1,t,sb,by omega,by go_num,rfl,rfl,λh=>ht0 (by omega),HP.out.up (by omega)⟩
       case measure=>simp[intOf];omega
   .as_aux_lemma=>
    have hkl':¬(k:Int)<2:=by omega
    have CI:Hid (1=1->_):=λ_=>HP.out.items HE.out (by omega);clear ht1;go_wp2_with fail;refine(CI.out (by trivial)).mono ?_;rintro e W6 ⟨S,ao,cap,rfl,hS63,HI⟩;have HP6:Hid (Pn SA TA BA c n p l W1 pb t (123*k) sb Lo W6):=HP.out.on HE.out HI.out.2.2;have HT:Hid (∀i,i<S.length->∀j,j<(S.getD i Sto.ds).2.length->t=true->((S.getD i Sto.ds).2.getD j Sto.dv).c=c->((S.getD i Sto.ds).2.getD j Sto.dv).n=n->Clk.Ar p l ((S.getD i Sto.ds).2.getD j Sto.dv).p ((S.getD i Sto.ds).2.getD j Sto.dv).l=true):=λi hi j hj ht e1 e2=>by
     have a1:S.getD i Sto.ds∈S:=by rw[List.getD,bf hi];exact qy hi
     have a2:(S.getD i Sto.ds).2.getD j Sto.dv∈(S.getD i Sto.ds).2:=by generalize (S.getD i Sto.ds).2=C at*;rw[List.getD,bf hj];exact qy hj
     exact HI.out.2.1 ht _ a1 _ a2 e1 e2
    have HIt:Hid (∀W,Bw W6 W->∃L,Sto.ItAt (.slice ao S.length cap) L S W):=λW hb=>HI.out.1.imp λL h=>h.on hb;have HG:Hid (∀W,Bw W6 W->Bw w W/\ce W b7 0 (ui c)/\ce W b7 1 (ui n)/\ce W b8 0 (uw p)/\ce W b8 1 (ui l)):=λW hb=>by have h:=HP6.out.on HE.out hb;exact⟨(HR.out _ h.bel).1,(HLo.out W h.has).2.2⟩
    have CL:Hid (∀q m W,cpr 14 #[.agg #[uw p,ui l],.agg #[uw q,ui m]] W λe w'=>e=.returned (.bool (Clk.Ar p l q m))/\Bw W w'):=λq m W=>apy p l q m W;clear CI HI HP HP6 HLo HR HX HE HPB hk2 hkl hkl';go_wp2_with fail;go_loopw [129] (λi wr=>∃j:Nat,j<=S.length/\i=iw j/\Bw W6 wr) (λi _=>S.length-(intOf i).toNat)
    case atStart=>exact⟨0,gp _,rfl,ai _ _⟩
    case round=>
     obtain⟨i,hi,rfl,hbr⟩:=hrel;have HBr:Hid (Bw W6 wr):=hbr;clear hbr;by_cases hil:i<S.length
     .have hil':(i:Int)<S.length:=by omega
      obtain⟨L,hit⟩:=HIt.out wr HBr.out;obtain⟨b,off,ca2,cc,rfl,e0,e1,hvs⟩:=hit.el hil;have HTi:Hid _:=HT.out i hil;have HVs:Hid (Sto.VsAt wr.heap.size (.slice ca2 (S.getD i Sto.ds).2.length cc) (S.getD i Sto.ds).2 wr):=hvs;generalize S.getD i Sto.ds=y at*;clear hit hvs;go_upto_region 36 with fail
      obtain⟨W7,hW7⟩:=xj (wr.alloc (.cells #[sd y.1,.slice ca2 y.2.length cc] 61));obtain⟨bi,hbi⟩:=xj wr.heap.size;have q1:ce W7 bi 1 (.slice ca2 y.2.length cc):=by rw[<-hW7,<-hbi];exact Drm.Ae (ae wr _) rfl
      have HB7:Hid (Bw W6 W7/\Sto.VsAt W7.heap.size (.slice ca2 y.2.length cc) y.2 W7):=by rw[<-hW7];exact⟨HBr.out.trans ((al _).mono HBr.out.size),(HVs.out.on (al _)).le (al _).size⟩
      have hy63:y.2.length<9223372036854775808:=by obtain⟨_,_,e,h1,h2,_⟩:=HVs.out;injection e with _ _ e;omega
      (try rw[hW7,hbi])
      clear hW7 hbi e0 e1 HVs;go_wp2_with fail;go_loopw [136] (λi wr=>∃j:Nat,j<=y.2.length/\i=iw j/\Bw W7 wr) (λi _=>y.2.length-(intOf i).toNat)
      case atStart=>exact⟨0,gp _,rfl,ai _ _⟩
      case round=>
       clear q1;obtain⟨j,hj,rfl,hbr⟩:=hrel;have HBs:Hid (Bw W7 wr):=hbr;clear hbr;by_cases hjl:j<y.2.length
       .have hjl':(j:Int)<y.2.length:=by omega
        obtain⟨b,off,rfl,hlt,ve⟩:=(HB7.out.2.on HBs.out).el hjl;have HTj:Hid _:=HTi.out j hjl;generalize y.2.getD j Sto.dv=u at*;obtain⟨e0,e1,e2,e3,e4,e5,-⟩:=ve;clear hlt;go_upto_region 39 with fail
        obtain⟨W8,hW8⟩:=xj (wr.alloc (.cells #[uw u.p,ui u.l,ui u.c,ui u.n,sd u.val,.bool u.dead] 63));obtain⟨bv,hbv⟩:=xj wr.heap.size;have hh:W8.heap[bv]?=some (.cells #[uw u.p,ui u.l,ui u.c,ui u.n,sd u.val,.bool u.dead] 63 (0,0)):=by rw[<-hW8,<-hbv];exact ae wr _
        have HB8:Hid (Bw W7 W8):=by rw[<-hW8];exact HBs.out.trans ((al _).mono HBs.out.size)
        (try rw[hW8,hbv])
        clear hW8 hbv e0 e1 e2 e3 e4 e5 HBs;have q0:ce W8 bv 0 (uw u.p):=Drm.Ae hh rfl;have q1:ce W8 bv 1 (ui u.l):=Drm.Ae hh rfl;have q2:ce W8 bv 2 (ui u.c):=Drm.Ae hh rfl;have q3:ce W8 bv 3 (ui u.n):=Drm.Ae hh rfl;obtain⟨-,y0,y1,y2,y3⟩:=HG.out W8 (HB7.out.1.trans (HB8.out.mono HB7.out.1.size));clear hh;cases t
        .exact bbl
        .rcases(by by_cases h1:u.c=c<;>by_cases h2:u.n=n<;>simp[h1,h2]:(u.c=c/\u.n=n)\/(u.c==c)=false\/(u.c=c/\(u.n==n)=false))with⟨h1,h2⟩|h1|⟨h1,h2⟩
         .have hless:=HTj.out rfl h1 h2;rw[h1]at q2;rw[h2]at q3;clear h1 h2;go_wp2_with fail;refine(CL.out _ _ _).mono ?_;rintro e w9 ⟨rfl,hb9⟩;rw[hless];have HB9:Hid (Bw W7 w9):=HB8.out.trans (hb9.mono HB8.out.size);clear hb9 q0 q1 q2 q3 y0 y1 y2 y3;go_wp2_with fail;go_roundw
          case rel=>exact⟨j+1,by omega,by go_num,HB9.out⟩
          case measure=>simp[intOf];omega
         .exact bbl
         .rw[h1]at q2;clear h1;exact bbl
       .have hjl':¬(j:Int)<y.2.length:=by omega
        have HB9:Hid (Bw W6 wr):=HB7.out.1.trans (HBs.out.mono HB7.out.1.size);go_wp2_with fail;go_roundw
        case rel=>exact⟨i+1,by omega,by go_num,HB9.out⟩
        case measure=>simp[intOf];omega
     .have hil':¬(i:Int)<S.length:=by omega
      go_wp2_with fail;go_ret;exact⟨rfl,(HG.out _ HBr.out).1⟩
end Go.Proofs.YtnfpfbehebcdpaaGreat
namespace Go.Proofs.YtnfpfbehebcdpaaGreat
open Go.ChangeShapes Go.WideShapes Go.ChangeAt Go.RowKit Go.Joins Go.Deep
namespace Opn
def own:ownKnob Tryz.prog.godebug=none:=by kernel_rfl
def laidOut:laidOutB Tryz.prog=true:=by kernel_rfl
def c3:Tryz.prog.cellsOf 3=1:=by kernel_rfl
def c4:Tryz.prog.cellsOf 4=1:=by kernel_rfl
def cu8:Tryz.prog.cellsOf 5=1:=by kernel_rfl
def cStr:Tryz.prog.cellsOf 9=1:=by kernel_rfl
def cu64:Tryz.prog.cellsOf 33=1:=by kernel_rfl
def cu32:Tryz.prog.cellsOf 34=1:=by kernel_rfl
def cTs:Tryz.prog.cellsOf 38=2:=by kernel_rfl
def cTxn:Tryz.prog.cellsOf 36=2:=by kernel_rfl
def cWr:Tryz.prog.cellsOf 106=3:=by kernel_rfl
def cWs:Tryz.prog.cellsOf 39=1:=by kernel_rfl
def cTx:Tryz.prog.cellsOf 40=1:=by kernel_rfl
def cIs:Tryz.prog.cellsOf 43=1:=by kernel_rfl
def cRq:Tryz.prog.cellsOf 42=13:=by kernel_rfl
def cAc:Tryz.prog.cellsOf 45=17:=by kernel_rfl
def cAs:Tryz.prog.cellsOf 22=1:=by kernel_rfl
def cPu:Tryz.prog.cellsOf 69=7:=by kernel_rfl
section
variable {H:Type}{enc:TypeId×Value->H}{w:World}{base:Nat}{spare:Nat->Bool}{held:Bool}
def asl{t:TypeId}{f0 f1 f2:Field}{fuel:Nat}{cs:List Value}{x:DataW H×List MemPlace}(ht:Tryz.prog.underlying t=some (.struct #[f0,f1,f2]))(h:DataW.trod enc Tryz.prog w base spare held fuel t cs=some x):
  ∃y0 y1 y2 n,x.1=.agg [y0.1,y1.1,y2.1]/\cs.length=Tryz.prog.cellsOf t/\DataW.trod enc Tryz.prog w base spare held n f0.type ((cs.drop f0.offset).take (Tryz.prog.cellsOf f0.type))=some y0/\DataW.trod enc Tryz.prog w base spare held n f1.type ((cs.drop f1.offset).take (Tryz.prog.cellsOf f1.type))=some y1/\DataW.trod enc Tryz.prog w base spare held n f2.type ((cs.drop f2.offset).take (Tryz.prog.cellsOf f2.type))=some y2:=by
 obtain⟨xs,n,_,rfl,hl,hlen,hf⟩:=DataW.trod_struct ht h;match xs,hlen with
 |[y0,y1,y2],_=>exact⟨y0,y1,y2,n,by simp,hl,by simpa using hf 0 f0 rfl,by simpa using hf 1 f1 rfl,by simpa using hf 2 f2 rfl⟩
def anw{t:TypeId}{f0 f1 f2 f3 f4 f5 f6 f7 f8 f9:Field}{fuel:Nat}{cs:List Value}{x:DataW H×List MemPlace}(ht:Tryz.prog.underlying t=some (.struct #[f0,f1,f2,f3,f4,f5,f6,f7,f8,f9]))(h:DataW.trod enc Tryz.prog w base spare held fuel t cs=some x):
  ∃y0 y1 y2 y3 y4 y5 y6 y7 y8 y9 n,x.1=.agg [y0.1,y1.1,y2.1,y3.1,y4.1,y5.1,y6.1,y7.1,y8.1,y9.1]/\cs.length=Tryz.prog.cellsOf t/\DataW.trod enc Tryz.prog w base spare held n f0.type ((cs.drop f0.offset).take (Tryz.prog.cellsOf f0.type))=some y0/\DataW.trod enc Tryz.prog w base spare held n f1.type ((cs.drop f1.offset).take (Tryz.prog.cellsOf f1.type))=some y1/\DataW.trod enc Tryz.prog w base spare held n f2.type ((cs.drop f2.offset).take (Tryz.prog.cellsOf f2.type))=some y2/\DataW.trod enc Tryz.prog w base spare held n f3.type ((cs.drop f3.offset).take (Tryz.prog.cellsOf f3.type))=some y3/\DataW.trod enc Tryz.prog w base spare held n f4.type ((cs.drop f4.offset).take (Tryz.prog.cellsOf f4.type))=some y4/\DataW.trod enc Tryz.prog w base spare held n f5.type ((cs.drop f5.offset).take (Tryz.prog.cellsOf f5.type))=some y5/\DataW.trod enc Tryz.prog w base spare held n f6.type ((cs.drop f6.offset).take (Tryz.prog.cellsOf f6.type))=some y6/\DataW.trod enc Tryz.prog w base spare held n f7.type ((cs.drop f7.offset).take (Tryz.prog.cellsOf f7.type))=some y7/\DataW.trod enc Tryz.prog w base spare held n f8.type ((cs.drop f8.offset).take (Tryz.prog.cellsOf f8.type))=some y8/\DataW.trod enc Tryz.prog w base spare held n f9.type ((cs.drop f9.offset).take (Tryz.prog.cellsOf f9.type))=some y9:=by
 obtain⟨xs,n,_,rfl,hl,hlen,hf⟩:=DataW.trod_struct ht h;match xs,hlen with
 |[y0,y1,y2,y3,y4,y5,y6,y7,y8,y9],_=>exact⟨y0,y1,y2,y3,y4,y5,y6,y7,y8,y9,n,by simp,hl,by simpa using hf 0 f0 rfl,by simpa using hf 1 f1 rfl,by simpa using hf 2 f2 rfl,by simpa using hf 3 f3 rfl,by simpa using hf 4 f4 rfl,by simpa using hf 5 f5 rfl,by simpa using hf 6 f6 rfl,by simpa using hf 7 f7 rfl,by simpa using hf 8 f8 rfl,by simpa using hf 9 f9 rfl⟩
def aix{t:TypeId}{f0 f1 f2 f3 f4:Field}{fuel:Nat}{cs:List Value}{x:DataW H×List MemPlace}(ht:Tryz.prog.underlying t=some (.struct #[f0,f1,f2,f3,f4]))(h:DataW.trod enc Tryz.prog w base spare held fuel t cs=some x):
  ∃y0 y1 y2 y3 y4 n,cs.length=Tryz.prog.cellsOf t/\DataW.trod enc Tryz.prog w base spare held n f0.type ((cs.drop f0.offset).take (Tryz.prog.cellsOf f0.type))=some y0/\DataW.trod enc Tryz.prog w base spare held n f1.type ((cs.drop f1.offset).take (Tryz.prog.cellsOf f1.type))=some y1/\DataW.trod enc Tryz.prog w base spare held n f2.type ((cs.drop f2.offset).take (Tryz.prog.cellsOf f2.type))=some y2/\DataW.trod enc Tryz.prog w base spare held n f3.type ((cs.drop f3.offset).take (Tryz.prog.cellsOf f3.type))=some y3/\DataW.trod enc Tryz.prog w base spare held n f4.type ((cs.drop f4.offset).take (Tryz.prog.cellsOf f4.type))=some y4:=by
 obtain⟨xs,n,_,rfl,hl,hlen,hf⟩:=DataW.trod_struct ht h;match xs,hlen with
 |[y0,y1,y2,y3,y4],_=>exact⟨y0,y1,y2,y3,y4,n,hl,by simpa using hf 0 f0 rfl,by simpa using hf 1 f1 rfl,by simpa using hf 2 f2 rfl,by simpa using hf 3 f3 rfl,by simpa using hf 4 f4 rfl⟩
def Bh{k:IntKind}{q:Int}(hk:k=.u8\/k=.u32\/k=.u64)(h:(Lit.int k q).wf=true):∃n:Nat,q=n/\(k=.u8->n<256)/\(k=.u32->n<4294967296)/\(k=.u64->n<18446744073709551616):=by
 simp only[Lit.wf,cu,dh]at h;rcases hk with rfl|rfl|rfl
 .have h1:(IntKind.u8.min:Int)=0:=by decide
  have h2:(IntKind.u8.max:Int)=255:=by decide
  exact⟨q.toNat,by omega,λ_=>(by omega),λh=>(by cases h),λh=>(by cases h)⟩
 .have h1:(IntKind.u32.min:Int)=0:=by decide
  have h2:(IntKind.u32.max:Int)=4294967295:=by decide
  exact⟨q.toNat,by omega,λh=>(by cases h),λ_=>(by omega),λh=>(by cases h)⟩
 .have h1:(IntKind.u64.min:Int)=0:=by decide
  have h2:(IntKind.u64.max:Int)=18446744073709551615:=by decide
  exact⟨q.toNat,by omega,λh=>(by cases h),λh=>(by cases h),λ_=>by omega⟩
def avs(s:ByteArray):bs s.data.toList=s:=by obtain⟨d⟩:=s;simp[bs]
def Uz{fuel:Nat}{cs:List Value}{x:DataW H×List MemPlace}(h:DataW.trod enc Tryz.prog w base spare held fuel 9 cs=some x):∃l:Bi,cs=[sd l]:=by obtain⟨s,e0,rfl,_⟩:=DataW.trod_string Tryz.underlying9 h;exact⟨s.data.toList,by show _=[Value.string (bs _)];rw[avs];exact e0⟩
def acw{fuel:Nat}{cs:List Value}{x:DataW H×List MemPlace}(h:DataW.trod enc Tryz.prog w base spare held fuel 38 cs=some x):∃p q:Int,cs=[uw p,ui q]/\Ts p q:=by
 obtain⟨y0,y1,n,rfl,hl,h0,h1⟩:=trod_struct2 Tryz.underlying38 h;rw[cTs]at hl;match cs,hl with
 |[c0,c1],_=>
  simp only[cu64,cu32,o9,oq,xy,ny]at h0 h1;obtain⟨p,e0,rfl,w0⟩:=qp Tryz.underlying33 h0;obtain⟨q,e1,rfl,w1⟩:=qp Tryz.underlying34 h1;obtain⟨p,rfl,-,-,r0⟩:=Bh (.inr (.inr rfl)) w0;exact bbv
def Y8{fuel:Nat}{cs:List Value}{x:DataW H×List MemPlace}(h:DataW.trod enc Tryz.prog w base spare held fuel 36 cs=some x):∃p q:Int,cs=[ui p,ui q]/\Ver.R32 p/\Ver.R32 q:=by
 obtain⟨y0,y1,n,rfl,hl,h0,h1⟩:=trod_struct2 Tryz.underlying36 h;rw[cTxn]at hl;match cs,hl with
 |[c0,c1],_=>
  simp only[cu32,o9,oq,xy,ny]at h0 h1;obtain⟨p,e0,rfl,w0⟩:=qp Tryz.underlying34 h0;obtain⟨q,e1,rfl,w1⟩:=qp Tryz.underlying34 h1;obtain⟨p,rfl,-,r0,-⟩:=Bh (.inr (.inl rfl)) w0;exact bbv
def ar8{fuel:Nat}{cs:List Value}{x:DataW H×List MemPlace}(h:DataW.trod enc Tryz.prog w base spare held fuel 106 cs=some x):∃u:Wr,cs=Lat.wrc u/\True:=by
 obtain⟨y0,y1,y2,n,hx,hl,h0,h1,h2⟩:=asl Tryz.underlying106 h;rw[cWr]at hl;match cs,hl with
 |[c0,c1,c2],_=>
  simp only[cStr,c4,o9,oq,xy,ny]at h0 h1 h2;obtain⟨k,e0⟩:=Uz h0;obtain⟨v,e1⟩:=Uz h1;obtain⟨d,e2,-⟩:=DataW.trod_bool Tryz.underlying4 h2;simp only[o7,and_true]at e0 e1 e2;subst e0 e1 e2;exact⟨⟨k,v,d⟩,rfl,trivial⟩
def asf{fuel:Nat}{cs:List Value}{x:DataW H×List MemPlace}(h:DataW.trod enc Tryz.prog w base spare held fuel 36 cs=some x):∃u:Int×Int,cs=Lat.txc u/\True:=by obtain⟨p,q,e,-⟩:=Y8 h;exact⟨(p,q),e,trivial⟩
def U4{α:Type}(d:α)(vc:α->List Value)(size:Nat)(hsz:0<size)(hvc:∀a,(vc a).length=size){t e:TypeId}(ht:Tryz.prog.underlying t=some (.slice e))(hce:Tryz.prog.cellsOf e=size)
  (P:α->Prop) (hel:∀{n:Nat} {cs:List Value} {x:DataW H×List MemPlace},DataW.trod enc Tryz.prog w base (λ_=>true) held n e cs=some x->∃a,cs=vc a/\P a)
  {fuel:Nat} {v:Value} {x:DataW H×List MemPlace} (h:DataW.trod enc Tryz.prog w base (λ_=>true) held fuel t [v]=some x):
  ∃(L:List α) (ao:Option Addr) (cap:Nat),v=.slice ao L.length cap/\RwAt w.heap.size size (.slice ao L.length cap) L.length (L.flatMap vc) w/\(∀a∈L,P a):=by
 rcases open_slice ht h with⟨hcs,_⟩|⟨a,len,cap,m,n,D,Pl,hcs,_,hl,hm,hmm,hd,hx⟩
 .simp at hcs;subst hcs;exact⟨[],none,0,rfl,RwAt.nil _ _ _,by simp⟩
 .simp at hcs;subst hcs;rw[hce]at hx;obtain⟨b,off,spot⟩:=a;have hmc:m=cap:=by rw[hmm];rfl
  subst hmc;have each:∀i,i<m->∃f:α,P f/\(spot=none\/0<i)/\∀j u,(vc f)[j]?=some u->ce w b (off+i*size+j) u:=by
   intro i hi;obtain⟨cs',h1,h2⟩:=hx i (by omega);obtain⟨c,rfl,hP⟩:=hel h2;obtain⟨_,_,hc⟩:=World.cells?_some h1;have hsp:spot=none\/0<i:=by
    by_cases hi0:i=0
    .left;subst hi0;have h0:=hc 0 hsz;rw[show(vc c)[0]?=some ((vc c)[0]'(by rw[hvc];exact hsz))from bf _]at h0;simpa[Addr.add]using World.cell?_spot h0
    .right;omega
   have ha:(⟨b,off,spot⟩:Addr).add (i*size)=⟨b,off+i*size,none⟩:=by
    rcases hsp with rfl|h0
    .exact add_plain _ _ _
    .have:0<i*size:=Nat.mul_pos h0 hsz;simp[Addr.add];omega
   refine⟨c,hP,hsp,λj u hj=>?_⟩;have hjl:j<size:=by rw[<-hvc c];exact(gy.1 hj).1
   have:=hc j hjl;rw[ha,add_plain]at this;show w.cell? _=_;rw[this];exact hj
  haveI:Inhabited α:=⟨d⟩
  obtain⟨F,hF⟩:=choose_lt each;have hlen:((List.range len).map F).length=len:=by simp
  have hfl:∀(n:Nat),(((List.range n).map F).flatMap vc).length=n*size:=λn=>by
   induction n with
   |zero=>simp
   |succ n ih=>rw[List.range_succ,mr,List.flatMap_append,af,ih];simp[hvc,Nat.succ_mul]
  have hget:∀(n j:Nat) (u:Value),(((List.range n).map F).flatMap vc)[j]?=some u->∃i,i<n/\(vc (F i))[j-i*size]?=some u/\i*size<=j:=λn=>by
   induction n with
   |zero=>intro j u h;simp at h
   |succ n ih=>
    intro j u h;rw[List.range_succ,mr,List.flatMap_append]at h;by_cases hj:j<n*size
    .rw[List.getElem?_append_left (by rw[hfl];exact hj)]at h;obtain⟨i,hi,r⟩:=ih j u h;exact⟨i,by omega,r⟩
    .rw[List.getElem?_append_right (by rw[hfl];omega),hfl]at h;exact⟨n,by omega,by simpa using h,by omega⟩
  refine⟨(List.range len).map F,some ⟨b,off,spot⟩,m,by rw[hlen],⟨some ⟨b,off,spot⟩,m,rfl,by rw[hlen];exact hfl len,by rw[hlen];exact hl,by unfold maxLen at hm;omega,λh0=>⟨b,off,?_,?_,?_⟩⟩,?_⟩
  .rcases(hF 0 (by omega)).2.1 with rfl|h1
   .rfl
   .omega
  .intro _;have h1:(vc (F 0))[0]?=some ((vc (F 0))[0]'(by rw[hvc];exact hsz)):=bf _;exact df _ _ ((hF 0 (by omega)).2.2 0 _ h1)
  .intro j u hj;obtain⟨i,hi,hu,hle⟩:=hget len j u hj;have:=(hF i (by omega)).2.2 _ u hu;rw[show off+i*size+(j-i*size)=off+j from by omega]at this;exact this
  .intro a ha;obtain⟨i,hi,rfl⟩:=jb.1 ha;exact(hF i (by have:=List.mem_range.1 hi;omega)).1
def atd{fuel:Nat}{cs:List Value}{x:DataW H×List MemPlace}(h:DataW.trod enc Tryz.prog w base (λ_=>true) held fuel 42 cs=some x):
  ∃(q:Rq) (wa sa:Option Addr) (wc sc:Nat),cs=[iw q.k,ui q.c,ui q.n,uw q.sp,ui q.sl,uw q.ap,ui q.al,sd q.key,sd q.hi,iw q.lim,ub q.pt,.slice wa q.ws.length wc,.slice sa q.sk.length sc]/\QIn w q wa wc sa sc:=by
 obtain⟨y0,y1,y2,y3,y4,y5,y6,y7,y8,y9,n,hx,hl,h0,h1,h2,h3,h4,h5,h6,h7,h8,h9⟩:=anw Tryz.underlying42 h;rw[cRq]at hl;match cs,hl with
 |[k0,k1,k2,k3,k4,k5,k6,k7,k8,k9,k10,k11,k12],_=>
  simp only[c3,cTxn,cTs,cStr,cu8,cWs,cTx,o9,oq,xy,ny]at h0 h1 h2 h3 h4 h5 h6 h7 h8 h9;obtain⟨k,e0,-,w0⟩:=qp Tryz.underlying3 h0;obtain⟨c,m,e1,r1⟩:=Y8 h1;obtain⟨sp,sl,e2,r2⟩:=acw h2;obtain⟨ap,al,e3,r3⟩:=acw h3;obtain⟨key,e4⟩:=Uz h4;obtain⟨tt,e5⟩:=Uz h5;obtain⟨lim,e6,-,w6⟩:=qp Tryz.underlying3 h6;obtain⟨pt,e7,-,w7⟩:=qp Tryz.underlying5 h7;obtain⟨L,ao,cap,e8,hL,-⟩:=U4 ⟨[],[],false⟩ Lat.wrc 3 (by omega) (λ_=>rfl) Tryz.underlying39 cWr (λu=>True) ar8 h8;obtain⟨M,so,cas,e9,hM,-⟩:=U4 (0,0) Lat.txc 2 (by omega) (λ_=>rfl) Tryz.underlying40 cTxn (λu=>True) asf h9;obtain⟨pt,rfl,r7,-,-⟩:=Bh (.inl rfl) w7;simp only[o7,and_true]at e0 e1 e2 e3 e4 e5 e6 e7;obtain⟨e1,e1'⟩:=e1;obtain⟨e2,e2'⟩:=e2;obtain⟨e3,e3'⟩:=e3;subst e0 e1 e1' e2 e2' e3 e3' e4 e5 e6 e7 e8 e9;have:=r7 rfl;exact⟨⟨k,c,m,sp,sl,ap,al,key,tt,lim,pt,L,M⟩,ao,so,cap,cas,rfl,⟨⟨r1,r2,r3,by show(0:Int)<=(pt:Int);omega,by show(pt:Int)<256;omega⟩,hL,hM⟩⟩
def aqa{z:Int}(h:(Lit.int .i64 z).wf=true): -9223372036854775808<=z/\z<=9223372036854775807:=by
 simp only[Lit.wf,cu,dh]at h;have h1:IntKind.i64.min= -9223372036854775808:=by decide
 have h2:IntKind.i64.max=9223372036854775807:=by decide
 omega
def auy{fuel:Nat}{cs:List Value}{x:DataW H×List MemPlace}(h:DataW.trod enc Tryz.prog w base spare held fuel 3 cs=some x):∃z:Int,cs=[iw z]/\ -9223372036854775808<=z/\z<=9223372036854775807:=by obtain⟨z,e,-,wf⟩:=qp Tryz.underlying3 h;exact⟨z,e,aqa wf⟩
def ar0{fuel:Nat}{cs:List Value}{x:DataW H×List MemPlace}(h:DataW.trod enc Tryz.prog w base (λ_=>true) held fuel 45 cs=some x):∃a:Ac,cs=acc a/\AcOk w a:=by
 obtain⟨y0,y1,y2,y3,y4,n,hl,h0,h1,h2,h3,h4⟩:=aix Tryz.underlying45 h;rw[cAc]at hl;match cs,hl with
 |[k0,k1,k2,k3,k4,k5,k6,k7,k8,k9,k10,k11,k12,k13,k14,k15,k16],_=>
  simp only[c3,cu64,cRq,cIs,o9,oq,xy,ny]at h0 h1 h2 h3 h4;obtain⟨wh,e0,-,-⟩:=qp Tryz.underlying3 h0;obtain⟨nn,e1,-,w1⟩:=qp Tryz.underlying3 h1;obtain⟨ph,e2,-,w2⟩:=qp Tryz.underlying33 h2;obtain⟨ph,rfl,-,-,r2⟩:=Bh (.inr (.inr rfl)) w2;obtain⟨q,wa,sa,wc,sc,e3,hq⟩:=atd h3;obtain⟨ks,ka,kc,e4,hk,hb⟩:=U4 0 (λz=>[iw z]) 1 (by omega) (λ_=>rfl) Tryz.underlying43 c3 (λz=> -9223372036854775808<=z/\z<=9223372036854775807) auy h4;simp only[o7,and_true]at e0 e1 e2 e3;obtain⟨a0,a1,a2,a3,a4,a5,a6,a7,a8,a9,a10,a11,a12⟩:=e3;subst e0 e1 e2 a0 a1 a2 a3 a4 a5 a6 a7 a8 a9 a10 a11 a12 e4;have:=r2 rfl;exact⟨⟨wh,nn,ph,q,wa,wc,sa,sc,ka,ks,kc⟩,rfl,hq,(by show(0:Int)<=(ph:Int)/\(ph:Int)<=_;omega),aqa w1,hk,hb⟩
def acn{fuel:Nat}{v:Value}{x:DataW H×List MemPlace}(h:DataW.trod enc Tryz.prog w base (λ_=>true) held fuel 22 [v]=some x):∃(L:List Ac) (ao:Option Addr) (cap:Nat),v=.slice ao L.length cap/\N9 w (.slice ao L.length cap) L:=by obtain⟨L,ao,cap,e,hr,h1⟩:=U4 dac acc 17 (by omega) ael Tryz.underlying22 cAc (λa=>AcOk w a) ar0 h;exact⟨L,ao,cap,e,hr,h1⟩
def alh{fuel:Nat}{cs:List Value}{x:DataW H×List MemPlace}(h:DataW.trod enc Tryz.prog w base (λ_=>true) held fuel 69 cs=some x):
  ∃(A B:List Ac) (aa ab:Option Addr) (ca cb:Nat) (c n p l ph:Int),cs=[.slice aa A.length ca,.slice ab B.length cb,ui c,ui n,uw p,ui l,uw ph]/\N9 w (.slice aa A.length ca) A/\N9 w (.slice ab B.length cb) B/\(Ver.R32 c/\Ver.R32 n)/\Ts p l/\0<=ph/\ph<=18446744073709551615:=by
 obtain⟨y0,y1,y2,y3,y4,m,hl,h0,h1,h2,h3,h4⟩:=aix Tryz.underlying69 h;rw[cPu]at hl;match cs,hl with
 |[k0,k1,k2,k3,k4,k5,k6],_=>
  simp only[cAs,cu64,cTxn,cTs,o9,oq,xy,ny]at h0 h1 h2 h3 h4;obtain⟨A,aa,ca,e0,hA⟩:=acn h0;obtain⟨B,ab,cb,e1,hB⟩:=acn h1;obtain⟨c,n,e2,r2⟩:=Y8 h2;obtain⟨p,l,e3,r3⟩:=acw h3;obtain⟨ph,e4,-,w4⟩:=qp Tryz.underlying33 h4;obtain⟨ph,rfl,-,-,r4⟩:=Bh (.inr (.inr rfl)) w4;have:=r4 rfl;simp only[o7,and_true]at e2 e3 e4;obtain⟨e2,e2'⟩:=e2;obtain⟨e3,e3'⟩:=e3;subst e0 e1 e2 e2' e3 e3' e4;exact⟨A,B,aa,ab,ca,cb,c,n,p,l,ph,rfl,hA,hB,r2,r3,by omega,by omega⟩
end
