import Derived.KernelRfl
import Derived.Test.YtdplfgcoaddbdaaGreatXbh
set_option maxHeartbeats 4000000
set_option maxRecDepth 100000
set_option linter.unusedVariables false
set_option linter.unusedSimpArgs false
namespace Go.Proofs.YtdplfgcoaddbdaaGreat
open Go.RowKit
variable {SA:TyS}{TA:TyT}{BA:TyB}
variable {f:Fp}{M:Nat->Prop}{X:Sd}{a:Int}{g:Nat}{D:Drm.Dr}{w W W':World}{Lo:List (Nat×Obj)}
theorem wake45_new(E:Env SA TA BA)(h:ShAt SA TA BA f M Sd.new a g D w):Calls Tryz.prog 33 #[pz f.sb] w fun e w'=>e=.returned (.tuple #[])/\ShTo SA TA BA f M w Sd.new a g D w':=by
 have H0:Hid (Cx SA TA BA f M w Sd.new a g D [] w):=Cx.start h;have CN:Hid (∀W,Cx SA TA BA f M w Sd.new a g D [] W->Calls Tryz.prog 79 #[.agg #[uw 0,ui 0]] W fun r w'=>r=.returned (.tuple #[.agg #[uw 0,ui 1],iw 0])/\Cx SA TA BA f M w Sd.new a g D [] w'):=fun W hW=>(Clk.next19 0 0 W (Int.le_refl 0) (Int.le_refl 0)).mono fun r w' h=>⟨h.1,hW.on E h.2⟩;have CA:Hid (∀W,Cx SA TA BA f M w Sd.new a g D [] W->Calls Tryz.prog 25 #[pz f.la] W fun e w'=>(∃ao cap,e=.returned (.slice ao 0 cap))/\Cx SA TA BA f M w Sd.new a g D [] w'):=fun W hW=>by refine(hW.reads E (R:=fun e w'=>∃ao cap,e=.returned (.slice ao 0 cap)) fun M' hM=>?_).mono fun e w' h=>⟨h.1,h.2.1⟩;refine(sh_iall E hM (by show(0:Nat)<_;omega)).mono ?_;rintro e w' ⟨v',rfl,hi,-,hb⟩;obtain⟨ao,cap,rfl,-⟩:=hi;exact⟨⟨ao,cap,rfl⟩,hb⟩
 have HN:Hid (∀W,Cx SA TA BA f M w Sd.new a g D [] W->Cx SA TA BA f M w Sd.new a g D [] ((W.setCell ⟨f.sb,7,none⟩ (uw 0)).setCell ⟨f.sb,8,none⟩ (ui 0))):=fun W hW=>hW.setNow E 0 0;have HA:Hid (∀W,Cx SA TA BA f M w Sd.new a g D [] W->Cx SA TA BA f M w Sd.new a g D [] (W.alloc (.cells #[uw 0,ui 1] 28))):=fun W hW=>hW.on E (al _);have HC:Hid (∀W,Cx SA TA BA f M w Sd.new a g D [] W->ce W f.sb 3 (pz f.la)/\ce W f.sb 9 (uw 0)/\ce W f.sb 10 (ui 0)/\ce W f.sb 7 (uw 0)/\ce W f.sb 8 (ui 0)/\W.frozen? ⟨f.sb,7,none⟩=false/\W.frozen? ⟨f.sb,8,none⟩=false):=fun W hW=>⟨hW.ptrs.2.2.2.1,hW.nums.2.2.2.2.1,hW.nums.2.2.2.2.2,hW.nums.2.2.1,hW.nums.2.2.2.1,hW.free _,hW.free _⟩;have HE:Hid (∀W,Cx SA TA BA f M w Sd.new a g D [] W->ShTo SA TA BA f M w Sd.new a g D W):=fun W hW=>hW.to;clear h E;generalize f.sb=sb at*;generalize f.la=la at*;have zc3:=HC.out _ H0.out;go_enter Tryz.func33,Tryz.ntmps33;go_upto_region 1 with fail
 have H1:Hid _:=HN.out _ H0.out;obtain⟨W1,hW1⟩:=xj ((w.setCell ⟨sb,7,none⟩ (uw 0)).setCell ⟨sb,8,none⟩ (ui 0));rw[hW1]at H1|-;clear hW1 H0 zc3;have zc3:=HC.out _ H1.out;go_wp2_with fail;refine(CN.out _ H1.out).mono ?_;rintro e w2 ⟨rfl,h2⟩;have H2:Hid _:=h2;clear h2 H1 zc3;go_upto_region 2 with fail
 have H3:Hid _:=HA.out _ H2.out;obtain⟨W3,hW3⟩:=xj (w2.alloc (.cells #[uw 0,ui 1] 28));rw[hW3]at H3|-;clear hW3 H2;have zc3:=HC.out _ H3.out;go_wp2_with fail;refine(CA.out _ H3.out).mono ?_;rintro e w4 ⟨⟨ao,cap,rfl⟩,h4⟩;have H4:Hid _:=h4;clear h4 H3 zc3;go_wp2_with fail;go_loopw [33] (fun i wr=>i=iw 0/\wr=w4) (fun _ _=>0)
 case atStart=>exact⟨rfl,rfl⟩
 case round=>
  obtain⟨rfl,rfl⟩:=hrel;go_wp2_with fail;go_end0
  exact⟨rfl,HE.out _ H4.out⟩
theorem open15_new(E:Env SA TA BA)(pb:Nat)(D0:Drm.Dr)(hD:Drm.DrumAt pb D0 w)(hOk:D0.Ok)(hn:∀i,D0.has i=false)(hy:Lgs.layF D0 0 1 []=(0,D))(hok1:D.Ok):
  Calls Tryz.prog 17 #[pz pb] w fun e w'=>∃f M,e=.returned (.tuple #[pz f.sb,iw 0])/\ShAt SA TA BA f M Sd.new 0 1 D w'/\f.B=pb/\Below pb w w':=by
 have hplt:=hD.lt;have CO:Hid (1=1->Calls Tryz.prog 27 #[pz pb] w fun e w'=>∃lb ao cp,e=.returned (.tuple #[pz lb,.slice ao 0 cp,iw 0])/\Lgs.LgAt lb pb 0 1 D w'/\Below pb w w'):=fun _=>by refine(open39_new pb D0 D hn w hD hOk hy).mono ?_;rintro e w' ⟨lb,rfl,h1,h4⟩;exact⟨lb,_,_,rfl,h1,h4⟩
 have CS:Hid (∀W:World,1=1->_):=fun W _=>E.I.new W;have CT:Hid (∀W:World,1=1->_):=fun W _=>E.J.new W;have CV:Hid (∀W:World,1=1->_):=fun W _=>E.V.new W;have CK:Hid (∀(f:Fp) M W,ShAt SA TA BA f M Sd.new 0 1 D W->Calls Tryz.prog 33 #[pz f.sb] W fun e w'=>e=.returned (.tuple #[])/\ShTo SA TA BA f M W Sd.new 0 1 D w'):=fun f M W h=>wake45_new E h;have MK:Hid (∀(lb st la ve:Nat) (M1 M2 M3:Nat->Prop) (w1 w2 w3 w4:World),Lgs.LgAt lb pb 0 1 D w1->SA w1.heap.size st M1 [] w2->Below w1.heap.size w1 w2->TA w2.heap.size la M2 [] w3->Below w2.heap.size w2 w3->BA w3.heap.size ve M3 [] w4->Below w3.heap.size w3 w4->∃M,ShAt SA TA BA ⟨pb,w4.heap.size,pb,lb,st,la,ve,w1.heap.size,w2.heap.size,w3.heap.size⟩ M Sd.new 0 1 D (w4.alloc (.cells #[pz pb,pz lb,pz st,pz la,pz ve,uw 0,ui 0,uw 0,ui 0,uw 0,ui 0] 87))):=fun lb st la ve M1 M2 M3 w1 w2 w3 w4 h1 h2 b2 h3 b3 h4 b4=>by
  have kA:=al (W:=w4) (.cells #[pz pb,pz lb,pz st,pz la,pz ve,uw 0,ui 0,uw 0,ui 0,uw 0,ui 0] 87);have b24:Below w2.heap.size w2 (w4.alloc (.cells #[pz pb,pz lb,pz st,pz la,pz ve,uw 0,ui 0,uw 0,ui 0,uw 0,ui 0] 87)):=b3.trans ((b4.trans (kA.mono b4.size)).mono b3.size);have b34:Below w3.heap.size w3 (w4.alloc (.cells #[pz pb,pz lb,pz st,pz la,pz ve,uw 0,ui 0,uw 0,ui 0,uw 0,ui 0] 87)):=b4.trans (kA.mono b4.size);have b14:Below w1.heap.size w1 (w4.alloc (.cells #[pz pb,pz lb,pz st,pz la,pz ve,uw 0,ui 0,uw 0,ui 0,uw 0,ui 0] 87)):=b2.trans (b24.mono b2.size);have s12:=b2.size;have s23:=b3.size;have s34:=b4.size;have hlb:=Lgs.LbAt.lt h1.blk;have hpl:=h1.ne;have e1:=E.I.lt h2;have e2:=E.J.lt h3;have e3:=E.V.lt h4;refine⟨_,M1,M2,M3,⟨heap_alloc_new w4 _,lg_kept h1 (Kept.of_below (F:=fun _=>False) b14) (fun h=>h) (fun h=>h) (fun _ _ _ h=>h),hok1,E.I.keep h2 (Kept.of_below (F:=fun _=>False) b24) (fun _ _ h=>h) (fun _ h=>h.elim),E.J.keep h3 (Kept.of_below (F:=fun _=>False) b34) (fun _ _ h=>h),E.V.keep h4 (Kept.of_below (F:=fun _=>False) kA) (fun _ _ h=>h),fun k m1 m2=>?_,fun k m1 m3=>?_,fun k m2 m3=>?_,fun k hk=>?_,⟨?_,?_⟩,⟨?_,?_,?_,?_,?_⟩⟩,rfl⟩
  ·have:=e1 k m1;have:=e2 k m2;omega
  ·have:=e1 k m1;have:=e3 k m3;omega
  ·have:=e2 k m2;have:=e3 k m3;omega
  ·show k≠w4.heap.size/\k≠lb/\k≠pb;rcases hk with hk|hk|hk
   ·have:=e1 k hk;exact⟨by omega,by omega,by omega⟩
   ·have:=e2 k hk;exact⟨by omega,by omega,by omega⟩
   ·have:=e3 k hk;exact⟨by omega,by omega,by omega⟩
  all_goals (dsimp only;omega)
 have EB:Hid (∀(f:Fp) M W (W':World),ShAt SA TA BA f M Sd.new 0 1 D W->ShTo SA TA BA f M W Sd.new 0 1 D W'->f.B=pb->∃M',ShAt SA TA BA f M' Sd.new 0 1 D W'/\Below pb W W'):=fun f M W W' h1 h2 h3=>by obtain⟨M',h4,h5,-⟩:=h2;refine⟨M',h4,h5.below ?_ (fun k hk=>by rw[<-h3];exact h1.lo E hk)⟩;obtain⟨M1,M2,M3,hc,-⟩:=h1;have:=lt_of_block hc.blk;have:=hc.lo.1;omega
 have HP:Hid (pb<w.heap.size):=hplt;clear hD hOk hn hy hok1 E hplt;go_enter Tryz.func17,Tryz.ntmps17;go_wp2_with fail;refine(CO.out (by trivial)).mono ?_;rintro e w1 ⟨lb,ao,cp,rfl,h1,hb1⟩;have HB1:Hid (Below pb w w1):=hb1;have HL1:Hid (Lgs.LgAt lb pb 0 1 D w1):=h1;clear h1 hb1 CO;go_wp2_with fail;refine(CS.out _ (by trivial)).mono ?_;rintro e w2 ⟨st,M1,rfl,h2,hb2⟩;have H2:Hid (SA w1.heap.size st M1 [] w2/\Below w1.heap.size w1 w2):=⟨h2,hb2⟩;clear h2 hb2 CS;go_wp2_with fail;refine(CT.out _ (by trivial)).mono ?_;rintro e w3 ⟨la,M2,rfl,h3,hb3⟩;have H3:Hid (TA w2.heap.size la M2 [] w3/\Below w2.heap.size w2 w3):=⟨h3,hb3⟩;clear h3 hb3 CT;go_wp2_with fail;refine(CV.out _ (by trivial)).mono ?_;rintro e w4 ⟨ve,M3,rfl,h4,hb4⟩;obtain⟨M4,h5⟩:=MK.out lb st la ve M1 M2 M3 w1 w2 w3 w4 HL1.out H2.out.1 H2.out.2 H3.out.1 H3.out.2 h4 hb4;have HB4:Hid (Below pb w w4):=by have s1:=HB1.out.size;have hp:=HP.out;refine HB1.out.trans ((H2.out.2.trans ((H3.out.2.trans (hb4.mono H3.out.2.size)).mono H2.out.2.size)).mono ?_);omega
 clear h4 hb4 CV MK HB1 HL1 H2 H3;go_upto_region 5 with fail
 obtain⟨W5,hW5⟩:=xj (w4.alloc (.cells #[pz pb,pz lb,pz st,pz la,pz ve,uw 0,ui 0,uw 0,ui 0,uw 0,ui 0] 87));have HB5:Hid (Below pb w W5):=by rw[<-hW5];exact HB4.out.alloc (by have:=HB4.out.size;have:=HP.out;omega) _
 rw[hW5]at h5|-;obtain⟨sb,hsb⟩:=xj w4.heap.size;rw[hsb]at h5|-;obtain⟨F,hF⟩:∃F:Fp,F=⟨pb,sb,pb,lb,st,la,ve,w1.heap.size,w2.heap.size,w3.heap.size⟩:=⟨_,rfl⟩;rw[<-hF]at h5;have H5:Hid (ShAt SA TA BA F M4 Sd.new 0 1 D W5):=h5;have HF:Hid (F.sb=sb/\F.B=pb):=by rw[hF];exact⟨rfl,rfl⟩
 have CK5:Hid (1=1->Calls Tryz.prog 33 #[pz sb] W5 fun e w'=>e=.returned (.tuple #[])/\ShTo SA TA BA F M4 W5 Sd.new 0 1 D w'):=fun _=>by have:=CK.out F M4 W5 H5.out;rw[HF.out.1]at this;exact this
 clear h5 hsb hW5 hF CK HB4;go_wp2_with fail;go_loopw [30] (fun i wr=>i=iw 0/\wr=W5) (fun _ _=>0)
 case atStart=>exact⟨rfl,rfl⟩
 case round=>
  obtain⟨rfl,rfl⟩:=hrel;go_wp2_with fail;refine(CK5.out (by trivial)).mono ?_;rintro e w6 ⟨rfl,h6⟩;obtain⟨M6,h7,hb7⟩:=EB.out _ _ _ _ H5.out h6 HF.out.2;have HB6:Hid (Below pb w w6):=HB5.out.trans hb7;have H7:Hid (ShAt SA TA BA F M6 Sd.new 0 1 D w6):=h7;clear h6 h7 hb7 CK5;go_wp2_with fail
  go_ret2
  exact⟨F,M6,by rw[HF.out.1];rfl,H7.out,HF.out.2,HB6.out⟩
def qA:Rq:=⟨3,1,0,5,0,0,0,[97],[],0,0,[⟨[97],[118],false⟩],[]⟩
def qB:Rq:=⟨4,1,0,0,0,5,1,[],[],0,1,[],[]⟩
def qC:Rq:=⟨1,0,0,5,1,0,0,[97],[],0,0,[],[]⟩
def XA:Sd:=⟨[],[([97],⟨1,0,5,0,5,1,[97],[118],false⟩)],[],0,0,5,1,69,4095⟩
def XB:Sd:=⟨[([97],[⟨5,1,1,0,[118],false⟩])],[],[⟨1,0,5,0,5,1,1,false⟩],0,0,5,1,69,4095⟩
def rA:Rp:=⟨4,0,false,[],[],0,0,0,0,5,1,[],5,1⟩
def rB:Rp:=⟨5,0,false,[],[],0,0,0,0,5,1,[],5,1⟩
def rC:Rp:=⟨1,0,true,[118],[],0,0,0,0,0,0,[],5,1⟩
def DO:Drm.Dr:=(Lgs.layF (Drm.Dr.new 10000) 0 1 []).2
def DA:Drm.Dr:=(handF 5 qA Sd.new 0 DO).2.2
def DB:Drm.Dr:=(handF 5 qB XA 0 DA).2.2
theorem open_is:Lgs.layF (Drm.Dr.new 10000) 0 1 []=(0,DO):=by kernel_rfl
theorem new_has(i:Int):(Drm.Dr.new 10000).has i=false:=by simp[Drm.Dr.has,Drm.Dr.new,Drm.Pt.none]
theorem rA_is:(handF 5 qA Sd.new 0 DO).1=rA:=by kernel_rfl
theorem XA_is:(handF 5 qA Sd.new 0 DO).2.1=XA:=by kernel_rfl
theorem rB_is:(handF 5 qB XA 0 DA).1=rB:=by kernel_rfl
theorem XB_is:(handF 5 qB XA 0 DA).2.1=XB:=by kernel_rfl
theorem rC_is:(handF 5 qC XB 0 DB).1=rC:=by kernel_rfl
theorem lay_ok{D:Drm.Dr}(h:D.Ok)(a:Int)(g:Nat)(R:List (List UInt8)):(Lgs.layF D a g R).2.Ok:=by
 unfold Lgs.layF;split
 ·exact h.lay a
 ·exact Lgs.putF_ok (h.lay a) _ _
theorem DO_ok:DO.Ok:=lay_ok (Drm.Dr.Ok.new 10000 (by decide) (by decide)) _ _ _
theorem Cx.grow(E:Env SA TA BA)(h:Cx SA TA BA f M w X a g D Lo W)(hb:Below W.heap.size W W'){b:Nat}(hlt:W.heap.size<=b){cs:Array Value}{ty:TypeId}(ho:W'.heap[b]?=some (.cells cs ty (0,0)))(ht:ty≠5):Cx SA TA BA f M w X a g D ((b,.cells cs ty (0,0))::Lo) W':=by
 obtain⟨⟨M',h1,h2,h3⟩,h4,h5⟩:=h;have hl:∀k,M' k->k<W.heap.size:=fun k hk=>h1.lt E hk;obtain⟨M1,M2,M3,hc,rfl⟩:=h1;refine⟨⟨_,⟨M1,M2,M3,hc.on E hb,rfl⟩,fun i hi=>?_,fun p hp hi=>?_⟩,h4.trans (Kept.of_below (F:=fun _=>False) hb) (fun _ e=>e.elim),fun p hp=>?_⟩
 ·rcases In_kept (G:=fun _=>False) (Kept.of_below hb) hi with e|e|e
  ·exact h2 i e
  ·exact .inr (Nat.le_trans h4.size e)
  ·exact e.elim
 ·rcases List.mem_cons.1 hp with rfl|hp
  ·dsimp only at hi;rcases hi with e|e|e|e|e|e|⟨-,cs',fz,e⟩
   ·have:=hl _ (.inl e);omega
   ·have:=hl _ (.inr (.inl e));omega
   ·have:=hl _ (.inr (.inr (.inl e)));omega
   ·have:=hl _ (.inr (.inr (.inr (.inl e))));omega
   ·have:=hl _ (.inr (.inr (.inr (.inr (.inl e)))));omega
   ·have:=hl _ (.inr (.inr (.inr (.inr (.inr (.inl e))))));omega
   ·rw[ho]at e;injection e with e;injection e with _ e _;exact ht e
  ·rcases In_kept (G:=fun _=>False) (Kept.of_below hb) hi with e|e|e
   ·exact h3 p hp e
   ·have:=h5.lt p hp;omega
   ·exact e.elim
 ·rcases List.mem_cons.1 hp with rfl|hp
  ·exact ho
  ·exact(h5.on hb) p hp
theorem ts_small{p l:Int}(h0:0<=p)(h1:p<100)(h2:0<=l)(h3:l<5000):Ts p l:=⟨⟨h0,by omega⟩,h2,by omega⟩
theorem ok_new:XOk Sd.new:=⟨ts_small (by decide) (by decide) (by decide) (by decide),ts_small (by decide) (by decide) (by decide) (by decide),ts_small (by decide) (by decide) (by decide) (by decide),fun _ h=>by simp[holdF,Sd.new]at h,fun _ h=>by simp[Sd.new]at h,fun _ h=>by simp[Sd.new]at h⟩
theorem ok_A:XOk XA:=⟨ts_small (by decide) (by decide) (by decide) (by decide),ts_small (by decide) (by decide) (by decide) (by decide),ts_small (by decide) (by decide) (by decide) (by decide),fun x h=>by
  simp[holdF,XA]at h;subst h;exact⟨⟨by decide,by decide⟩,⟨by decide,by decide⟩⟩,fun x h=>by
  simp[XA]at h;subst h;exact⟨ts_small (by decide) (by decide) (by decide) (by decide),ts_small (by decide) (by decide) (by decide) (by decide)⟩,fun _ h=>by simp[XA]at h⟩
theorem ok_B:XOk XB:=⟨ts_small (by decide) (by decide) (by decide) (by decide),ts_small (by decide) (by decide) (by decide) (by decide),ts_small (by decide) (by decide) (by decide) (by decide),fun _ h=>by simp[holdF,XB]at h,fun _ h=>by simp[XB]at h,fun v h=>by simp[XB]at h;subst h;exact⟨⟨by decide,by decide⟩,⟨by decide,by decide⟩,⟨by decide,by decide⟩,⟨by decide,by decide⟩,⟨by decide,by decide⟩,⟨by decide,by decide⟩,⟨by decide,by decide⟩⟩⟩
theorem ok_q(q:Rq)(hc:Ver.R32 q.c/\Ver.R32 q.n)(hs:Ts q.sp q.sl)(ha:Ts q.ap q.al)(hp:Ver.R8 q.pt):RqOk q:=⟨hc,hs,ha,hp⟩
theorem third(w:World)(A B C:Obj):(((w.alloc A).alloc B).alloc C).heap[w.heap.size+1]?=some B/\(((w.alloc A).alloc B).alloc C).heap[w.heap.size+1+1]?=some C/\Below w.heap.size w (((w.alloc A).alloc B).alloc C):=by
 refine⟨?_,?_,(((Below.refl _ _).alloc (Nat.le_refl _) A).alloc (by simp) B).alloc (by simp;omega) C⟩
 ·rw[(al (W:=(w.alloc A).alloc B) C).block _ (by simp)];have:=heap_alloc_new (w.alloc A) B;simpa using this
 ·have:=heap_alloc_new ((w.alloc A).alloc B) C;simpa using this
theorem lay33(w:World):Calls Tryz.prog 18 #[.agg #[ui 1,ui 0],uw 5,.string ⟨#[97]⟩] w fun e w'=>∃b,e=.returned (.agg #[iw 3,ui 1,ui 0,uw 5,ui 0,uw 0,ui 0,.string ⟨#[97]⟩,su,iw 0,ub 0,.slice (some ⟨b,0,none⟩) 1 1,sy])/\w.heap.size<=b/\w'.heap[b]?=some (.cells #[.string ⟨#[97]⟩,.string ⟨#[118]⟩,.bool false] 67 (0,0))/\Below w.heap.size w w':=by go_enter Tryz.func18,Tryz.ntmps18;go_wp2_with fail;obtain⟨h1,h2,h3⟩:=third w (.cells #[ui 1,ui 0] 26) (.cells #[iw 3,ui 1,ui 0,uw 5,ui 0,uw 0,ui 0,.string ⟨#[97]⟩,su,iw 0,ub 0,.slice (some ⟨w.heap.size+1+1,0,none⟩) 1 1,sy] 32) (.cells #[.string ⟨#[97]⟩,.string ⟨#[118]⟩,.bool false] 67);refine bodyPost_ret (results_cell_row rfl _ _ (w.heap.size+1) 32 _ (0,0) _ rfl h1 Tryz.underlying32 rfl (by kernel_rfl)) rfl ?_;exact⟨_,rfl,by omega,h2,h3⟩
end Go.Proofs.YtdplfgcoaddbdaaGreat
