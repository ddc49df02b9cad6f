import Derived.RangeFuncBound
import Derived.RangeFuncCalls
import Derived.RangeFuncLeaves
import Derived.Shelf.Abstract
import Derived.Shelf.AbstractIn
import Derived.Shelf.RegionOpen
import Derived.OwnWalkIn
import Derived.TacticsInMore
import Derived.LoopNIn
import Derived.LoopIn
import Derived.Test.YtnfpfbehebcdpaaGreatUbe
set_option maxHeartbeats 0
set_option maxRecDepth 99999
set_option linter.all false
namespace Go.Proofs.YtnfpfbehebcdpaaGreat.Ver
open Go.RowKit
def kd(x:Vd):Int×Int:=(x.c,x.n)
def Kd(m:Bk):Prop:=m.Pairwise λx y=>kd x≠kd y
structure Rl(m K:Bk):Prop where
 srt:SrtV K
 perm:K.Perm m
def ags{K:Bk}(h:SrtV K):Kd K:=h.imp λ{a b} hab e=>by have e1:a.c=b.c:=iq Prod.fst e;have e2:a.n=b.n:=iq Prod.snd e;rw[e1,e2,P8]at hab;cases hab
def Rl.apart{m K:Bk}(h:Rl m K):Kd m:=(h.perm.pairwise_iff (λ{_ _} hne=>Ne.symm hne)).1 (ags h.srt)
def Rl.len{m K:Bk}(h:Rl m K):m.length=K.length:=h.perm.length_eq.symm
def Rl.nil:Rl [] []:=⟨anz,List.Perm.refl _⟩
def Qb{k:Int×Int}{o:Vd}:∀{m:Bk},Kd m->(m.find? (Gv.isK kd k)=some o↔o∈m/\kd o=k)
 |[],_=>by simp
 |x::m,h=>by
  obtain⟨h1,h2⟩:=dh.1 h;rw[List.find?_cons];split
  .rename_i e;have e':kd x=k:=by simpa[Gv.isK]using e
   constructor
   .intro ho;injection ho with ho;subst ho;exact⟨ji ..,e'⟩
   .rintro⟨ho,hk⟩;rcases au.1 ho with rfl|ho
    .rfl
    .exact absurd (e'.trans hk.symm) (h1 o ho)
  .rename_i e;rw[Qb h2];constructor
   .rintro⟨a,b⟩;exact⟨gy _ a,b⟩
   .rintro⟨a,b⟩;rcases au.1 a with rfl|a
    .simp[Gv.isK,b]at e
    .exact⟨a,b⟩
def acd(c n:Int):∀m:Bk,getB c n m=m.find? (Gv.isK kd (c,n))
 |[]=>rfl
 |x::m=>by
  unfold getB;rw[List.find?_cons,acd c n m];have:Gv.isK kd (c,n) x=ofN c n x:=by simp only[Gv.isK,kd,ofN,ny];by_cases h1:x.c=c<;>by_cases h2:x.n=n<;>simp[h1,h2]
  rw[this];cases ofN c n x<;>rfl
def Rl.get{m K:Bk}(h:Rl m K)(c n:Int):m.find? (Gv.isK kd (c,n))=getB c n K:=by
 rw[acd];cases hm:m.find? (Gv.isK kd (c,n))with
 |some o=>
  obtain⟨h1,h2⟩:=(Qb h.apart).1 hm;exact((Qb (ags h.srt)).2 ⟨h.perm.mem_iff.2 h1,h2⟩).symm
 |none=>
  cases hK:K.find? (Gv.isK kd (c,n))with
  |none=>rfl
  |some o=>
   obtain⟨h1,h2⟩:=(Qb (ags h.srt)).1 hK;have:=(Qb h.apart).2 ⟨h.perm.mem_iff.1 h1,h2⟩;rw[hm]at this;cases this
def afu(v:Vd):∀B:Bk,(insB v B).Perm (v::B)
 |[]=>List.Perm.refl _
 |x::B=>by
  unfold insB;split
  .exact((afu v B).cons x).trans (List.Perm.swap v x B)
  .exact List.Perm.refl _
def Rl.ins{m K:Bk}{v:Vd}(h:Rl m K)(hg:getB v.c v.n K=none):Rl (m++[v]) (insB v K):=⟨aj7 h.srt hg,(afu v K).trans ((h.perm.cons v).trans (List.perm_append_singleton v m).symm)⟩
def aoc{m:Bk}{j:Nat}{o:Vd}{c n:Int}(hk:Kd m)(hj:m[j]?=some o)(ho:kd o=(c,n)):m.set j {o with dn:=true}=P6 c n m:=by
 have hjl:=(gu.1 hj).1;have hjo:=(gu.1 hj).2;refine List.ext_getElem? (λi=>?_);unfold P6;rw[List.getElem?_set,qm];by_cases hij:j=i
 .subst hij;rw[ah rfl,ah hjl,hj];have:ofN c n o=true:=adl.2 ⟨iq Prod.fst ho,iq Prod.snd ho⟩;simp[this]
 .rw[ag hij];cases hi:m[i]?with
  |none=>rfl
  |some x=>
   have hil:=(gu.1 hi).1;have hix:=(gu.1 hi).2;have hne:kd x≠kd o:=by
    rw[<-hix,<-hjo];rcases Nat.lt_or_gt_of_ne hij with hl|hl
    .exactλe=>wu.1 hk j i hjl hil hl e.symm
    .exact wu.1 hk i j hil hjl hl
   have:ofN c n x=false:=by rw[<-Bool.not_eq_true];intro e;obtain⟨e1,e2⟩:=adl.1 e;exact hne (by rw[ho];exact Prod.ext e1 e2)
   simp[this]
def Rl.done{m K:Bk}{j:Nat}{o:Vd}{c n:Int}(h:Rl m K)(hj:m[j]?=some o)(ho:kd o=(c,n)):Rl (m.set j {o with dn:=true}) (P6 c n K):=by rw[aoc h.apart hj ho];exact⟨aq6 h.srt c n,h.perm.map _⟩
def Rl.filt{m m' K:Bk}(h:Rl m K)(p:Vd->Bool)(hm:m'.Perm (m.filter p)):Rl m' (K.filter p):=⟨aqw h.srt p,(h.perm.filter p).trans hm.symm⟩
def Rl.sorted{m K L:Bk}(h:Rl m K)(hp:L.Perm m)(hs:L.Pairwise λx y=>ltT y.c y.n x.c x.n=false):L=K:=by
 have hL:Kd L:=(hp.pairwise_iff (λ{_ _} hne=>Ne.symm hne)).2 h.apart;have hS:SrtV L:=(List.pairwise_and_iff.2 ⟨hs,hL⟩).imp (λ{a b} ⟨h1,h2⟩=>by
  cases h3:ltT a.c a.n b.c b.n with
  |true=>rfl
  |false=>
   obtain⟨e1,e2⟩:=ajx h3 h1;exact absurd (Prod.ext e1 e2) h2)
 exact Ls hS h.srt (λx=>by rw[hp.mem_iff,h.perm.mem_iff])
def aie(x:Vd)(w:World):cpr 127 #[.agg #[ui x.c,ui x.n,uw x.sp,ui x.sl,uw x.ap,ui x.al,ub x.pt,.bool x.dn]] w λe w'=>e=.returned (.bool (cmB x))/\Bw w w':=by have hq:=abo x.ap x.al 0 0;have HB:Hid (∀o,Bw w (w.alloc o)):=λo=>al o;have HC:Hid (cmB x= !(x.ap==0&&x.al==0)):=rfl;generalize (x.ap==0&&x.al==0)=z at*;go_enter Tryz.func127,Tryz.ntmps127;go_wp2_with fail;go_ret;exact⟨by rw[HC.out];rfl,HB.out _⟩
def ovB(x:Vd):Bool:=x.dn|| !cmB x
def aya(x:Vd)(w:World):cpr 126 #[.agg #[ui x.c,ui x.n,uw x.sp,ui x.sl,uw x.ap,ui x.al,ub x.pt,.bool x.dn]] w λe w'=>e=.returned (.bool (ovB x))/\Bw w w':=by
 obtain⟨c,n,sp,sq,ap,aq,pt,dn⟩:=x;have HB:Hid (∀o,Bw w (w.alloc o)):=λo=>al o;have CC:Hid (∀W,1=1->_):=λW _=>aie ⟨c,n,sp,sq,ap,aq,pt,dn⟩ W;have HC:Hid (ovB ⟨c,n,sp,sq,ap,aq,pt,dn⟩=(dn|| !cmB ⟨c,n,sp,sq,ap,aq,pt,dn⟩)):=rfl;generalize cmB ⟨c,n,sp,sq,ap,aq,pt,dn⟩=z at*;cases dn
 .go_enter Tryz.func126,Tryz.ntmps126;go_wp2_with fail;refine(CC.out _ (by simp)).mono ?_;rintro e w1 ⟨rfl,hb1⟩;have HB1:Hid (Bw w w1):=(HB.out _).trans (hb1.mono (HB.out _).size);clear hb1;cases z
  .go_wp2_with fail;go_ret;exact⟨by rw[HC.out];rfl,HB1.out⟩
  .go_wp2_with fail;go_ret;exact⟨by rw[HC.out];rfl,HB1.out⟩
 .go_enter Tryz.func126,Tryz.ntmps126;go_wp2_with fail;go_ret;exact⟨by rw[HC.out];rfl,HB.out _⟩
def atg(x:Vd)(w:World):cpr 117 #[.agg #[ui x.c,ui x.n,uw x.sp,ui x.sl,uw x.ap,ui x.al,ub x.pt,.bool x.dn]] w λe w'=>e=.returned (.bool (okV x))/\Bw w w':=by
 obtain⟨c,n,sp,sq,ap,aq,pt,dn⟩:=x;have CC:Hid (∀W,1=1->_):=λW _=>aie ⟨c,n,sp,sq,ap,aq,pt,dn⟩ W;have C1:Hid (∀W,1=1->_):=λW _=>Jb sp sq W;have C2:Hid (∀W,1=1->_):=λW _=>Jb ap aq W;have HO:Hid (okV ⟨c,n,sp,sq,ap,aq,pt,dn⟩=(Ag sp sq&&Ag ap aq&&(cmB ⟨c,n,sp,sq,ap,aq,pt,dn⟩||(pt==0&& !dn)))):=rfl;generalize okV ⟨c,n,sp,sq,ap,aq,pt,dn⟩=y at*;generalize cmB ⟨c,n,sp,sq,ap,aq,pt,dn⟩=z at*;generalize Ag sp sq=r1 at*;generalize Ag ap aq=r2 at*;obtain⟨W0,hW0⟩:=xj (w.alloc (.cells #[ui c,ui n,uw sp,ui sq,uw ap,ui aq,ub pt,.bool dn] 143));have HB0:Hid (Bw w W0):=by rw[<-hW0];exact al _
 have hx0:W0.heap[w.heap.size]?=some (.cells #[ui c,ui n,uw sp,ui sq,uw ap,ui aq,ub pt,.bool dn] 143 (0,0)):=by rw[<-hW0];exact ae w _
 have HV:Hid (∀W,Bw W0 W->VdAt W w.heap.size 0 ⟨c,n,sp,sq,ap,aq,pt,dn⟩):=λW hb=>by
  have hx:W.heap[w.heap.size]?=some (.cells #[ui c,ui n,uw sp,ui sq,uw ap,ui aq,ub pt,.bool dn] 143 (0,0)):=by rw[hb.block _ (gsz hx0)];exact hx0
  exact⟨Aa hx rfl,Aa hx rfl,Aa hx rfl,Aa hx rfl,Aa hx rfl,Aa hx rfl,Aa hx rfl,Aa hx rfl⟩
 clear hx0;obtain⟨c0,c1,c2,c3,c4,c5,c6,c7⟩:=HV.out W0 (aj _ _);go_enter Tryz.func117,Tryz.ntmps117;go_wp2_with fail;refine(C1.out W0 (by simp)).mono ?_;rintro e w1 ⟨rfl,hb1⟩;clear c0 c1 c2 c3 c4 c5 c6 c7;obtain⟨c0,c1,c2,c3,c4,c5,c6,c7⟩:=HV.out w1 hb1;have HB1:Hid (Bw W0 w1):=hb1;have HX:Hid (∀W,Bw W0 W->Bw w W):=λW hb=>HB0.out.trans (hb.mono HB0.out.size);clear hb1 hW0;cases r1
 .go_wp2_with fail;go_ret;exact⟨by rw[HO.out];rfl,HX.out _ HB1.out⟩
 .go_wp2_with fail;refine(C2.out w1 (by simp)).mono ?_;rintro e w2 ⟨rfl,hb2⟩;have HB2:Hid (Bw W0 w2):=HB1.out.trans (hb2.mono HB1.out.size);clear c0 c1 c2 c3 c4 c5 c6 c7 hb2;obtain⟨c0,c1,c2,c3,c4,c5,c6,c7⟩:=HV.out w2 HB2.out;cases r2
  .go_wp2_with fail;go_ret;exact⟨by rw[HO.out];rfl,HX.out _ HB2.out⟩
  .go_wp2_with fail;refine(CC.out w2 (by simp)).mono ?_;rintro e w3 ⟨rfl,hb3⟩;have HB3:Hid (Bw W0 w3):=HB2.out.trans (hb3.mono HB2.out.size);clear c0 c1 c2 c3 c4 c5 c6 c7 hb3;obtain⟨c0,c1,c2,c3,c4,c5,c6,c7⟩:=HV.out w3 HB3.out;cases z
   .by_cases hp:pt=0
    .subst hp;cases dn
     .exact bbo
     .exact bbo
    .have hp':(pt==0)=false:=by simpa using hp
     go_wp2_with fail;go_ret;exact⟨by rw[HO.out,hp'];rfl,HX.out _ HB3.out⟩
   .exact bbo
structure Bo(B p hb:Nat)(m K:Bk)(w:World):Prop where
 box:w.heap[p]?=some (.cells #[.map (some hb)] 129 (0,0))
 map:Gv.At kd vdV hb m w
 rel:Rl m K
 lo:B<=p
 lh:B<=hb
def Bo.kept{B p hb:Nat}{m K:Bk}{w w':World}{F:Nat->Prop}(h:Bo B p hb m K w)(hk:Kept F w w')(h1:¬F p)(h2:¬F hb):Bo B p hb m K w':=
 ⟨by rw[hk.block p (gsz h.box) h1];exact h.box,h.map.kept hk h2,h.rel,h.lo,h.lh⟩
def Bo.on{B p hb:Nat}{m K:Bk}{w w':World}(h:Bo B p hb m K w)(hb':Bw w w'):Bo B p hb m K w':=h.kept (F:=λ_=>False) (Kept.of_below hb') (λh=>h) (λh=>h)
def Bo.cell{B p hb:Nat}{m K:Bk}{w:World}(h:Bo B p hb m K w):ce w p 0 (.map (some hb)):=Aa h.box rfl
def Bo.ne{B p hb:Nat}{m K:Bk}{w:World}(h:Bo B p hb m K w):p≠hb:=by obtain⟨es,cl,h1,_⟩:=h.map;intro e;have:=h.box;rw[e,h1]at this;cases this
def BoAt(B p:Nat)(M:Nat->Prop)(K:Bk)(w:World):Prop:=∃hb m,Bo B p hb m K w/\∀k,M k↔k=p\/k=hb
def BoAt.lt{B p:Nat}{M:Nat->Prop}{K:Bk}{w:World}(h:BoAt B p M K w)(k:Nat)(hk:M k):B<=k/\k<w.heap.size:=by
 obtain⟨hb,m,h,hM⟩:=h;rcases(hM k).1 hk with rfl|rfl
 .exact⟨h.lo,(gsz h.box)⟩
 .exact⟨h.lh,h.map.lt⟩
def BoAt.keep{B p:Nat}{M G:Nat->Prop}{K:Bk}{w w':World}(h:BoAt B p M K w)(hk:Kept G w w')(hM:∀k,M k->¬G k):BoAt B p M K w':=by obtain⟨hb,m,h,hM'⟩:=h;exact⟨hb,m,h.kept hk (hM p ((hM' p).2 (.inl rfl))) (hM hb ((hM' hb).2 (.inr rfl))),hM'⟩
def vz(o:Option Vd):Vd:=o.getD dv
def ahi(o:Option Vd):ofV o=.tuple #[vdV (vz o),.bool o.isSome]:=by cases o<;>rfl
def V9{b:Nat}{m:Bk}{w:World}(h:Gv.At kd vdV b m w)(c n:Int):(Instr.lookup 127 (.map (some b)) (.agg #[ui c,ui n]) true).run Tryz.prog w=.ok (.tuple #[vdV (vz (m.find? (Gv.isK kd (c,n)))),.bool (m.find? (Gv.isK kd (c,n))).isSome]) w:=by
 show(Instr.lookup 127 (.map (some b)) (Gv.kx (c,n)) true).run Tryz.prog w=_;obtain⟨es,cl,h1,h2,_⟩:=h;cases hg:m.find? (Gv.isK kd (c,n))with
 |none=>
  simp[Instr.lookup,jw Tryz.underlying127,jf h1,Gv.Em,Gv.Ej (c,n) h2,Gv.Vg (i:=0) hg,Result.andThen];rfl
 |some t=>
  obtain⟨j,g1,_⟩:=Gv.Q7 (i:=0) hg;simp[Instr.lookup,jw Tryz.underlying127,jf h1,Gv.Em,Gv.Ej (c,n) h2,g1,Result.andThen];rfl
def Yi(w:World):cpr 22 #[] w λe w'=>∃p M,e=.returned (pz p)/\BoAt w.heap.size p M [] w'/\Bw w w':=by
 have hmm:=@run_makeMap Tryz.prog;go_enter Tryz.func22,Tryz.ntmps22;go_wp2_with fail;go_ret;refine⟨_,λk=>k=w.heap.size+1\/k=w.heap.size,rfl,⟨w.heap.size,[],⟨?_,?_,Rl.nil,yt _,ai _⟩,λk=>Iff.rfl⟩,(al _).alloc (by simp) _⟩
 .have:=ae (w.alloc (.map #[] 0)) (.cells #[.map (some w.heap.size)] 129)
  rwa [Lt]at this
 .exact(Gv.At.new w).on (al _)
def ah8(W:World)(b:Nat)(x:Vd):Kept (λi=>i=b) W ((((((((W.setCell ⟨b,0,none⟩ (ui x.c)).setCell ⟨b,1,none⟩ (ui x.n)).setCell ⟨b,2,none⟩ (uw x.sp)).setCell ⟨b,3,none⟩ (ui x.sl)).setCell ⟨b,4,none⟩ (uw x.ap)).setCell ⟨b,5,none⟩ (ui x.al)).setCell ⟨b,6,none⟩ (ub x.pt)).setCell ⟨b,7,none⟩ (.bool x.dn)):=by have t:∀{w1 w2 w3:World},Kept (λi=>i=b) w1 w2->Kept (λi=>i=b) w2 w3->Kept (λi=>i=b) w1 w3:=λh k=>h.trans k (λi e=>.inl e);exact t (t (t (t (t (t (t (Ai _ _ _ _) (Ai _ _ _ _)) (Ai _ _ _ _)) (Ai _ _ _ _)) (Ai _ _ _ _)) (Ai _ _ _ _)) (Ai _ _ _ _)) (Ai _ _ _ _)
def of15{B p hb:Nat}{m K:Bk}{w:World}(c n:Int)(h:Bo B p hb m K w):cpr 118 #[pz p,.agg #[ui c,ui n]] w λe w'=>e=.returned (ofV (getB c n K))/\Bw w w':=by
 obtain⟨Wa,hWa⟩:=xj (w.alloc (.cells #[ui c,ui n] 36));have hba:Bw w Wa:=by rw[<-hWa];exact al _
 have hxa:Wa.heap[w.heap.size]?=some (.cells #[ui c,ui n] 36 (0,0)):=by rw[<-hWa];exact ae w _
 have hsa:Wa.heap.size=w.heap.size+1:=by rw[<-hWa];simp
 obtain⟨W0,hW0⟩:=xj (Wa.alloc (.cells #[ui 0,ui 0,uw 0,ui 0,uw 0,ui 0,ub 0,.bool false] 143));have hb0':Bw Wa W0:=by rw[<-hW0];exact al _
 have hb0:Bw w W0:=hba.trans (hb0'.mono hba.size);have hx0:W0.heap[w.heap.size]?=some (.cells #[ui c,ui n] 36 (0,0)):=by rw[hb0'.block _ (gsz hxa)];exact hxa
 have hr0:W0.heap[w.heap.size+1]?=some (.cells #[ui 0,ui 0,uw 0,ui 0,uw 0,ui 0,ub 0,.bool false] 143 (0,0)):=by rw[<-hsa,<-hW0];exact ae Wa _
 have hs0:W0.heap.size=w.heap.size+2:=by rw[<-hW0,Lt,hsa]
 obtain⟨W1,hW1⟩:=xj (W0.alloc (.cells #[ui 0,ui 0,uw 0,ui 0,uw 0,ui 0,ub 0,.bool false] 143));have hb1':Bw W0 W1:=by rw[<-hW1];exact al _
 have hx1:W1.heap[w.heap.size]?=some (.cells #[ui c,ui n] 36 (0,0)):=by rw[hb1'.block _ (gsz hx0)];exact hx0
 have hr1:W1.heap[w.heap.size+1]?=some (.cells #[ui 0,ui 0,uw 0,ui 0,uw 0,ui 0,ub 0,.bool false] 143 (0,0)):=by rw[hb1'.block _ (gsz hr0)];exact hr0
 have hv1:W1.heap[W0.heap.size]?=some (.cells #[ui 0,ui 0,uw 0,ui 0,uw 0,ui 0,ub 0,.bool false] 143 (0,0)):=by rw[<-hW1];exact ae W0 _
 have h0:=h.on hb0;have h1:=h0.on hb1';have hgK:=h.rel.get c n;have q0:(Instr.lookup 127 (.map (some hb)) (.agg #[ui c,ui n]) true).run Tryz.prog W0=_:=V9 h0.map c n;have q1:(Instr.lookup 127 (.map (some hb)) (.agg #[ui c,ui n]) true).run Tryz.prog W0.drew=_:=V9 (w:=W0.drew) h0.map c n;have q2:(Instr.lookup 127 (.map (some hb)) (.agg #[ui c,ui n]) true).run Tryz.prog W1.drew=_:=V9 (w:=W1.drew) h1.map c n;rw[hgK]at q0 q1 q2;have c0:=h0.cell;have c1:=h1.cell;rw[ahi];generalize (getB c n K).isSome=z at*;generalize vz (getB c n K)=x at*;obtain⟨bt,hbt⟩:=xj w.heap.size;obtain⟨br,hbr⟩:=xj (w.heap.size+1);obtain⟨bv,hbv⟩:=xj W0.heap.size;rw[hbt]at hx0 hx1;rw[hbr]at hr0 hr1;rw[hbv]at hv1;have HBF:Hid (Bw w W1):=hb0.trans (hb1'.mono hb0.size);have HN:Hid (w.heap.size<=bv/\br≠bv/\w.heap.size<=br):=by refine⟨?_,?_,?_⟩<;>omega
 have HR:Hid (W1.heap[br]?=some (.cells #[ui 0,ui 0,uw 0,ui 0,uw 0,ui 0,ub 0,.bool false] 143 (0,0))/\W1.heap[bv]?=some (.cells #[ui 0,ui 0,uw 0,ui 0,uw 0,ui 0,ub 0,.bool false] 143 (0,0))):=⟨hr1,hv1⟩;obtain⟨d0,d1⟩:=bk2 hx0;obtain⟨e0,e1⟩:=bk2 hx1;have zz0:=bk8 hv1;have f0:W1.frozen? ⟨bv,0,none⟩=false:=Ad hv1 0;have f1:W1.frozen? ⟨bv,1,none⟩=false:=Ad hv1 1;have f2:W1.frozen? ⟨bv,2,none⟩=false:=Ad hv1 2;have f3:W1.frozen? ⟨bv,3,none⟩=false:=Ad hv1 3;have f4:W1.frozen? ⟨bv,4,none⟩=false:=Ad hv1 4;have f5:W1.frozen? ⟨bv,5,none⟩=false:=Ad hv1 5;have f6:W1.frozen? ⟨bv,6,none⟩=false:=Ad hv1 6;have f7:W1.frozen? ⟨bv,7,none⟩=false:=Ad hv1 7;clear h h0 h1 hb0 hb0' hb1' hba hxa hx0 hx1 hr0 hr1 hv1 hgK;simp only[vdV]at q0 q1 q2;rw[hbt]at hbr hsa hs0;have hsa':Wa.heap.size=br:=by omega
 clear hbr hsa hs0;go_enter Tryz.func118,Tryz.ntmps118;go_wp2_with fail;go_region;obtain⟨X,hX⟩:=xj ((((((((W1.setCell ⟨bv,0,none⟩ (ui x.c)).setCell ⟨bv,1,none⟩ (ui x.n)).setCell ⟨bv,2,none⟩ (uw x.sp)).setCell ⟨bv,3,none⟩ (ui x.sl)).setCell ⟨bv,4,none⟩ (uw x.ap)).setCell ⟨bv,5,none⟩ (ui x.al)).setCell ⟨bv,6,none⟩ (ub x.pt)).setCell ⟨bv,7,none⟩ (.bool x.dn));have HX:Hid (X.heap[bv]?=some (.cells #[ui x.c,ui x.n,uw x.sp,ui x.sl,uw x.ap,ui x.al,ub x.pt,.bool x.dn] 143 (0,0))/\X.heap[br]?=some (.cells #[ui 0,ui 0,uw 0,ui 0,uw 0,ui 0,ub 0,.bool false] 143 (0,0))/\Bw w X):=by have hk:=ah8 W1 bv x;have i1:=bx8 x HR.out.2;have i2:=ack x HBF.out HN.out.1;rw[hX]at hk i1 i2;exact⟨i1,(hk.block br (gsz HR.out.1) HN.out.2.1).trans HR.out.1,i2⟩
 rw[hX];clear hX;obtain⟨W2,hW2⟩:=xj X.drew;have H2:Hid (W2.heap[bv]?=some (.cells #[ui x.c,ui x.n,uw x.sp,ui x.sl,uw x.ap,ui x.al,ub x.pt,.bool x.dn] 143 (0,0))/\W2.heap[br]?=some (.cells #[ui 0,ui 0,uw 0,ui 0,uw 0,ui 0,ub 0,.bool false] 143 (0,0))/\Bw w W2):=by rw[<-hW2];exact⟨HX.out.1,HX.out.2.1,HX.out.2.2.drew⟩
 rw[hW2];clear HX hW2 q0 q1 q2 c0 c1 d0 d1 e0 e1 f0 f1 f2 f3 f4 f5 f6 f7 HR HBF hWa hW0 hW1 hbt hbv hsa' zz0;have zz0:=bk8 H2.out.1;have zy0:=bk8 H2.out.2.1;have f0:W2.frozen? ⟨br,0,none⟩=false:=Ad H2.out.2.1 0;have f1:W2.frozen? ⟨br,1,none⟩=false:=Ad H2.out.2.1 1;have f2:W2.frozen? ⟨br,2,none⟩=false:=Ad H2.out.2.1 2;have f3:W2.frozen? ⟨br,3,none⟩=false:=Ad H2.out.2.1 3;have f4:W2.frozen? ⟨br,4,none⟩=false:=Ad H2.out.2.1 4;have f5:W2.frozen? ⟨br,5,none⟩=false:=Ad H2.out.2.1 5;have f6:W2.frozen? ⟨br,6,none⟩=false:=Ad H2.out.2.1 6;have f7:W2.frozen? ⟨br,7,none⟩=false:=Ad H2.out.2.1 7;have HI:Hid _:=bx8 x H2.out.2.1;have HBw:Hid _:=ack x H2.out.2.2 HN.out.2.2;go_wp2_with fail;have g0:((((((((W2.setCell ⟨br,0,none⟩ (ui x.c)).setCell ⟨br,1,none⟩ (ui x.n)).setCell ⟨br,2,none⟩ (uw x.sp)).setCell ⟨br,3,none⟩ (ui x.sl)).setCell ⟨br,4,none⟩ (uw x.ap)).setCell ⟨br,5,none⟩ (ui x.al)).setCell ⟨br,6,none⟩ (ub x.pt)).setCell ⟨br,7,none⟩ (.bool x.dn)).cell? ⟨br,0,none⟩=some (ui x.c):=Aa HI.out rfl;have g1:((((((((W2.setCell ⟨br,0,none⟩ (ui x.c)).setCell ⟨br,1,none⟩ (ui x.n)).setCell ⟨br,2,none⟩ (uw x.sp)).setCell ⟨br,3,none⟩ (ui x.sl)).setCell ⟨br,4,none⟩ (uw x.ap)).setCell ⟨br,5,none⟩ (ui x.al)).setCell ⟨br,6,none⟩ (ub x.pt)).setCell ⟨br,7,none⟩ (.bool x.dn)).cell? ⟨br,1,none⟩=some (ui x.n):=Aa HI.out rfl;have g2:((((((((W2.setCell ⟨br,0,none⟩ (ui x.c)).setCell ⟨br,1,none⟩ (ui x.n)).setCell ⟨br,2,none⟩ (uw x.sp)).setCell ⟨br,3,none⟩ (ui x.sl)).setCell ⟨br,4,none⟩ (uw x.ap)).setCell ⟨br,5,none⟩ (ui x.al)).setCell ⟨br,6,none⟩ (ub x.pt)).setCell ⟨br,7,none⟩ (.bool x.dn)).cell? ⟨br,2,none⟩=some (uw x.sp):=Aa HI.out rfl;have g3:((((((((W2.setCell ⟨br,0,none⟩ (ui x.c)).setCell ⟨br,1,none⟩ (ui x.n)).setCell ⟨br,2,none⟩ (uw x.sp)).setCell ⟨br,3,none⟩ (ui x.sl)).setCell ⟨br,4,none⟩ (uw x.ap)).setCell ⟨br,5,none⟩ (ui x.al)).setCell ⟨br,6,none⟩ (ub x.pt)).setCell ⟨br,7,none⟩ (.bool x.dn)).cell? ⟨br,3,none⟩=some (ui x.sl):=Aa HI.out rfl;have g4:((((((((W2.setCell ⟨br,0,none⟩ (ui x.c)).setCell ⟨br,1,none⟩ (ui x.n)).setCell ⟨br,2,none⟩ (uw x.sp)).setCell ⟨br,3,none⟩ (ui x.sl)).setCell ⟨br,4,none⟩ (uw x.ap)).setCell ⟨br,5,none⟩ (ui x.al)).setCell ⟨br,6,none⟩ (ub x.pt)).setCell ⟨br,7,none⟩ (.bool x.dn)).cell? ⟨br,4,none⟩=some (uw x.ap):=Aa HI.out rfl;have g5:((((((((W2.setCell ⟨br,0,none⟩ (ui x.c)).setCell ⟨br,1,none⟩ (ui x.n)).setCell ⟨br,2,none⟩ (uw x.sp)).setCell ⟨br,3,none⟩ (ui x.sl)).setCell ⟨br,4,none⟩ (uw x.ap)).setCell ⟨br,5,none⟩ (ui x.al)).setCell ⟨br,6,none⟩ (ub x.pt)).setCell ⟨br,7,none⟩ (.bool x.dn)).cell? ⟨br,5,none⟩=some (ui x.al):=Aa HI.out rfl;have g6:((((((((W2.setCell ⟨br,0,none⟩ (ui x.c)).setCell ⟨br,1,none⟩ (ui x.n)).setCell ⟨br,2,none⟩ (uw x.sp)).setCell ⟨br,3,none⟩ (ui x.sl)).setCell ⟨br,4,none⟩ (uw x.ap)).setCell ⟨br,5,none⟩ (ui x.al)).setCell ⟨br,6,none⟩ (ub x.pt)).setCell ⟨br,7,none⟩ (.bool x.dn)).cell? ⟨br,6,none⟩=some (ub x.pt):=Aa HI.out rfl;have g7:((((((((W2.setCell ⟨br,0,none⟩ (ui x.c)).setCell ⟨br,1,none⟩ (ui x.n)).setCell ⟨br,2,none⟩ (uw x.sp)).setCell ⟨br,3,none⟩ (ui x.sl)).setCell ⟨br,4,none⟩ (uw x.ap)).setCell ⟨br,5,none⟩ (ui x.al)).setCell ⟨br,6,none⟩ (ub x.pt)).setCell ⟨br,7,none⟩ (.bool x.dn)).cell? ⟨br,7,none⟩=some (.bool x.dn):=Aa HI.out rfl;refine az (v:=.tuple #[vdV x,.bool z]) (by simp[results,Tryz.results118,go_sem,g0,g1,g2,g3,g4,g5,g6,g7,vdV]) rfl ?_;exact⟨rfl,HBw.out⟩
def Ud(b:Nat)(w:World):(binOp .eql 127 (.map (some b)) (.map none)).run Tryz.prog w=.ok (.bool false) w:=by have e:=run_equal_map_nil (P:=Tryz.prog) w 127 36 143 (some b) Tryz.underlying127;simp[binOp,e,Result.andThen]
def aoi(x y:Vd)(w:World):(binOp .neq 143 (.agg #[ui x.c,ui x.n,uw x.sp,ui x.sl,uw x.ap,ui x.al,ub x.pt,.bool x.dn]) (.agg #[ui y.c,ui y.n,uw y.sp,ui y.sl,uw y.ap,ui y.al,ub y.pt,.bool y.dn])).run Tryz.prog w=.ok (.bool (!eqV x y)) w:=by
 obtain⟨c,n,sp,sl,ap,al,pt,dn⟩:=x;have zc':=y;simp only[eqV];simp[go_sem];repeat' split
 all_goals simp_all
structure Sb(B p hb:Nat)(m K:Bk)(w:World)(bv:Nat)(v:Vd)(W:World):Prop where
 bo:Bo B p hb m K W
 bel:Bw w W
 bx:W.heap[bv]?=some (.cells #[ui v.c,ui v.n,uw v.sp,ui v.sl,uw v.ap,ui v.al,ub v.pt,.bool v.dn] 143 (0,0))
def Sb.on{B p hb:Nat}{m K:Bk}{w W W':World}{bv:Nat}{v:Vd}(h:Sb B p hb m K w bv v W)(hb':Bw W W'):Sb B p hb m K w bv v W':=
 ⟨h.bo.on hb',h.bel.trans (hb'.mono h.bel.size),by rw[hb'.block _ (gsz h.bx)];exact h.bx⟩
def Vx{B p hb:Nat}{m K:Bk}{w W:World}(h:Bo B p hb m K W)(hb':Bw w W):∃M',BoAt B p M' K W/\Kept (λk=>k=p\/k=hb) w W/\∀i,M' i->(i=p\/i=hb)\/w.heap.size<=i:=
 ⟨λk=>k=p\/k=hb,⟨hb,m,h,λ_=>Iff.rfl⟩,Kept.of_below hb',λ_ hi=>.inl hi⟩
def aei{B p hb:Nat}{m m' K K':Bk}{w W W':World}(h:Bo B p hb m K W)(hb':Bw w W)(hk:Kept (λi=>i=hb) W W')(hm:Gv.At kd vdV hb m' W')(hr:Rl m' K'):∃M',BoAt B p M' K' W'/\Kept (λk=>k=p\/k=hb) w W'/\∀i,M' i->(i=p\/i=hb)\/w.heap.size<=i:=by
 refine⟨λk=>k=p\/k=hb,⟨hb,m',⟨?_,hm,hr,h.lo,h.lh⟩,λ_=>Iff.rfl⟩,?_,λ_ hi=>.inl hi⟩
 .rw[hk.block p (gsz h.box) h.ne];exact h.box
 .exact(Kept.of_below (F:=λk=>k=p\/k=hb) hb').trans hk (λ_ e=>.inl (.inr e))
def aof{B p hb:Nat}{m K:Bk}{w:World}(v:Vd)(h:Bo B p hb m K w):cpr 50 #[pz p,.agg #[ui v.c,ui v.n,uw v.sp,ui v.sl,uw v.ap,ui v.al,ub v.pt,.bool v.dn]] w λe w'=>e=.returned (iw (setB v K).2)/\∃M',BoAt B p M' (setB v K).1 w'/\Kept (λk=>k=p\/k=hb) w w'/\∀i,M' i->(i=p\/i=hb)\/w.heap.size<=i:=by
 obtain⟨W0,hW0⟩:=xj (w.alloc (.cells #[ui v.c,ui v.n,uw v.sp,ui v.sl,uw v.ap,ui v.al,ub v.pt,.bool v.dn] 143));have hb0:Bw w W0:=by rw[<-hW0];exact al _
 have hx0:W0.heap[w.heap.size]?=some (.cells #[ui v.c,ui v.n,uw v.sp,ui v.sl,uw v.ap,ui v.al,ub v.pt,.bool v.dn] 143 (0,0)):=by rw[<-hW0];exact ae w _
 have H0:Hid (Sb B p hb m K w w.heap.size v W0):=⟨h.on hb0,hb0,hx0⟩;have c0:=H0.out.bo.cell;have x0:ce W0 w.heap.size 0 (ui v.c):=Aa hx0 rfl;have x1:ce W0 w.heap.size 1 (ui v.n):=Aa hx0 rfl;have x2:ce W0 w.heap.size 2 (uw v.sp):=Aa hx0 rfl;have x3:ce W0 w.heap.size 3 (ui v.sl):=Aa hx0 rfl;have x4:ce W0 w.heap.size 4 (uw v.ap):=Aa hx0 rfl;have x5:ce W0 w.heap.size 5 (ui v.al):=Aa hx0 rfl;have x6:ce W0 w.heap.size 6 (ub v.pt):=Aa hx0 rfl;have x7:ce W0 w.heap.size 7 (.bool v.dn):=Aa hx0 rfl;have qn:=Ud hb;have CR:Hid (∀W,Sb B p hb m K w w.heap.size v W->cpr 117 #[.agg #[ui v.c,ui v.n,uw v.sp,ui v.sl,uw v.ap,ui v.al,ub v.pt,.bool v.dn]] W λe w'=>e=.returned (.bool (okV v))/\Hid (Sb B p hb m K w w.heap.size v w')):=λW hW=>(atg v W).mono (by rintro e w' ⟨rfl,hb'⟩;exact⟨rfl,hW.on hb'⟩)
 have HG:Hid (m.find? (Gv.isK kd (kd v))=getB v.c v.n K):=h.rel.get v.c v.n;have CO:Hid (∀W,Sb B p hb m K w w.heap.size v W->cpr 118 #[pz p,.agg #[ui v.c,ui v.n]] W λe w'=>e=.returned (.tuple #[.agg #[ui (vz (getB v.c v.n K)).c,ui (vz (getB v.c v.n K)).n,uw (vz (getB v.c v.n K)).sp,ui (vz (getB v.c v.n K)).sl,uw (vz (getB v.c v.n K)).ap,ui (vz (getB v.c v.n K)).al,ub (vz (getB v.c v.n K)).pt,.bool (vz (getB v.c v.n K)).dn],.bool (getB v.c v.n K).isSome])/\Hid (Sb B p hb m K w w.heap.size v w')):=λW hW=>(of15 v.c v.n hW.bo).mono (by rintro e w' ⟨rfl,hb'⟩;exact⟨by rw[ahi];rfl,hW.on hb'⟩)
 have HR:Hid (Rl m K):=h.rel;have HS1:Hid (okV v=false->setB v K=(K,1)):=λe=>by unfold setB;rw[e];rfl
 have HS2:Hid (okV v=true->getB v.c v.n K=none->setB v K=(insB v K,0)):=λe e2=>by unfold setB;rw[e,e2];rfl
 have HS3:Hid (∀o,okV v=true->getB v.c v.n K=some o->setB v K=(K,if eqV {o with dn:=v.dn} v then 0 else 40)):=λo e e2=>by unfold setB;rw[e,e2];rfl
 clear h hb0 hx0;generalize okV v=r at*;obtain⟨bv,hbv⟩:=xj w.heap.size;rw[hbv]at x0 x1 x2 x3 x4 x5 x6 x7 H0 CR CO;go_enter Tryz.func50,Tryz.ntmps50;go_wp2_with fail;refine(CR.out _ H0.out).mono ?_;rintro e w1 ⟨rfl,H1⟩;clear x0 x1 x2 x3 x4 x5 x6 x7 c0 hW0 CR H0 hbv;cases r
 .go_wp2_with fail;go_ret;rw[HS1.out (by simp)];exact⟨rfl,Vx H1.out.bo H1.out.bel⟩
 .have x0:ce w1 bv 0 (ui v.c):=Aa H1.out.bx rfl;have x1:ce w1 bv 1 (ui v.n):=Aa H1.out.bx rfl;go_wp2_with fail;refine(CO.out _ H1.out).mono ?_;rintro e w2 ⟨rfl,H2⟩;clear x0 x1 CO HS1 H1;cases hg:getB v.c v.n K with
  |none=>
   have HS:Hid (setB v K=(insB v K,0)):=HS2.out (by simp) hg;have HGN:Hid (getB v.c v.n K=none):=hg;rw[hg]at HG;simp only[Option.isSome_none];generalize vz none=x;clear HS2 HS3 hg;obtain⟨W3,hW3⟩:=xj (w2.alloc (.cells #[ui x.c,ui x.n,uw x.sp,ui x.sl,uw x.ap,ui x.al,ub x.pt,.bool x.dn] 143));have H3:Hid (Sb B p hb m K w bv v W3):=by rw[<-hW3];exact H2.out.on (al _)
   obtain⟨wU,hrun,hmU,hkU,-⟩:=Gv.ae2 (w:=W3.drew) Tryz.underlying127 (H3.out.on ((aj _ _).drew)).bo.map v HG.out;have HU:Hid (Gv.At kd vdV hb (m++[v]) wU/\Kept (λi=>i=hb) W3.drew wU):=⟨hmU,hkU⟩;have hru:(Instr.mapUpdate 127 (.map (some hb)) (.agg #[ui v.c,ui v.n]) (.agg #[ui v.c,ui v.n,uw v.sp,ui v.sl,uw v.ap,ui v.al,ub v.pt,.bool v.dn])).run Tryz.prog W3.drew=.ok () wU:=hrun;clear hrun hmU hkU H2;have c0:=H3.out.bo.cell;obtain⟨x0,x1,x2,x3,x4,x5,x6,x7⟩:=bk8 H3.out.bx;go_wp2_with fail;go_region;go_wp2_with fail;go_ret;rw[HS.out];exact⟨rfl,aei (W:=W3.drew) (H3.out.on ((aj _ _).drew)).bo (H3.out.on ((aj _ _).drew)).bel HU.out.2 HU.out.1 (HR.out.ins HGN.out)⟩
  |some o=>
   have HS:Hid (setB v K=(K,if eqV {o with dn:=v.dn} v then 0 else 40)):=HS3.out o (by simp) hg;simp only[vz,Option.getD_some,Option.isSome_some];clear HS2 HS3 hg HG;obtain⟨W3,hW3⟩:=xj (w2.alloc (.cells #[ui o.c,ui o.n,uw o.sp,ui o.sl,uw o.ap,ui o.al,ub o.pt,.bool o.dn] 143));have H3:Hid (Sb B p hb m K w bv v W3/\W3.heap[w2.heap.size]?=some (.cells #[ui o.c,ui o.n,uw o.sp,ui o.sl,uw o.ap,ui o.al,ub o.pt,.bool o.dn] 143 (0,0))/\bv<w2.heap.size):=by rw[<-hW3];exact⟨H2.out.on (al _),ae w2 _,(gsz H2.out.bx)⟩
   have HLo:Hid (w.heap.size<=w2.heap.size):=H2.out.bel.size;have HBo:Hid (Kept (λi=>i=w2.heap.size) W3 (W3.setCell ⟨w2.heap.size,7,none⟩ (.bool v.dn))/\(W3.setCell ⟨w2.heap.size,7,none⟩ (.bool v.dn)).heap[w2.heap.size]?=some (.cells #[ui o.c,ui o.n,uw o.sp,ui o.sl,uw o.ap,ui o.al,ub o.pt,.bool v.dn] 143 (0,0))/\p<w2.heap.size/\hb<w2.heap.size):=⟨Ai _ _ _ _,Af _ H3.out.2.1,(gsz H2.out.bo.box),H2.out.bo.map.lt⟩;clear H2;obtain⟨bo,hbo⟩:=xj w2.heap.size;rw[hbo]at H3 HBo HLo;have x7:ce W3 bv 7 (.bool v.dn):=Aa H3.out.1.bx rfl;have y7:ce W3 bo 7 (.bool o.dn):=Aa H3.out.2.1 rfl;have f7:W3.frozen? ⟨bo,7,none⟩=false:=Ad H3.out.2.1 7;obtain⟨W4,hW4⟩:=xj (W3.setCell ⟨bo,7,none⟩ (.bool v.dn));rw[hW4]at HBo;have H4:Hid (Sb B p hb m K w bv v W4):=by have hk:=HBo.out.1;have n1:=H3.out.2.2;have n2:=HBo.out.2.2;refine⟨H3.out.1.bo.kept hk (by omega) (by omega),H3.out.1.bel.trans (hk.below H3.out.1.bel.size (λk e=>by rw[e];exact HLo.out)),?_⟩;rw[hk.block bv (gsz H3.out.1.bx) (by omega)];exact H3.out.1.bx
   have zu0:=bk8 H4.out.bx;have zz0:=bk8 HBo.out.2.1;have hq:=aoi {o with dn:=v.dn} v;dsimp only at hq;generalize eqV {o with dn:=v.dn} v=q at*;cases q
   .go_wp2_with fail;go_ret;rw[HS.out];exact⟨rfl,Vx H4.out.bo H4.out.bel⟩
   .go_wp2_with fail;go_ret;rw[HS.out];exact⟨rfl,Vx H4.out.bo H4.out.bel⟩
structure Tb(B p hb:Nat)(m K:Bk)(w:World)(bt:Nat)(c n:Int)(W:World):Prop where
 bo:Bo B p hb m K W
 bel:Bw w W
 bx:W.heap[bt]?=some (.cells #[ui c,ui n] 36 (0,0))
def Tb.on{B p hb:Nat}{m K:Bk}{w W W':World}{bt:Nat}{c n:Int}(h:Tb B p hb m K w bt c n W)(hb':Bw W W'):Tb B p hb m K w bt c n W':=
 ⟨h.bo.on hb',h.bel.trans (hb'.mono h.bel.size),by rw[hb'.block _ (gsz h.bx)];exact h.bx⟩
def azd{B p hb:Nat}{m K:Bk}{w:World}(c n:Int)(h:Bo B p hb m K w):cpr 55 #[pz p,.agg #[ui c,ui n]] w λe w'=>e=.returned (.bool (I8 c n K).2)/\∃M',BoAt B p M' (I8 c n K).1 w'/\Kept (λk=>k=p\/k=hb) w w'/\∀i,M' i->(i=p\/i=hb)\/w.heap.size<=i:=by
 obtain⟨W0,hW0⟩:=xj (w.alloc (.cells #[ui c,ui n] 36));have hb0:Bw w W0:=by rw[<-hW0];exact al _
 have hx0:W0.heap[w.heap.size]?=some (.cells #[ui c,ui n] 36 (0,0)):=by rw[<-hW0];exact ae w _
 have H0:Hid (Tb B p hb m K w w.heap.size c n W0):=⟨h.on hb0,hb0,hx0⟩;have x0:ce W0 w.heap.size 0 (ui c):=Aa hx0 rfl;have x1:ce W0 w.heap.size 1 (ui n):=Aa hx0 rfl;have HG:Hid (m.find? (Gv.isK kd (c,n))=getB c n K):=h.rel.get c n;have CO:Hid (∀W,Tb B p hb m K w w.heap.size c n W->cpr 118 #[pz p,.agg #[ui c,ui n]] W λe w'=>e=.returned (.tuple #[.agg #[ui (vz (getB c n K)).c,ui (vz (getB c n K)).n,uw (vz (getB c n K)).sp,ui (vz (getB c n K)).sl,uw (vz (getB c n K)).ap,ui (vz (getB c n K)).al,ub (vz (getB c n K)).pt,.bool (vz (getB c n K)).dn],.bool (getB c n K).isSome])/\Hid (Tb B p hb m K w w.heap.size c n w')):=λW hW=>(of15 c n hW.bo).mono (by rintro e w' ⟨rfl,hb'⟩;exact⟨by rw[ahi];rfl,hW.on hb'⟩)
 have HR:Hid (Rl m K):=h.rel;have HS1:Hid (getB c n K=none->I8 c n K=(K,false)):=λe=>by unfold I8;rw[e]
 have HS2:Hid (∀o,getB c n K=some o->I8 c n K=if cmB o then(P6 c n K,true)else(K,false)):=λo e=>by unfold I8;rw[e]
 clear h hb0 hx0;obtain⟨bt,hbt⟩:=xj w.heap.size;rw[hbt]at x0 x1 H0 CO;go_enter Tryz.func55,Tryz.ntmps55;go_wp2_with fail;refine(CO.out _ H0.out).mono ?_;rintro e w1 ⟨rfl,H1⟩;clear x0 x1 hW0 CO H0 hbt;cases hg:getB c n K with
 |none=>
  have HS:Hid (I8 c n K=(K,false)):=HS1.out hg;simp only[Option.isSome_none];generalize vz none=x;clear HS1 HS2 hg;have HB:Hid (∀o,Tb B p hb m K w bt c n (w1.alloc o)):=λo=>H1.out.on (al _);clear H1;go_wp2_with fail;go_ret;rw[HS.out];exact⟨rfl,Vx (HB.out _).bo (HB.out _).bel⟩
 |some o=>
  have hS:=HS2.out o hg;have hmo:m.find? (Gv.isK kd (c,n))=some o:=HG.out.trans hg;have hko:kd o=(c,n):=((Qb HR.out.apart).1 hmo).2;obtain⟨rfl,rfl⟩:o.c=c/\o.n=n:=⟨iq Prod.fst hko,iq Prod.snd hko⟩;have CC:Hid (∀W,1=1->cpr 127 #[.agg #[ui o.c,ui o.n,uw o.sp,ui o.sl,uw o.ap,ui o.al,ub o.pt,.bool o.dn]] W λe w'=>e=.returned (.bool (cmB o))/\Bw W w'):=λW _=>aie o W;simp only[vz,Option.getD_some,Option.isSome_some];have HM:Hid (m.find? (Gv.isK kd (kd ({o with dn:=true}:Vd)))=some o):=hmo;clear HS1 HS2 hg HG hmo hko;obtain⟨W2,hW2⟩:=xj (w1.alloc (.cells #[ui o.c,ui o.n,uw o.sp,ui o.sl,uw o.ap,ui o.al,ub o.pt,.bool o.dn] 143));have H2:Hid (Tb B p hb m K w bt o.c o.n W2/\W2.heap[w1.heap.size]?=some (.cells #[ui o.c,ui o.n,uw o.sp,ui o.sl,uw o.ap,ui o.al,ub o.pt,.bool o.dn] 143 (0,0))/\w.heap.size<=w1.heap.size/\bt≠w1.heap.size/\p≠w1.heap.size/\hb≠w1.heap.size):=by rw[<-hW2];have n1:=(gsz H1.out.bx);have n2:=(gsz H1.out.bo.box);have n3:=H1.out.bo.map.lt;exact⟨H1.out.on (al _),ae w1 _,H1.out.bel.size,by omega,by omega,by omega⟩
  clear H1;obtain⟨bo,hbo⟩:=xj w1.heap.size;rw[hbo]at H2;obtain⟨y0,y1,y2,y3,y4,y5,y6,y7⟩:=bk8 H2.out.2.1;go_wp2_with fail;refine(CC.out _ (by simp)).mono ?_;rintro e w3 ⟨rfl,hb3⟩;have H3:Hid (Tb B p hb m K w bt o.c o.n w3/\w3.heap[bo]?=some (.cells #[ui o.c,ui o.n,uw o.sp,ui o.sl,uw o.ap,ui o.al,ub o.pt,.bool o.dn] 143 (0,0))):=⟨H2.out.1.on hb3,by rw[hb3.block _ (gsz H2.out.2.1)];exact H2.out.2.1⟩;have HN:=H2.out.2.2;have HNE:Hid (w.heap.size<=bo/\bt≠bo/\p≠bo/\hb≠bo):=HN;clear HN H2 hb3 y0 y1 y2 y3 y4 y5 y6 y7 hW2 hbo CC;have HS:Hid (I8 o.c o.n K=if cmB o then(P6 o.c o.n K,true)else(K,false)):=hS;clear hS;generalize cmB o=z at*;cases z
  .go_wp2_with fail;go_ret;rw[HS.out];exact⟨rfl,Vx H3.out.1.bo H3.out.1.bel⟩
  .have y7:ce w3 bo 7 (.bool o.dn):=Aa H3.out.2 rfl;have f7:w3.frozen? ⟨bo,7,none⟩=false:=Ad H3.out.2 7;obtain⟨W4,hW4⟩:=xj (w3.setCell ⟨bo,7,none⟩ (.bool true));have H4:Hid (Tb B p hb m K w bt o.c o.n W4/\W4.heap[bo]?=some (.cells #[ui o.c,ui o.n,uw o.sp,ui o.sl,uw o.ap,ui o.al,ub o.pt,.bool true] 143 (0,0))):=by have hk:=Ai w3 bo 7 (.bool true);have hx:=Af (j:=7) (.bool true) H3.out.2;rw[hW4]at hk hx;refine⟨⟨H3.out.1.bo.kept hk HNE.out.2.2.1 HNE.out.2.2.2,H3.out.1.bel.trans (hk.below H3.out.1.bel.size (λk e=>by rw[e];exact HNE.out.1)),?_⟩,hx⟩;rw[hk.block bt (gsz H3.out.1.bx) HNE.out.2.1];exact H3.out.1.bx
   obtain⟨wU,j,hrun,hj,hmU,hkU,-⟩:=Gv.ae1 (w:=W4.drew) Tryz.underlying127 (H4.out.1.on ((aj _ _).drew)).bo.map ({o with dn:=true}:Vd) HM.out;have HU:Hid (Gv.At kd vdV hb (m.set j {o with dn:=true}) wU/\Kept (λi=>i=hb) W4.drew wU/\m[j]?=some o):=⟨hmU,hkU,hj⟩;have hru:(Instr.mapUpdate 127 (.map (some hb)) (.agg #[ui o.c,ui o.n]) (.agg #[ui o.c,ui o.n,uw o.sp,ui o.sl,uw o.ap,ui o.al,ub o.pt,.bool true])).run Tryz.prog W4.drew=.ok () wU:=hrun;clear hrun hmU hkU hj H3;have c0:=H4.out.1.bo.cell;obtain⟨x0,x1⟩:=bk2 H4.out.1.bx;have zz0:=bk8 H4.out.2;go_wp2_with fail;go_region;go_wp2_with fail;go_ret;rw[HS.out];exact⟨rfl,aei (W:=W4.drew) (H4.out.1.on ((aj _ _).drew)).bo (H4.out.1.on ((aj _ _).drew)).bel HU.out.2.1 HU.out.1 (HR.out.done HU.out.2.2 rfl)⟩
def tk(k:Int×Int):Int×Int:=k
def uz(_:Int×Int):Value:=.agg #[]
abbrev Ro(b:Nat)(S:List (Int×Int))(w:World):Prop:=Gv.At tk uz b S w
def atc{b:Nat}{S:List (Int×Int)}{w:World}(h:Ro b S w)(c n:Int):∃w' S',(Instr.mapUpdate 214 (.map (some b)) (.agg #[ui c,ui n]) (.agg #[])).run Tryz.prog w=.ok () w'/\Ro b S' w'/\(∀x,x∈S'↔x∈S\/x=(c,n))/\Kept (λi=>i=b) w w':=by
 cases hg:S.find? (Gv.isK tk (tk (c,n)))with
 |none=>
  obtain⟨w',h1,h2,h3,_⟩:=Gv.ae2 Tryz.underlying214 h (c,n) hg;exact⟨w',S++[(c,n)],h1,h2,λx=>by simp,h3⟩
 |some y=>
  obtain⟨w',j,h1,h2,h3,h4,_⟩:=Gv.ae1 Tryz.underlying214 h (c,n) hg;have hy:y=(c,n):=by have:=List.find?_some hg;exact of_decide_eq_true this
  subst hy;rw[Gv.Df h2]at h3;refine⟨w',S,h1,h3,λx=>⟨.inl,?_⟩,h4⟩;rintro(e|e)
  .exact e
  .rw[e];exact xh h2
def ata{b:Nat}{S:List (Int×Int)}{w:World}(h:Ro b S w)(c n:Int):(Instr.lookup 214 (.map (some b)) (.agg #[ui c,ui n]) true).run Tryz.prog w=.ok (.tuple #[.agg #[],.bool (decide ((c,n)∈S))]) w:=by
 show(Instr.lookup 214 (.map (some b)) (Gv.kx (c,n)) true).run Tryz.prog w=_;obtain⟨es,cl,h1,h2,_⟩:=h;cases hg:S.find? (Gv.isK tk (c,n))with
 |none=>
  have:(c,n)∉S:=λhm=>by have:=List.find?_eq_none.1 hg (c,n) hm;simp[Gv.isK,tk]at this
  simp[Instr.lookup,jw Tryz.underlying214,jf h1,Gv.Em,Gv.Ej (c,n) h2,Gv.Vg (i:=0) hg,Result.andThen,this]
 |some t=>
  obtain⟨j,g1,g2,g3⟩:=Gv.Q7 (i:=0) hg;have:(c,n)∈S:=by have e:t=(c,n):=g3;rw[<-e];exact xh g2
  simp[Instr.lookup,jw Tryz.underlying214,jf h1,Gv.Em,Gv.Ej (c,n) h2,g1,Result.andThen,this];rfl
def as5(L:List (Int×Int))(v:Value)(w:World)(h:TsAt w.heap.size v L w)(hz:L.length*8<=140737488355328):
  cpr 123 #[v] w λe w'=>∃sb S,e=.returned (.map (some sb))/\Ro sb S w'/\(∀x,x∈S↔x∈L)/\w.heap.size<=sb/\Below w.heap.size w w':=by
 obtain⟨ao,cap,rfl,hla,hma⟩:=h.shape;have HA:Hid (∀W,Below w.heap.size w W->∀i,i<L.length->∃b off,ao=some ⟨b,off,none⟩/\ce W b (off+i*2) (ui (L.getD i dtx).1)/\ce W b (off+i*2+1) (ui (L.getD i dtx).2)):=λW hW i hi=>TsAt.el (RwAt.on h hW) hi;have hL9:L.length<9223372036854775808:=by omega
 have HT:Hid (∀m,m<L.length->∀x,x∈L.take (m+1)↔x∈L.take m\/x=L.getD m dtx):=λm hm x=>by rw[jk hm,bu,jy,show L.getD m dtx=L[m]from by simp[List.getD,hm]]
 have HE:Hid (∀m,L.length<=m->L.take m=L):=λm hm=>ay hm;have hmm:=@run_makeMap Tryz.prog;have H0:Hid (Ro w.heap.size [] (w.alloc (.map #[] 0))/\Below w.heap.size w (w.alloc (.map #[] 0))):=⟨Gv.At.new w,al _⟩;clear h hla hma hz;obtain⟨sb,hsb⟩:=xj w.heap.size;have HSB:Hid (w.heap.size=sb):=hsb;rw[hsb]at H0;go_enter Tryz.func123,Tryz.ntmps123;go_wp2_with fail;clear hsb hmm;obtain⟨W0,hW0⟩:=xj (w.alloc (.map #[] 0));rw[hW0]at H0|-;clear hW0;go_loopw [9] (λi wr=>∃m:Nat,m<=L.length/\i=iw m/\∃S,Ro sb S wr/\(∀x,x∈S↔x∈L.take m)/\Below w.heap.size w wr) (λi _=>L.length-(intOf i).toNat)
 case atStart=>exact⟨0,eu _,rfl,[],H0.out.1,by simp,by have:=H0.out.2;rwa [<-HSB.out]at this⟩
 case round=>
  obtain⟨m,hm,rfl,S,hS,hx,hbr⟩:=hrel;have HR:Hid (Ro sb S wr/\(∀x,x∈S↔x∈L.take m)/\Below w.heap.size w wr):=⟨hS,hx,hbr⟩;clear hS hx hbr;by_cases hml:m<L.length
  .obtain⟨b,off,rfl,e0,e1⟩:=HA.out wr HR.out.2.2 m hml;have hml':(m:Int)<L.length:=by omega
   have HX:Hid (∀x,x∈L.take (m+1)↔x∈L.take m\/x=L.getD m dtx):=HT.out m hml;generalize L.getD m dtx=x at*;obtain⟨p,q⟩:=x;dsimp only at e0 e1;obtain⟨W1,hW1⟩:=xj (wr.alloc (.cells #[ui p,ui q] 36));have H1:Hid (Ro sb S W1/\Below w.heap.size w W1):=by rw[<-hW1];exact⟨HR.out.1.on (al _),HR.out.2.2.alloc HR.out.2.2.size _⟩
   have hx1:W1.heap[wr.heap.size]?=some (.cells #[ui p,ui q] 36 (0,0)):=by rw[<-hW1];exact ae wr _
   have z0:ce W1 wr.heap.size 0 (ui p):=Aa hx1 rfl;have z1:ce W1 wr.heap.size 1 (ui q):=Aa hx1 rfl;obtain⟨w2,S',hru,g1,g2,g3⟩:=atc H1.out.1 p q;have H2:Hid (Ro sb S' w2/\(∀x,x∈S'↔x∈S\/x=(p,q))/\Kept (λi=>i=sb) W1 w2):=⟨g1,g2,g3⟩;clear g1 g2 g3 hx1;go_wp2_with fail;go_roundw
   case rel=>
    refine⟨m+1,by omega,by go_num,S',H2.out.1,λx=>?_,H1.out.2.trans (H2.out.2.2.below H1.out.2.size (λk e=>by rw[e,<-HSB.out];exact ai _))⟩;rw[H2.out.2.1 x,HX.out x,HR.out.2.1 x]
   case measure=>simp[intOf];omega
  .have hml':¬(m:Int)<L.length:=by omega
   have HL:Hid (L.take m=L):=HE.out m (by omega);go_wp2_with fail;go_ret;have hxx:=HR.out.2.1;rw[HL.out]at hxx;exact⟨sb,rfl,S,HR.out.1,λa b=>hxx (a,b),Nat.le_of_eq HSB.out,HR.out.2.2⟩
structure Cap(sb bk bs:Nat)(S:List (Int×Int))(sp sl:Int)(w:World):Prop where
 set:Ro sb S w
 bk:w.heap[bk]?=some (.cells #[.map (some sb)] 214 (0,0))
 bs:w.heap[bs]?=some (.cells #[uw sp,ui sl] 38 (0,0))
def Cap.kept{sb bk bs:Nat}{S:List (Int×Int)}{sp sl:Int}{w w':World}{F:Nat->Prop}(h:Cap sb bk bs S sp sl w)(hk:Kept F w w')(h1:¬F sb)(h2:¬F bk)(h3:¬F bs):Cap sb bk bs S sp sl w':=
 ⟨h.set.kept hk h1,by rw[hk.block _ (gsz h.bk) h2];exact h.bk,by rw[hk.block _ (gsz h.bs) h3];exact h.bs⟩
def Cap.on{sb bk bs:Nat}{S:List (Int×Int)}{sp sl:Int}{w w':World}(h:Cap sb bk bs S sp sl w)(hb:Below w.heap.size w w'):Cap sb bk bs S sp sl w':=h.kept (F:=λ_=>False) (Kept.of_below hb) (λh=>h) (λh=>h) (λh=>h)
def goB(S:List (Int×Int))(sp sl:Int)(x:Vd):Bool:= !decide ((x.c,x.n)∈S)&&ovB x&&Ar x.sp x.sl sp sl
def au3{S L:List (Int×Int)}(h:∀x,x∈S↔x∈L)(sp sl:Int)(x:Vd):(!goB S sp sl x)=anx sp sl L x:=by
 have e:decide ((x.c,x.n)∈S)=L.contains (x.c,x.n):=by rw[yh,decide_eq_true_iff,h,List.contains_iff_mem]
 unfold goB anx ovB;rw[e];cases L.contains (x.c,x.n)<;>cases x.dn<;>cases cmB x<;>cases Ar x.sp x.sl sp sl<;>rfl
def del26{sb bk bs:Nat}{S:List (Int×Int)}{sp sl:Int}{w:World}(x:Vd)(h:Cap sb bk bs S sp sl w):
  cpr 125 #[.agg #[ui x.c,ui x.n],.agg #[ui x.c,ui x.n,uw x.sp,ui x.sl,uw x.ap,ui x.al,ub x.pt,.bool x.dn],pz bk,pz bs] w λe w'=>e=.returned (.bool (goB S sp sl x))/\Below w.heap.size w w':=by
 obtain⟨W0,hW0⟩:=xj (w.alloc (.cells #[ui x.c,ui x.n] 36));have hb0:Below w.heap.size w W0:=by rw[<-hW0];exact al _
 have hx0:W0.heap[w.heap.size]?=some (.cells #[ui x.c,ui x.n] 36 (0,0)):=by rw[<-hW0];exact ae w _
 obtain⟨W1,hW1⟩:=xj (W0.alloc (.cells #[ui x.c,ui x.n,uw x.sp,ui x.sl,uw x.ap,ui x.al,ub x.pt,.bool x.dn] 143));have hb1':Below W0.heap.size W0 W1:=by rw[<-hW1];exact al _
 have hb1:Below w.heap.size w W1:=hb0.trans (hb1'.mono hb0.size);have hx1:W1.heap[w.heap.size]?=some (.cells #[ui x.c,ui x.n] 36 (0,0)):=by rw[hb1'.block _ (gsz hx0)];exact hx0
 have hv1:W1.heap[W0.heap.size]?=some (.cells #[ui x.c,ui x.n,uw x.sp,ui x.sl,uw x.ap,ui x.al,ub x.pt,.bool x.dn] 143 (0,0)):=by rw[<-hW1];exact ae W0 _
 obtain⟨W2,hW2⟩:=xj (W1.alloc (.cells #[] 217));have hb2':Below W1.heap.size W1 W2:=by rw[<-hW2];exact al _
 have h1:=h.on hb1;obtain⟨bt,hbt⟩:=xj w.heap.size;obtain⟨bv,hbv⟩:=xj W0.heap.size;have HV:Hid (∀W,Below W2.heap.size W2 W->Cap sb bk bs S sp sl W/\W.heap[bv]?=some (.cells #[ui x.c,ui x.n,uw x.sp,ui x.sl,uw x.ap,ui x.al,ub x.pt,.bool x.dn] 143 (0,0))/\Below w.heap.size w W):=λW hb=>by have hb':Below W1.heap.size W1 W:=hb2'.trans (hb.mono hb2'.size);exact⟨h1.on hb',by rw[<-hbv,hb'.block _ (gsz hv1)];exact hv1,hb1.trans (hb'.mono hb1.size)⟩
 have H2:Hid (Cap sb bk bs S sp sl W2/\W2.heap[bv]?=some (.cells #[ui x.c,ui x.n,uw x.sp,ui x.sl,uw x.ap,ui x.al,ub x.pt,.bool x.dn] 143 (0,0))/\Below w.heap.size w W2):=HV.out W2 (aj _ _);have q0:=ata h1.set x.c x.n;rw[hbt]at hx1;have k0:ce W1 bk 0 (.map (some sb)):=Aa h1.bk rfl;obtain⟨t0,t1⟩:=bk2 hx1;have CO:Hid (∀W,1=1->cpr 126 #[.agg #[ui x.c,ui x.n,uw x.sp,ui x.sl,uw x.ap,ui x.al,ub x.pt,.bool x.dn]] W λe w'=>e=.returned (.bool (ovB x))/\Below W.heap.size W w'):=λW _=>aya x W;have CL:Hid (∀W,1=1->cpr 84 #[.agg #[uw x.sp,ui x.sl],.agg #[uw sp,ui sl]] W λe w'=>e=.returned (.bool (Ar x.sp x.sl sp sl))/\Below W.heap.size W w'):=λW _=>Ya x.sp x.sl sp sl W;have HG:Hid (goB S sp sl x=(!decide ((x.c,x.n)∈S)&&ovB x&&Ar x.sp x.sl sp sl)):=rfl;clear h h1 hb0 hb1 hb1' hb2' hx0 hx1 hv1;generalize goB S sp sl x=y at*;generalize decide ((x.c,x.n)∈S)=z at*;generalize ovB x=o at*;generalize Ar x.sp x.sl sp sl=r at*;obtain⟨v0,v1,v2,v3,v4,v5,v6,v7⟩:=bk8 H2.out.2.1;cases z
 .go_enter Tryz.func125,Tryz.ntmps125;go_wp2_with fail;refine(CO.out _ (by simp)).mono ?_;rintro e w3 ⟨rfl,hb3⟩;have H3:Hid (Cap sb bk bs S sp sl w3/\w3.heap[bv]?=some (.cells #[ui x.c,ui x.n,uw x.sp,ui x.sl,uw x.ap,ui x.al,ub x.pt,.bool x.dn] 143 (0,0))/\Below w.heap.size w w3):=HV.out w3 hb3;clear q0 k0 t0 t1 v0 v1 v2 v3 v4 v5 v6 v7 hW0 hW1 hW2 hbt hbv hb3 HV CO H2;cases o
  .go_wp2_with fail;go_ret;exact⟨by rw[HG.out];rfl,H3.out.2.2⟩
  .have v2:ce w3 bv 2 (uw x.sp):=Aa H3.out.2.1 rfl;have v3:ce w3 bv 3 (ui x.sl):=Aa H3.out.2.1 rfl;obtain⟨s0,s1⟩:=bk2 H3.out.1.bs;go_wp2_with fail;refine(CL.out _ (by simp)).mono ?_;rintro e w4 ⟨rfl,hb4⟩;have HB4:Hid (Below w.heap.size w w4):=H3.out.2.2.trans (hb4.mono H3.out.2.2.size);clear hb4 v2 v3 s0 s1;cases r
   .go_wp2_with fail;go_ret;exact⟨by rw[HG.out];rfl,HB4.out⟩
   .go_wp2_with fail;go_ret;exact⟨by rw[HG.out];rfl,HB4.out⟩
 .go_enter Tryz.func125,Tryz.ntmps125;go_wp2_with fail;go_ret;exact⟨by rw[HG.out];rfl,by have:=H2.out.2.2;rwa [hbt]at this⟩
structure Dw(g:Vd->Bool)(m0 m acc left:Bk):Prop where
 now:m.Perm (acc++left)
 all:(acc++left.filter λx=> !g x).Perm (m0.filter λx=> !g x)
def Dw.start(g:Vd->Bool)(m:Bk):Dw g m m [] m:=⟨by simp,by simp⟩
def Dw.stay{g:Vd->Bool}{m0 m acc L1 L2:Bk}{x:Vd}(h:Dw g m0 m acc (L1++x::L2))(hx:g x=false):Dw g m0 m (acc++[x]) (L1++L2):=by
 have p:(L1++x::L2).Perm (x::(L1++L2)):=List.perm_middle;refine⟨h.now.trans ?_,List.Perm.trans ?_ h.all⟩
 .rw[gq];exact xe acc p
 .have q:=(p.filter λx=> !g x);rw[yf,ah (by simp[hx])]at q;rw[gq];exact xe acc q.symm
def Dw.cut{g:Vd->Bool}{m0 m1 m2 acc L1 L2:Bk}{x:Vd}(h:Dw g m0 (m1++x::m2) acc (L1++x::L2))(hx:g x=true):Dw g m0 (m1++m2) acc (L1++L2):=by
 have p:(L1++x::L2).Perm (x::(L1++L2)):=List.perm_middle;have pm:(m1++x::m2).Perm (x::(m1++m2)):=List.perm_middle;refine⟨?_,List.Perm.trans ?_ h.all⟩
 .have q:(x::(m1++m2)).Perm (x::(acc++(L1++L2))):=pm.symm.trans (h.now.trans ((xe acc p).trans List.perm_middle));exact q.cons_inv
 .have q:=(p.filter λx=> !g x);rw[yf,ag (by simp[hx])]at q;exact xe acc q.symm
def Dw.end{g:Vd->Bool}{m0 m acc:Bk}(h:Dw g m0 m acc []):m.Perm (m0.filter λx=> !g x):=by have h1:=h.now;have h2:=h.all;simp only[jo,List.filter_nil]at h1 h2;exact h1.trans h2
def aj3{m m':Bk}(h:Kd m)(hp:m'.Perm m):Kd m':=(hp.pairwise_iff (λ{_ _} hne=>Ne.symm hne)).2 h
def Dw.other{g:Vd->Bool}{m0 m acc L1 L2:Bk}{x:Vd}(h:Dw g m0 m acc (L1++x::L2))(hk:Kd m):m.find? (Gv.isK kd (kd x))=some x/\∀y∈L1++L2,kd y≠kd x:=by refine⟨(Qb hk).2 ⟨h.now.mem_iff.2 (by simp),rfl⟩,λy hy=>?_⟩;have q:(acc++(L1++x::L2)).Perm (x::(acc++(L1++L2))):=(xe acc List.perm_middle).trans List.perm_middle;have:=aj3 hk (q.symm.trans h.now.symm);exactλe=>(dh.1 this).1 y (List.mem_append_right _ hy) e.symm
def Dw.sub{g:Vd->Bool}{m0 m1 m2 acc L:Bk}{x:Vd}(_:Dw g m0 (m1++m2) acc L)(hk:Kd (m1++x::m2)):Kd (m1++m2):=by have:(x::(m1++m2)).Perm (m1++x::m2):=List.perm_middle.symm;exact(dh.1 (aj3 hk this)).2
structure Dx(hb r:Nat)(sb bk bs:Nat)(S:List (Int×Int))(sp sl:Int)(m0:Bk)(w:World)(m acc left:Bk)(W:World):Prop where
 rg:Gv.Rg kd vdV hb r m left W
 cap:Cap sb bk bs S sp sl W
 kept:Kept (λi=>i=hb) w W
 dw:Dw (goB S sp sl) m0 m acc left
 kd:Kd m
 lo:w.heap.size<=r
 ne:hb≠sb/\hb≠bk/\hb≠bs
 old:sb<w.heap.size/\bk<w.heap.size/\bs<w.heap.size
def df25{hb sb bk bs:Nat}{S:List (Int×Int)}{sp sl:Int}{m:Bk}{w:World}(hm:Gv.At kd vdV hb m w)(hk:Kd m)(hc:Cap sb bk bs S sp sl w)(hne:hb≠sb/\hb≠bk/\hb≠bs):
  cpr 124 #[.map (some hb),.func (.func 125) #[] #[pz bk,pz bs]] w λe w'=>e=.returned (.tuple #[])/\∃m',Hid (m'.Perm (m.filter λx=> !goB S sp sl x))/\Gv.At kd vdV hb m' w'/\Kept (λi=>i=hb) w w':=by
 obtain⟨w0,hrun,hr0,hg0,hs0⟩:=Gv.abn Tryz.underlying127 hm;have hb0:Bw w w0:=⟨hg0.os,hg0.tape,hg0.output,hg0.size,λk hk'=>hg0.block k hk' (by simp)⟩;have H0:Hid (Dx hb w.heap.size sb bk bs S sp sl m w m [] m w0):=⟨hr0,hc.on hb0,Kept.of_below hb0,Dw.start _ _,hk,ai _,hne,hc.set.lt,(gsz hc.bk),(gsz hc.bs)⟩;clear hr0 hg0 hs0 hb0 hm hk hc hne;obtain⟨r,hr⟩:=xj w.heap.size;rw[hr]at H0 hrun;go_enter Tryz.func124,Tryz.ntmps124;go_wp2_with fail;clear hrun hr;go_loopw [8] (λ_ wr=>∃mm acc left,Dx hb r sb bk bs S sp sl m w mm acc left wr) (λ_ wr=>wr.rangeLeft hb r)
 case atStart=>exact⟨m,[],m,H0.out⟩
 case round=>
  obtain⟨mm,acc,left,hx⟩:=hrel;have HX:Hid (Dx hb r sb bk bs S sp sl m w mm acc left wr):=hx;have HML:Hid (wr.rangeLeft hb r=left.length):=hx.rg.left_eq;rcases hx.rg.next 0 with⟨rfl,hn⟩|⟨L1,x,L2,w1,rfl,hn,hr1,hg1,hs1,hen⟩
  .have hnx:∀ty,(Instr.next (pz r) false ty).run Tryz.prog wr=.ok (.tuple #[.bool false]) wr:=λ_=>hn;clear hx hn;go_wp2_with fail;go_end0
   exact⟨rfl,mm,HX.out.dw.end,HX.out.rg.at,HX.out.kept⟩
  .have hnx:∀ty,(Instr.next (pz r) false ty).run Tryz.prog wr=.ok (.tuple #[.bool true,.agg #[ui x.c,ui x.n],.agg #[ui x.c,ui x.n,uw x.sp,ui x.sl,uw x.ap,ui x.al,ub x.pt,.bool x.dn]]) w1:=λ_=>hn;have hent:(Instr.entry (pz r)).run Tryz.prog w1=.ok (.tuple #[.agg #[ui x.c,ui x.n],.agg #[ui x.c,ui x.n,uw x.sp,ui x.sl,uw x.ap,ui x.al,ub x.pt,.bool x.dn]]) w1:=hen;have H1:Hid (Gv.Rg kd vdV hb r mm (L1++L2) w1/\Cap sb bk bs S sp sl w1/\Kept (λi=>i=hb) w w1):=by have hk1:=Ny hg1;have o:=HX.out.old;have lo:=HX.out.lo;refine⟨hr1,HX.out.cap.kept hk1 (λe=>by cases e;omega) (λe=>by cases e;omega) (λe=>by cases e;omega),HX.out.kept.trans hk1 (λi e=>by cases e;exact .inr lo)⟩
   obtain⟨W2,hW2⟩:=xj ((w1.alloc (.cells #[ui x.c,ui x.n] 36)).alloc (.cells #[ui x.c,ui x.n,uw x.sp,ui x.sl,uw x.ap,ui x.al,ub x.pt,.bool x.dn] 143));have hb2:Bw w1 W2:=by rw[<-hW2];exact(al _).alloc (by simp) _
   have hx2:W2.heap[w1.heap.size]?=some (.cells #[ui x.c,ui x.n] 36 (0,0)):=by rw[<-hW2,(al (W:=w1.alloc (.cells #[ui x.c,ui x.n] 36)) _).block _ (by simp)];exact ae w1 _
   rw[hs1]at hx2;have H2:Hid (Gv.Rg kd vdV hb r mm (L1++L2) W2/\Cap sb bk bs S sp sl W2/\Kept (λi=>i=hb) w W2/\W2.heap[wr.heap.size]?=some (.cells #[ui x.c,ui x.n] 36 (0,0))):=⟨H1.out.1.on hb2,H1.out.2.1.on hb2,H1.out.2.2.trans (Kept.of_below (F:=λi=>i=hb) hb2) (λ_ e=>.inl e),hx2⟩;have CD:Hid (1=1->cpr 125 #[.agg #[ui x.c,ui x.n],.agg #[ui x.c,ui x.n,uw x.sp,ui x.sl,uw x.ap,ui x.al,ub x.pt,.bool x.dn],pz bk,pz bs] W2 λe w'=>e=.returned (.bool (goB S sp sl x))/\Hid (Gv.Rg kd vdV hb r mm (L1++L2) w'/\Kept (λi=>i=hb) w w'/\w'.heap[wr.heap.size]?=some (.cells #[ui x.c,ui x.n] 36 (0,0))/\Cap sb bk bs S sp sl w')):=λ_=>(del26 x H2.out.2.1).mono (by rintro e w' ⟨rfl,hb'⟩;exact⟨rfl,H2.out.1.on hb',H2.out.2.2.1.trans (Kept.of_below (F:=λi=>i=hb) hb') (λ_ e=>.inl e),by rw[hb'.block _ (gsz H2.out.2.2.2)];exact H2.out.2.2.2,H2.out.2.1.on hb'⟩)
   have HG:Hid (∀b,goB S sp sl x=b->b=true\/b=false):=λb _=>by cases b<;>simp
   clear hx hn hen hr1 hg1 hb2 hx2 H1 H2 HG;have HS:Hid (goB S sp sl x=false->Dw (goB S sp sl) m mm (acc++[x]) (L1++L2)):=HX.out.dw.stay;have HC:Hid (goB S sp sl x=true->∀m1 m2,mm=m1++x::m2->Dw (goB S sp sl) m (m1++m2) acc (L1++L2)):=λe m1 m2 e2=>by have:=HX.out.dw;rw[e2]at this;exact this.cut e
   have HO:Hid (mm.find? (Gv.isK kd (kd x))=some x/\∀y∈L1++L2,kd y≠kd x):=HX.out.dw.other HX.out.kd;have hlen:(L1++L2).length<(L1++x::L2).length:=by simp
   have HLen:Hid _:=hlen;have HW2:Hid _:=hW2;clear hW2 hlen;go_wp2_with fail;rw[HW2.out];refine(CD.out (by simp)).mono ?_;rintro e w3 ⟨rfl,H3⟩;clear hnx hent HW2 hs1 CD;generalize hz:goB S sp sl x=z at*;have HZ:Hid (goB S sp sl x=z):=hz;clear hz;cases z
   .go_wp2_with fail;go_roundw
    case rel=>exact⟨mm,acc++[x],L1++L2,H3.out.1,H3.out.2.2.2,H3.out.2.1,HS.out (by simp),HX.out.kd,HX.out.lo,HX.out.ne,HX.out.old⟩
    case measure=>rw[H3.out.1.left_eq,HML.out];exact HLen.out
   .have t0:ce w3 wr.heap.size 0 (ui x.c):=Aa H3.out.2.2.1 rfl;have t1:ce w3 wr.heap.size 1 (ui x.n):=Aa H3.out.2.2.1 rfl;obtain⟨w4,m1,m2,hdel,hmm,hr4,hk4,-⟩:=H3.out.1.del Tryz.underlying127 (kd x) HO.out.1 HO.out.2;have hde:∀ty:TypeId,(Builtin.delete_ #[127,36] ty #[.map (some hb),.agg #[ui x.c,ui x.n]]).run Tryz.prog w3=.ok (.tuple #[]) w4:=hdel;have H4:Hid (Dx hb r sb bk bs S sp sl m w (m1++m2) acc (L1++L2) w4):=by have o:=HX.out.ne;have hd:=HC.out (by simp) m1 m2 hmm;have hkd:=HX.out.kd;rw[hmm]at hkd;exact⟨hr4,H3.out.2.2.2.kept hk4 (λe=>o.1 e.symm) (λe=>o.2.1 e.symm) (λe=>o.2.2 e.symm),H3.out.2.1.trans hk4 (λ_ e=>.inl e),hd,hd.sub hkd,HX.out.lo,HX.out.ne,HX.out.old⟩
    clear hdel hmm hr4 hk4;go_wp2_with fail;go_roundw
    case rel=>exact⟨m1++m2,acc,L1++L2,H4.out⟩
    case measure=>rw[H4.out.rg.left_eq,HML.out];exact HLen.out
def ag8{S L:List (Int×Int)}(h:∀x,x∈S↔x∈L)(sp sl:Int)(K:Bk):K.filter (λx=> !goB S sp sl x)=retB sp sl L K:=by unfold retB;exact List.filter_congr (λx _=>au3 h sp sl x)
def aon{B p hb:Nat}{m K:Bk}{w:World}(sp sl:Int)(L:List (Int×Int))(v:Value)(h:Bo B p hb m K w)(hl:K.length<10000)(hz:L.length*8<=140737488355328)(hv:TsAt w.heap.size v L w):
  cpr 53 #[pz p,.agg #[uw sp,ui sl],v] w λe w'=>e=.returned (iw ((K.length-(retB sp sl L K).length:Nat):Int))/\∃M',BoAt B p M' (retB sp sl L K) w'/\Kept (λk=>k=p\/k=hb) w w'/\∀i,M' i->(i=p\/i=hb)\/w.heap.size<=i:=by
 obtain⟨W0,hW0⟩:=xj (w.alloc (.cells #[uw sp,ui sl] 38));have hb0:Bw w W0:=by rw[<-hW0];exact al _
 have hx0:W0.heap[w.heap.size]?=some (.cells #[uw sp,ui sl] 38 (0,0)):=by rw[<-hW0];exact ae w _
 have hp:=(gsz h.box);have hhb:=h.map.lt;obtain⟨bs,hbs⟩:=xj w.heap.size;rw[hbs]at hx0;have HN:Hid (hb≠bs/\w.heap.size<=bs):=⟨by omega,by omega⟩;have CS:Hid (1=1->cpr 123 #[v] W0 λe w'=>∃sb,e=.returned (.map (some sb))/\Hid (∃S,Ro sb S w'/\(∀x,x∈S↔x∈L)/\hb≠sb/\Bo B p hb m K w'/\Bw w w'/\w'.heap[bs]?=some (.cells #[uw sp,ui sl] 38 (0,0)))):=λ_=>by have hv0:TsAt W0.heap.size v L W0:=RwAt.le (RwAt.on hv hb0) hb0.size;refine(as5 L v W0 hv0 hz).mono ?_;rintro e w' ⟨sb,S,rfl,h1,h2,h3,h4⟩;have:=hb0.size;exact⟨sb,rfl,S,h1,h2,by omega,(h.on hb0).on h4,hb0.trans (h4.mono hb0.size),by rw[h4.block _ (gsz hx0)];exact hx0⟩
 have HR:Hid (Rl m K/\K.length<10000):=⟨h.rel,hl⟩;clear h hb0 hx0 hv hz hp hhb hl;go_enter Tryz.func53,Tryz.ntmps53;go_wp2_with fail;refine(CS.out (by simp)).mono ?_;rintro e w1 ⟨sb,rfl,H1⟩;clear CS hW0 hbs;obtain⟨S,h1,h2,h3,h4,h5,h6⟩:=H1.out;have HSL:Hid (∀x,x∈S↔x∈L):=h2;clear H1;obtain⟨W2,hW2⟩:=xj (w1.alloc (.cells #[.map (some sb)] 214));have hb2:Bw w1 W2:=by rw[<-hW2];exact al _
 have hk2:W2.heap[w1.heap.size]?=some (.cells #[.map (some sb)] 214 (0,0)):=by rw[<-hW2];exact ae w1 _
 have hhb:hb≠w1.heap.size:=Nat.ne_of_lt h4.map.lt;obtain⟨bk,hbk⟩:=xj w1.heap.size;rw[hbk]at hk2 hhb;have H2:Hid (Bo B p hb m K W2/\Bw w W2/\Cap sb bk bs S sp sl W2/\hb≠sb/\hb≠bk/\hb≠bs):=⟨h4.on hb2,h5.trans (hb2.mono h5.size),⟨h1.on hb2,hk2,by rw[hb2.block _ (gsz h6)];exact h6⟩,h3,hhb,HN.out.1⟩;clear h1 h2 h3 h4 h5 h6 hb2 hk2 hhb;have c0:=H2.out.1.cell;have l0:=H2.out.1.map.size 127 143 Tryz.underlying127;have hln:m.length=K.length:=HR.out.1.len;have hlt:(K.length:Int)<10000:=by have:=HR.out.2;omega
 rw[hln]at l0;have CD:Hid (1=1->cpr 124 #[.map (some hb),.func (.func 125) #[] #[pz bk,pz bs]] W2 λe w'=>e=.returned (.tuple #[])/\Hid (∃m',Gv.At kd vdV hb m' w'/\Rl m' (retB sp sl L K)/\Kept (λi=>i=hb) W2 w')):=λ_=>by refine(df25 H2.out.1.map HR.out.1.apart H2.out.2.2.1 H2.out.2.2.2).mono ?_;rintro e w' ⟨rfl,m',hp,hm,hk⟩;have:=HR.out.1.filt _ hp.out;rw[ag8 HSL.out]at this;exact⟨rfl,m',hm,this,hk⟩
 clear hln;have HLE:Hid ((retB sp sl L K).length<=K.length):=ajd sp sl L K;obtain⟨K',hK'⟩:=xj (retB sp sl L K);rw[hK']at CD HLE;have HK':Hid _:=hK';clear hK';go_wp2_with fail;refine(CD.out (by simp)).mono ?_;rintro e w3 ⟨rfl,H3⟩;clear CD c0 l0 hW2 hbk;obtain⟨m',h1,h2,h3⟩:=H3.out;have H4:Hid (Gv.At kd vdV hb m' w3/\Rl m' K'/\Kept (λi=>i=hb) W2 w3):=⟨h1,h2,h3⟩;have c0:ce w3 p 0 (.map (some hb)):=h3.cell H2.out.1.cell H2.out.1.ne;have l0:=h1.size 127 143 Tryz.underlying127;rw[h2.len]at l0;clear h1 h2 h3 H3;have hle:(K'.length:Int)<=K.length:=by have:=HLE.out;omega
 go_wp2_with fail;go_ret;have hsub:((K.length-K'.length:Nat):Int)=(K.length:Int)-K'.length:=by have:=HLE.out;omega
 rw[HK'.out,hsub];exact⟨rfl,aei H2.out.1 H2.out.2.1 H4.out.2.2 H4.out.1 H4.out.2.1⟩
open Go.RowKit Go.Shelf
def axa(F:Fence)(n:Nat)(h39:F.fn 202)(hro:F.round=none)(hn:1<=n)(l Bm b:Nat)(m:Bk)(J Jx:Bk->World->Prop)
  (hY:∀pre x W,J pre W->pre.length<m.length->YieldAt F (n-1) Tryz.prog l #[vdV x] W λe W'=>(e=.returned (.bool true)/\J (pre++[x]) W'/\KeepsWalks W W')\/(e=.returned (.bool false)/\Jx (pre++[x]) W'))
  (W:World) (hJ:AbidesFrom W.heap.size J) (hm:ce W Bm 0 (.map (some b))) (hown:Gv.At kd vdV b m W) (h0:J [] W):
  CallsIn F n Tryz.prog 202 #[.func (.yield l) #[] #[],pz Bm] W λe W'=>(∃v,e=.returned v)/\((∃xs,xs.Perm m/\J xs W')\/(∃pre,True/\Jx pre W')):=by
 obtain⟨w0,hrun,hr0,hg0,hs0⟩:=Gv.abn Tryz.underlying127 hown;have H0:Hid (Gv.Rg kd vdV b W.heap.size m m w0/\J [] w0):=⟨hr0,hJ [] W w0 none h0 hg0 (λr e=>by cases e)⟩;clear hr0 hg0 hs0 hown h0;refine callsIn_of_wp Tryz.func202 rfl h39 ?_ hro;simp only[Tryz.ntmps202,uu,bg,o9,Nat.reduceAdd,Nat.reduceSub,Array.replicate_succ,Array.replicate_zero,List.push_toArray,List.append_toArray,mf,lu]
 gi_wp2
 gi_loopw [7] (λ_ wr=>∃pre left:Bk,Gv.Rg kd vdV b W.heap.size m left wr/\(pre++left).Perm m/\J pre wr) (λ_ wr=>wr.rangeLeft b W.heap.size)
 case atStart=>exact⟨[],m,H0.out.1,by simp,H0.out.2⟩
 case round=>
  obtain⟨pre,left,hrg,hpm,hJs⟩:=hrel;have HX:Hid (Gv.Rg kd vdV b W.heap.size m left wr/\(pre++left).Perm m/\J pre wr):=⟨hrg,hpm,hJs⟩;rcases hrg.next 0 with⟨rfl,hn'⟩|⟨L1,x,L2,w1,rfl,hn',hr1,hg1,hs1,hen⟩
  .have hnx:∀ty,(Instr.next (pz W.heap.size) false ty).run Tryz.prog wr=.ok (.tuple #[.bool false]) wr:=λ_=>hn';clear hrg hpm hJs hn'
   gi_wp2
   go_end0
   exact⟨⟨_,rfl⟩,.inl ⟨pre,by have:=HX.out.2.1;simpa using this,HX.out.2.2⟩⟩
  .have hnx:∀ty,(Instr.next (pz W.heap.size) false ty).run Tryz.prog wr=.ok (.tuple #[.bool true,.agg #[ui x.c,ui x.n],.agg #[ui x.c,ui x.n,uw x.sp,ui x.sl,uw x.ap,ui x.al,ub x.pt,.bool x.dn]]) w1:=λ_=>hn';have hent:(Instr.entry (pz W.heap.size)).run Tryz.prog w1=.ok (.tuple #[.agg #[ui x.c,ui x.n],.agg #[ui x.c,ui x.n,uw x.sp,ui x.sl,uw x.ap,ui x.al,ub x.pt,.bool x.dn]]) w1:=hen;have hJ1:J pre w1:=hJ pre wr w1 (some W.heap.size) hJs hg1 (λr e=>by cases e;exact⟨ai _,hrg.walk⟩);have hJ2:J pre (w1.alloc (.cells #[ui x.c,ui x.n,uw x.sp,ui x.sl,uw x.ap,ui x.al,ub x.pt,.bool x.dn] 143)):=hJ pre w1 _ none hJ1 (World.grownBy_alloc w1 _ none) (λr e=>by cases e);have hlen:pre.length<m.length:=by have:=hpm.length_eq;simp only[af,bg]at this;omega
   have HR2:Hid (Gv.Rg kd vdV b W.heap.size m (L1++L2) (w1.alloc (.cells #[ui x.c,ui x.n,uw x.sp,ui x.sl,uw x.ap,ui x.al,ub x.pt,.bool x.dn] 143))):=hr1.on (al _);have HP:Hid ((pre++[x]++(L1++L2)).Perm m/\(L1++L2).length<(L1++x::L2).length):=by refine⟨List.Perm.trans ?_ hpm,by simp⟩;rw[gq,List.singleton_append];exact xe pre List.perm_middle.symm
   obtain⟨fn,tmps,assign,body,hy,hR⟩:=hY pre x _ hJ2 hlen;dsimp only[vdV]at hy;clear hrg hpm hJs hn' hen hr1 hg1 hs1 hJ1 hJ2 hlen
   gi_wp2
   refine hR.mono ?_;rintro e W3 (⟨rfl,hJ3,hk3⟩|⟨rfl,hJx3⟩)
   .have H3:Hid (Gv.Rg kd vdV b W.heap.size m (L1++L2) W3):=HR2.out.walks hk3
    gi_wp2
    go_roundw
    case rel=>exact⟨pre++[x],L1++L2,H3.out,HP.out.1,hJ3⟩
    case measure=>rw[H3.out.left_eq,HX.out.1.left_eq];exact HP.out.2
   .gi_wp2
    refine az (results_none rfl _ _ _) rfl ?_;exact⟨⟨_,rfl⟩,.inr ⟨pre++[x],trivial,hJx3⟩⟩
def agp(F:Fence)(n:Nat)(h39:F.fn 202)(hro:F.round=none)(hn:1<=n)(Bm b:Nat)(m:Bk)(w:World)(hBm:Bm<w.heap.size)(hm:ce w Bm 0 (.map (some b)))(hown:Gv.At kd vdV b m w):
  SeqStopsK F n Tryz.prog 202 #[pz Bm] (λx:Vd=>#[vdV x]) KeepsWalks (λxs=>xs.Perm m) (λ_=>True) m.length w:=λl J Jx W hW hJ _ hY h0=>
 axa F n h39 hro hn l Bm b m J Jx hY W hJ ((hW.cell (p:=⟨Bm,0,none⟩) hBm).trans hm) (hown.on hW) h0
def ang(F:Fence)(n:Nat)(h32:F.fn 150)(hro:F.round=none)(mb:Option Nat)(w:World):
  CallsIn F n Tryz.prog 150 #[.map mb] w λe w'=>e=.returned (.func (.func 202) #[] #[pz w.heap.size])/\w'=w.alloc (.cells #[.map mb] 127):=by
 refine callsIn_of_wp Tryz.func150 rfl h32 ?_ hro;simp only[Tryz.ntmps150,uu,bg,o9,Nat.reduceAdd,Nat.reduceSub,Array.replicate_succ,Array.replicate_zero,List.push_toArray,List.append_toArray,mf,lu]
 gi_wp2
 go_ret;exact⟨rfl,rfl⟩
