import Derived.Sort.Walk0
import Derived.Test.YtnfpfbehebcdpaaGreatUzz
import Derived.Test.YtnfpfbehebcdpaaGreatUac
set_option maxHeartbeats 0
set_option maxRecDepth 99999
set_option linter.all false
namespace Go.Proofs.YtnfpfbehebcdpaaGreat.Ver
structure Vd where
 c:Int
 n:Int
 sp:Int
 sl:Int
 ap:Int
 al:Int
 pt:Int
 dn:Bool
abbrev Bk:=List Vd
def ltT(a b c d:Int):Bool:=decide (a<c)||decide (a=c)&&decide (b<d)
def Ag(p l:Int):Bool:=decide (p<=281474976710656/\l<=4095)
def Ar(p l q m:Int):Bool:=decide (p<q\/p=q/\l<m)
def P8(a b:Int):ltT a b a b=false:=by simp[ltT]
def U8{a b c d:Int}:ltT a b c d=true↔a<c\/a=c/\b<d:=by simp[ltT]
def ab2{a b c d e f:Int}(h1:ltT a b c d=true)(h2:ltT c d e f=true):ltT a b e f=true:=by rw[U8]at*;omega
def ajx{a b c d:Int}(h1:ltT a b c d=false)(h2:ltT c d a b=false):a=c/\b=d:=by rw[<-Bool.not_eq_true,U8]at*;omega
def al0{a b c d:Int}(h:ltT a b c d=true):ltT c d a b=false:=by rw[<-Bool.not_eq_true];rw[U8]at*;omega
def ofN(c n:Int)(x:Vd):Bool:=x.c==c&&x.n==n
def adl{c n:Int}{x:Vd}:ofN c n x=true↔x.c=c/\x.n=n:=by simp[ofN]
def SrtV(B:Bk):Prop:=B.Pairwise λx y=>ltT x.c x.n y.c y.n=true
def getB(c n:Int):Bk->Option Vd
 |[]=>none
 |x::B=>if ofN c n x then some x else getB c n B
def insB(v:Vd):Bk->Bk
 |[]=>[v]
 |x::B=>if ltT x.c x.n v.c v.n then x::insB v B else v::x::B
def cmB(x:Vd):Bool:= !(x.ap==0&&x.al==0)
def okV(v:Vd):Bool:=Ag v.sp v.sl&&Ag v.ap v.al&&(cmB v||(v.pt==0&& !v.dn))
def eqV(x y:Vd):Bool:=x.c==y.c&&x.n==y.n&&x.sp==y.sp&&x.sl==y.sl&&x.ap==y.ap&&x.al==y.al&&x.pt==y.pt&&x.dn==y.dn
def setB(v:Vd)(B:Bk):Bk×Int:=if okV v then(match getB v.c v.n B with
 |some o=>(B,if eqV {o with dn:=v.dn} v then 0 else 40)
 |none=>(insB v B,0))else(B,1)
def P6(c n:Int)(B:Bk):Bk:=B.map λx=>if ofN c n x then{x with dn:=true}else x
def I8(c n:Int)(B:Bk):Bk×Bool:=match getB c n B with
 |some o=>if cmB o then(P6 c n B,true)else(B,false)
 |none=>(B,false)
def anx(sp sl:Int)(keep:List (Int×Int))(x:Vd):Bool:= !Ar x.sp x.sl sp sl||(cmB x&& !x.dn)||keep.contains (x.c,x.n)
def retB(sp sl:Int)(keep:List (Int×Int))(B:Bk):Bk:=B.filter (anx sp sl keep)
def anz:SrtV []:=tq
def adz{v x:Vd}:∀{B:Bk},x∈insB v B↔x=v\/x∈B
 |[]=>by simp[insB]
 |y::B=>by
  unfold insB;split
  .simp only[au,adz (B:=B)];constructor
   .rintro(h|h|h)<;>simp[h]
   .rintro(h|h|h)<;>simp[h]
  .simp
def aj8(v:Vd):∀B:Bk,(insB v B).length=B.length+1
 |[]=>rfl
 |y::B=>by
  unfold insB;split
  .simp[aj8 v B]
  .simp
def get_mem{c n:Int}{o:Vd}:∀{B:Bk},getB c n B=some o->o∈B/\o.c=c/\o.n=n
 |[],h=>by cases h
 |x::B,h=>by
  unfold getB at h;split at h
  .rename_i e;injection h with h;subst h;exact⟨ji ..,adl.1 e⟩
  .obtain⟨h1,h2⟩:=get_mem h;exact⟨gy _ h1,h2⟩
def afx{c n:Int}:∀{B:Bk},getB c n B=none->∀x∈B,ofN c n x=false
 |[],_,x,hx=>by cases hx
 |y::B,h,x,hx=>by
  unfold getB at h;split at h
  .cases h
  .rename_i e;rcases au.1 hx with rfl|hx
   .simpa using e
   .exact afx h x hx
def mem_get{c n:Int}{o:Vd}:∀{B:Bk},SrtV B->o∈B->o.c=c->o.n=n->getB c n B=some o
 |[],_,h,_,_=>by cases h
 |x::B,hs,h,h1,h2=>by
  obtain⟨hs1,hs2⟩:=dh.1 hs;unfold getB;rcases au.1 h with rfl|h
  .rw[ah (adl.2 ⟨h1,h2⟩)]
  .rw[ag]
   .exact mem_get hs2 h h1 h2
   .intro e;obtain⟨e1,e2⟩:=adl.1 e;have:=hs1 o h;rw[e1,e2,h1,h2,P8]at this;cases this
def aj7{v:Vd}:∀{B:Bk},SrtV B->getB v.c v.n B=none->SrtV (insB v B)
 |[],_,_=>List.pairwise_singleton _ _
 |x::B,hs,hg=>by
  obtain⟨hs1,hs2⟩:=dh.1 hs;unfold getB at hg;split at hg
  .cases hg
  .rename_i e;unfold insB;split
   .rename_i hlt;refine dh.2 ⟨λy hy=>?_,aj7 hs2 hg⟩;rcases adz.1 hy with rfl|hy
    .exact hlt
    .exact hs1 y hy
   .rename_i hlt;have hvx:ltT v.c v.n x.c x.n=true:=by
     cases h:ltT v.c v.n x.c x.n with
     |true=>rfl
     |false=>
      obtain⟨h1,h2⟩:=ajx (by simpa using hlt) h;exact absurd (adl.2 ⟨h1,h2⟩) e
    refine dh.2 ⟨λy hy=>?_,hs⟩;rcases au.1 hy with rfl|hy
    .exact hvx
    .exact ab2 hvx (hs1 y hy)
def get_ins{v:Vd}{c n:Int}:∀{B:Bk},getB v.c v.n B=none->getB c n (insB v B)=if ofN c n v then some v else getB c n B
 |[],_=>by simp[insB,getB]
 |x::B,hg=>by
  unfold getB at hg;split at hg
  .cases hg
  .rename_i e;unfold insB;split
   .unfold getB;rw[get_ins hg];by_cases h1:ofN c n x=true
    .rw[ah h1,ah h1,ag];intro h2;obtain⟨a1,a2⟩:=adl.1 h1;obtain⟨b1,b2⟩:=adl.1 h2;exact e (adl.2 ⟨a1.trans b1.symm,a2.trans b2.symm⟩)
    .rw[ag h1,ag h1]
   .conv=>lhs;unfold getB
def Ls:∀{A B:Bk},SrtV A->SrtV B->(∀x,x∈A↔x∈B)->A=B
 |[],[],_,_,_=>rfl
 |[],y::B,_,_,h=>by have:=(h y).2 (ji ..);cases this
 |x::A,[],_,_,h=>by have:=(h x).1 (ji ..);cases this
 |x::A,y::B,ha,hb,h=>by
  obtain⟨ha1,ha2⟩:=dh.1 ha;obtain⟨hb1,hb2⟩:=dh.1 hb;have hxy:x=y:=by
   rcases au.1 ((h x).1 (ji ..))with e|e
   .exact e
   .rcases au.1 ((h y).2 (ji ..))with e2|e2
    .exact e2.symm
    .have h1:=hb1 x e;have h2:=al0 (ha1 y e2);rw[h1]at h2;cases h2
  subst hxy;congr 1;refine Ls ha2 hb2 (λz=>?_);have hz:=h z;simp only[au]at hz;constructor
  .intro hza;rcases hz.1 (.inr hza)with e|e
   .have:=ha1 z hza;rw[e,P8]at this;cases this
   .exact e
  .intro hzb;rcases hz.2 (.inr hzb)with e|e
   .have:=hb1 z hzb;rw[e,P8]at this;cases this
   .exact e
def aqw{B:Bk}(h:SrtV B)(p:Vd->Bool):SrtV (B.filter p):=List.Pairwise.sublist List.filter_sublist h
def ret_srt{B:Bk}(h:SrtV B)(sp sl:Int)(keep:List (Int×Int)):SrtV (retB sp sl keep B):=aqw h _
def aq6{B:Bk}(h:SrtV B)(c n:Int):SrtV (P6 c n B):=by unfold SrtV P6;rw[yu];refine h.imp (λ{a b} hab=>?_);split<;>split<;>exact hab
def Hw{B:Bk}(hs:SrtV B)(p:Vd->Bool)(c n:Int):getB c n (B.filter p)=match getB c n B with
  |some o=>if p o then some o else none
  |none=>none:=by
 cases hg:getB c n B with
 |none=>
  cases hf:getB c n (B.filter p)with
  |none=>rfl
  |some o=>
   obtain⟨h1,h2,h3⟩:=get_mem hf;have:=afx hg o (jh.1 h1).1;rw[adl.2 ⟨h2,h3⟩]at this;cases this
 |some o=>
  obtain⟨h1,h2,h3⟩:=get_mem hg;by_cases hp:p o=true
  .simp only[hp,if_true];exact mem_get (aqw hs p) (jh.2 ⟨h1,hp⟩) h2 h3
  .simp only[hp];cases hf:getB c n (B.filter p)with
   |none=>rfl
   |some u=>
    obtain⟨g1,g2,g3⟩:=get_mem hf;obtain⟨g4,g5⟩:=jh.1 g1;have:=mem_get hs g4 g2 g3;rw[hg]at this;injection this with this;subst this;exact absurd g5 hp
def ai6(v:Vd)(B:Bk):(setB v B).1.length<=B.length+1:=by
 unfold setB;split
 .split
  .simp
  .simp[aj8]
 .simp
def amm(c n:Int)(B:Bk):(I8 c n B).1.length=B.length:=by
 unfold I8;split
 .split
  .simp[P6]
  .rfl
 .rfl
def ajd(sp sl:Int)(keep:List (Int×Int))(B:Bk):(retB sp sl keep B).length<=B.length:=List.length_filter_le _ _
open Go.RowKit
def vdc(x:Vd):List Value:=[ui x.c,ui x.n,uw x.sp,ui x.sl,uw x.ap,ui x.al,ub x.pt,.bool x.dn]
def vdV(x:Vd):Value:=.agg #[ui x.c,ui x.n,uw x.sp,ui x.sl,uw x.ap,ui x.al,ub x.pt,.bool x.dn]
def acu(x:Vd):(vdc x).length=8:=rfl
def aiq:∀x,∀u∈vdc x,u.oneCell'=true:=λx u hu=>by simp only[vdc,au,List.not_mem_nil,or_false]at hu;rcases hu with rfl|rfl|rfl|rfl|rfl|rfl|rfl|rfl<;>rfl
def dv:Vd:=⟨0,0,0,0,0,0,0,false⟩
structure VdAt(w:World)(b off:Nat)(x:Vd):Prop where
 c0:w.cell? ⟨b,off,none⟩=some (ui x.c)
 c1:w.cell? ⟨b,off+1,none⟩=some (ui x.n)
 c2:w.cell? ⟨b,off+2,none⟩=some (uw x.sp)
 c3:w.cell? ⟨b,off+3,none⟩=some (ui x.sl)
 c4:w.cell? ⟨b,off+4,none⟩=some (uw x.ap)
 c5:w.cell? ⟨b,off+5,none⟩=some (ui x.al)
 c6:w.cell? ⟨b,off+6,none⟩=some (ub x.pt)
 c7:w.cell? ⟨b,off+7,none⟩=some (.bool x.dn)
def VsAt(B:Nat)(v:Value)(K:Bk)(w:World):Prop:=RwAt B 8 v K.length (rowC vdc K) w
def Af{w:World}{b j:Nat}{cs:Array Value}{ty:TypeId}(u:Value)(h:w.heap[b]?=some (.cells cs ty (0,0))):(w.setCell ⟨b,j,none⟩ u).heap[b]?=some (.cells (cs.setIfInBounds j u) ty (0,0)):=by show(w.heap.modify b _)[b]?=_;rw[qg,ah rfl,h];rfl
def Aa{w:World}{b j:Nat}{cs:Array Value}{ty:TypeId}{u:Value}(h:w.heap[b]?=some (.cells cs ty (0,0)))(hj:cs[j]?=some u):w.cell? ⟨b,j,none⟩=some u:=by unfold World.cell?;rw[h];exact hj
def Ad{w:World}{b:Nat}{cs:Array Value}{ty:TypeId}(h:w.heap[b]?=some (.cells cs ty (0,0)))(j:Nat):w.frozen? ⟨b,j,none⟩=false:=by unfold World.frozen?;rw[h];simp
def Ai(w:World)(b j:Nat)(u:Value):Kept (λc=>c=b) w (w.setCell ⟨b,j,none⟩ u):=by have hb:Below b w (w.setCell ⟨b,j,none⟩ u):=(aj b w).setCell (p:=⟨b,j,none⟩) (ai b) u;exact⟨hb.os,hb.tape,hb.output,hb.size,λk _ hF=>jl w ⟨b,j,none⟩ u k hF⟩
def Lt(w:World)(o:Obj):(w.alloc o).heap.size=w.heap.size+1:=by simp
def Dj{a b:Bool}(h:a=b):Ending.returned (.bool a)=.returned (.bool b):=by rw[h]
def bx8{W:World}{b:Nat}{a0 a1 a2 a3 a4 a5 a6 a7:Value}(x:Vd)(h0:W.heap[b]?=some (.cells #[a0,a1,a2,a3,a4,a5,a6,a7] 143 (0,0))):((((((((W.setCell ⟨b,0,none⟩ (ui x.c)).setCell ⟨b,1,none⟩ (ui x.n)).setCell ⟨b,2,none⟩ (uw x.sp)).setCell ⟨b,3,none⟩ (ui x.sl)).setCell ⟨b,4,none⟩ (uw x.ap)).setCell ⟨b,5,none⟩ (ui x.al)).setCell ⟨b,6,none⟩ (ub x.pt)).setCell ⟨b,7,none⟩ (.bool x.dn)).heap[b]?=some (.cells #[ui x.c,ui x.n,uw x.sp,ui x.sl,uw x.ap,ui x.al,ub x.pt,.bool x.dn] 143 (0,0)):=by have h1:(W.setCell ⟨b,0,none⟩ (ui x.c)).heap[b]?=some (.cells #[ui x.c,a1,a2,a3,a4,a5,a6,a7] 143 (0,0)):=Af _ h0;generalize W.setCell ⟨b,0,none⟩ (ui x.c)=W1 at*;have h2:(W1.setCell ⟨b,1,none⟩ (ui x.n)).heap[b]?=some (.cells #[ui x.c,ui x.n,a2,a3,a4,a5,a6,a7] 143 (0,0)):=Af _ h1;generalize W1.setCell ⟨b,1,none⟩ (ui x.n)=W2 at*;have h3:(W2.setCell ⟨b,2,none⟩ (uw x.sp)).heap[b]?=some (.cells #[ui x.c,ui x.n,uw x.sp,a3,a4,a5,a6,a7] 143 (0,0)):=Af _ h2;generalize W2.setCell ⟨b,2,none⟩ (uw x.sp)=W3 at*;have h4:(W3.setCell ⟨b,3,none⟩ (ui x.sl)).heap[b]?=some (.cells #[ui x.c,ui x.n,uw x.sp,ui x.sl,a4,a5,a6,a7] 143 (0,0)):=Af _ h3;generalize W3.setCell ⟨b,3,none⟩ (ui x.sl)=W4 at*;have h5:(W4.setCell ⟨b,4,none⟩ (uw x.ap)).heap[b]?=some (.cells #[ui x.c,ui x.n,uw x.sp,ui x.sl,uw x.ap,a5,a6,a7] 143 (0,0)):=Af _ h4;generalize W4.setCell ⟨b,4,none⟩ (uw x.ap)=W5 at*;have h6:(W5.setCell ⟨b,5,none⟩ (ui x.al)).heap[b]?=some (.cells #[ui x.c,ui x.n,uw x.sp,ui x.sl,uw x.ap,ui x.al,a6,a7] 143 (0,0)):=Af _ h5;generalize W5.setCell ⟨b,5,none⟩ (ui x.al)=W6 at*;have h7:(W6.setCell ⟨b,6,none⟩ (ub x.pt)).heap[b]?=some (.cells #[ui x.c,ui x.n,uw x.sp,ui x.sl,uw x.ap,ui x.al,ub x.pt,a7] 143 (0,0)):=Af _ h6;generalize W6.setCell ⟨b,6,none⟩ (ub x.pt)=W7 at*;have h8:(W7.setCell ⟨b,7,none⟩ (.bool x.dn)).heap[b]?=some (.cells #[ui x.c,ui x.n,uw x.sp,ui x.sl,uw x.ap,ui x.al,ub x.pt,.bool x.dn] 143 (0,0)):=Af _ h7;exact h8
def ack{B b:Nat}{w W:World}(x:Vd)(h:Below B w W)(hb:B<=b):Below B w ((((((((W.setCell ⟨b,0,none⟩ (ui x.c)).setCell ⟨b,1,none⟩ (ui x.n)).setCell ⟨b,2,none⟩ (uw x.sp)).setCell ⟨b,3,none⟩ (ui x.sl)).setCell ⟨b,4,none⟩ (uw x.ap)).setCell ⟨b,5,none⟩ (ui x.al)).setCell ⟨b,6,none⟩ (ub x.pt)).setCell ⟨b,7,none⟩ (.bool x.dn)):=((((((((h.setCell (p:=⟨b,0,none⟩) hb _).setCell (p:=⟨b,1,none⟩) hb _).setCell (p:=⟨b,2,none⟩) hb _).setCell (p:=⟨b,3,none⟩) hb _).setCell (p:=⟨b,4,none⟩) hb _).setCell (p:=⟨b,5,none⟩) hb _).setCell (p:=⟨b,6,none⟩) hb _).setCell (p:=⟨b,7,none⟩) hb _)
def ay5:(Tryz.prog.info? 143).map (λi=>(i.zero,i.size,i.bytes))=some (some (.agg #[ui 0,ui 0,uw 0,ui 0,uw 0,ui 0,ub 0,.bool false]),8,48):=by kernel_rfl
def abo(p l q m:Int)(w:World):(binOp .neq 38 (.agg #[uw p,ui l]) (.agg #[uw q,ui m])).run Tryz.prog w=.ok (.bool (!(p==q&&l==m))) w:=by by_cases h:p=q<;>by_cases h2:l=m<;>simp[go_sem,h,h2]
def Jb(p l:Int)(w:World):
  cpr 109 #[.agg #[uw p,ui l]] w λe w'=>e=.returned (.bool (Ag p l))/\Bw w w':=by
 exact axh
def Ya(p l q m:Int)(w:World):
  cpr 84 #[.agg #[uw p,ui l],.agg #[uw q,ui m]] w λe w'=>e=.returned (.bool (Ar p l q m))/\Bw w w':=by
 exact ato
def txc(x:Int×Int):List Value:=[ui x.1,ui x.2]
def acv(x:Int×Int):(txc x).length=2:=rfl
def dtx:Int×Int:=(0,0)
def TsAt(B:Nat)(v:Value)(L:List (Int×Int))(w:World):Prop:=RwAt B 2 v L.length (rowC txc L) w
def TsAt.el{B:Nat}{ao:Option Addr}{cap:Nat}{L:List (Int×Int)}{w:World}(h:TsAt B (.slice ao L.length cap) L w){i:Nat}(hi:i<L.length):∃b off,ao=some ⟨b,off,none⟩/\ce w b (off+i*2) (ui (L.getD i dtx).1)/\ce w b (off+i*2+1) (ui (L.getD i dtx).2):=by obtain⟨b,off,e,hc⟩:=O6 acv dtx (by omega) rfl h hi;exact⟨b,off,e,hc 0 _ (by omega) rfl,hc 1 _ (by omega) rfl⟩
def TsAt.shape{B:Nat}{v:Value}{L:List (Int×Int)}{w:World}(h:TsAt B v L w):∃ao cap,v=.slice ao L.length cap/\L.length<=cap/\cap<=9223372036854775807:=by obtain⟨ao,cap,e,_,h1,h2,_⟩:=h;exact⟨ao,cap,e,h1,h2⟩
def ofV:Option Vd->Value
 |some x=>.tuple #[vdV x,.bool true]
 |none=>.tuple #[vdV dv,.bool false]
def R32(x:Int):Prop:=0<=x/\x<4294967296
def R64(x:Int):Prop:=0<=x/\x<18446744073709551616
def R8(x:Int):Prop:=0<=x/\x<256
structure RgV(v:Vd):Prop where
 c:R32 v.c
 n:R32 v.n
 sp:R64 v.sp
 sl:R32 v.sl
 ap:R64 v.ap
 al:R32 v.al
 pt:R8 v.pt
def RgT(L:List (Int×Int)):Prop:=∀x∈L,R32 x.1/\R32 x.2
structure Ifv(BA:Nat->Nat->(Nat->Prop)->Bk->World->Prop):Prop where
 lt:∀{B p:Nat} {M:Nat->Prop} {K:Bk} {w:World},BA B p M K w->∀k,M k->B<=k/\k<w.heap.size
 keep:∀{B p:Nat} {M G:Nat->Prop} {K:Bk} {w w':World},BA B p M K w->Kept G w w'->(∀k,M k->¬G k)->BA B p M K w'
 ok:∀{B p:Nat} {M:Nat->Prop} {K:Bk} {w:World},BA B p M K w->SrtV K
 new:∀w:World,cpr 22 #[] w λe w'=>∃p M,e=.returned (pz p)/\BA w.heap.size p M [] w'/\Bw w w'
 set:∀{B p:Nat} {M:Nat->Prop} {K:Bk} {w:World} (v:Vd),BA B p M K w->K.length<10000->RgV v->cpr 50 #[pz p,.agg #[ui v.c,ui v.n,uw v.sp,ui v.sl,uw v.ap,ui v.al,ub v.pt,.bool v.dn]] w λe w'=>e=.returned (iw (setB v K).2)/\∃M',BA B p M' (setB v K).1 w'/\Kept M w w'/\∀i,M' i->M i\/w.heap.size<=i
 done:∀{B p:Nat} {M:Nat->Prop} {K:Bk} {w:World} (c n:Int),BA B p M K w->K.length<10000->R32 c/\R32 n->cpr 55 #[pz p,.agg #[ui c,ui n]] w λe w'=>e=.returned (.bool (I8 c n K).2)/\∃M',BA B p M' (I8 c n K).1 w'/\Kept M w w'/\∀i,M' i->M i\/w.heap.size<=i
 retire:∀{B p:Nat} {M:Nat->Prop} {K:Bk} {w:World} (sp sl:Int) (L:List (Int×Int)) (v:Value),BA B p M K w->K.length<10000->R64 sp/\R32 sl->RgT L->L.length*8<=140737488355328->TsAt w.heap.size v L w->(0<L.length->∀k,v.ownBlock=some k->¬M k)->cpr 53 #[pz p,.agg #[uw sp,ui sl],v] w λe w'=>e=.returned (iw ((K.length-(retB sp sl L K).length:Nat):Int))/\∃M',BA B p M' (retB sp sl L K) w'/\Kept M w w'/\∀i,M' i->M i\/w.heap.size<=i
 of:∀{B p:Nat} {M:Nat->Prop} {K:Bk} {w:World} (c n:Int),BA B p M K w->K.length<10000->R32 c/\R32 n->cpr 118 #[pz p,.agg #[ui c,ui n]] w λe w'=>e=.returned (ofV (getB c n K))/\Bw w w'
 all:∀{B p:Nat} {M:Nat->Prop} {K:Bk} {w:World},BA B p M K w->K.length<10000->cpr 71 #[pz p] w λe w'=>∃v',e=.returned v'/\VsAt w'.heap.size v' K w'/\(∀k,v'.ownBlock=some k->w.heap.size<=k/\∃cs,w'.heap[k]?=some (.cells cs 143 (0,0)))/\Bw w w'
variable {BA:Nat->Nat->(Nat->Prop)->Bk->World->Prop}
