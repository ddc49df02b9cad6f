import Derived.Sort.Walk0
import Derived.Test.YtdplfgcoaddbdaaGreatProg
import Derived.Test.YtdplfgcoaddbdaaGreatXaa
set_option maxHeartbeats 4000000
set_option maxRecDepth 100000
set_option linter.unusedVariables false
set_option linter.unusedSimpArgs false
namespace Go.Proofs.YtdplfgcoaddbdaaGreat.Ver
structure Vd where
 c:Int
 n:Int
 sp:Int
 sl:Int
 ap:Int
 al:Int
 pt:Int
 dn:Bool
abbrev Bk:=List Vd
def ltT(a b c d:Int):Bool:=decide (a<c)||decide (a=c)&&decide (b<d)
def rightB(p l:Int):Bool:=decide (p<=281474976710656/\l<=4095)
def lessB(p l q m:Int):Bool:=decide (p<q\/p=q/\l<m)
theorem ltT_irrefl(a b:Int):ltT a b a b=false:=by simp[ltT]
theorem ltT_iff{a b c d:Int}:ltT a b c d=true↔a<c\/a=c/\b<d:=by simp[ltT]
theorem ltT_trans{a b c d e f:Int}(h1:ltT a b c d=true)(h2:ltT c d e f=true):ltT a b e f=true:=by rw[ltT_iff]at*;omega
theorem ltT_tri{a b c d:Int}(h1:ltT a b c d=false)(h2:ltT c d a b=false):a=c/\b=d:=by rw[<-Bool.not_eq_true,ltT_iff]at*;omega
theorem ltT_asymm{a b c d:Int}(h:ltT a b c d=true):ltT c d a b=false:=by rw[<-Bool.not_eq_true];rw[ltT_iff]at*;omega
def ofN(c n:Int)(x:Vd):Bool:=x.c==c&&x.n==n
theorem ofN_iff{c n:Int}{x:Vd}:ofN c n x=true↔x.c=c/\x.n=n:=by simp[ofN]
def SrtV(B:Bk):Prop:=B.Pairwise fun x y=>ltT x.c x.n y.c y.n=true
def getB(c n:Int):Bk->Option Vd
 |[]=>none
 |x::B=>if ofN c n x then some x else getB c n B
def insB(v:Vd):Bk->Bk
 |[]=>[v]
 |x::B=>if ltT x.c x.n v.c v.n then x::insB v B else v::x::B
def cmB(x:Vd):Bool:= !(x.ap==0&&x.al==0)
def okV(v:Vd):Bool:=rightB v.sp v.sl&&rightB v.ap v.al&&(cmB v||(v.pt==0&& !v.dn))
def eqV(x y:Vd):Bool:=x.c==y.c&&x.n==y.n&&x.sp==y.sp&&x.sl==y.sl&&x.ap==y.ap&&x.al==y.al&&x.pt==y.pt&&x.dn==y.dn
def setB(v:Vd)(B:Bk):Bk×Int:=if okV v then(match getB v.c v.n B with
 |some o=>(B,if eqV {o with dn:=v.dn} v then 0 else 40)
 |none=>(insB v B,0))else(B,1)
def mkDone(c n:Int)(B:Bk):Bk:=B.map fun x=>if ofN c n x then{x with dn:=true}else x
def doneB(c n:Int)(B:Bk):Bk×Bool:=match getB c n B with
 |some o=>if cmB o then(mkDone c n B,true)else(B,false)
 |none=>(B,false)
def stayB(sp sl:Int)(keep:List (Int×Int))(x:Vd):Bool:= !lessB x.sp x.sl sp sl||(cmB x&& !x.dn)||keep.contains (x.c,x.n)
def retB(sp sl:Int)(keep:List (Int×Int))(B:Bk):Bk:=B.filter (stayB sp sl keep)
theorem srtV_nil:SrtV []:=List.Pairwise.nil
theorem ins_mem{v x:Vd}:∀{B:Bk},x∈insB v B↔x=v\/x∈B
 |[]=>by simp[insB]
 |y::B=>by
  unfold insB;split
  ·simp only[List.mem_cons,ins_mem (B:=B)];constructor
   ·rintro(h|h|h)<;>simp[h]
   ·rintro(h|h|h)<;>simp[h]
  ·simp
theorem ins_len(v:Vd):∀B:Bk,(insB v B).length=B.length+1
 |[]=>rfl
 |y::B=>by
  unfold insB;split
  ·simp[ins_len v B]
  ·simp
theorem ins_srt{v:Vd}:∀{B:Bk},SrtV B->getB v.c v.n B=none->SrtV (insB v B)
 |[],_,_=>List.pairwise_singleton _ _
 |x::B,hs,hg=>by
  obtain⟨hs1,hs2⟩:=List.pairwise_cons.1 hs;unfold getB at hg;split at hg
  ·cases hg
  ·rename_i e;unfold insB;split
   ·rename_i hlt;refine List.pairwise_cons.2 ⟨fun y hy=>?_,ins_srt hs2 hg⟩;rcases ins_mem.1 hy with rfl|hy
    ·exact hlt
    ·exact hs1 y hy
   ·rename_i hlt;have hvx:ltT v.c v.n x.c x.n=true:=by
     cases h:ltT v.c v.n x.c x.n with
     |true=>rfl
     |false=>
      obtain⟨h1,h2⟩:=ltT_tri (by simpa using hlt) h;exact absurd (ofN_iff.2 ⟨h1,h2⟩) e
    refine List.pairwise_cons.2 ⟨fun y hy=>?_,hs⟩;rcases List.mem_cons.1 hy with rfl|hy
    ·exact hvx
    ·exact ltT_trans hvx (hs1 y hy)
theorem srt_ext:∀{A B:Bk},SrtV A->SrtV B->(∀x,x∈A↔x∈B)->A=B
 |[],[],_,_,_=>rfl
 |[],y::B,_,_,h=>by have:=(h y).2 (List.mem_cons_self ..);cases this
 |x::A,[],_,_,h=>by have:=(h x).1 (List.mem_cons_self ..);cases this
 |x::A,y::B,ha,hb,h=>by
  obtain⟨ha1,ha2⟩:=List.pairwise_cons.1 ha;obtain⟨hb1,hb2⟩:=List.pairwise_cons.1 hb;have hxy:x=y:=by
   rcases List.mem_cons.1 ((h x).1 (List.mem_cons_self ..))with e|e
   ·exact e
   ·rcases List.mem_cons.1 ((h y).2 (List.mem_cons_self ..))with e2|e2
    ·exact e2.symm
    ·have h1:=hb1 x e;have h2:=ltT_asymm (ha1 y e2);rw[h1]at h2;cases h2
  subst hxy;congr 1;refine srt_ext ha2 hb2 (fun z=>?_);have hz:=h z;simp only[List.mem_cons]at hz;constructor
  ·intro hza;rcases hz.1 (.inr hza)with e|e
   ·have:=ha1 z hza;rw[e,ltT_irrefl]at this;cases this
   ·exact e
  ·intro hzb;rcases hz.2 (.inr hzb)with e|e
   ·have:=hb1 z hzb;rw[e,ltT_irrefl]at this;cases this
   ·exact e
theorem filt_srt{B:Bk}(h:SrtV B)(p:Vd->Bool):SrtV (B.filter p):=List.Pairwise.sublist List.filter_sublist h
theorem done_srt{B:Bk}(h:SrtV B)(c n:Int):SrtV (mkDone c n B):=by unfold SrtV mkDone;rw[List.pairwise_map];refine h.imp (fun{a b} hab=>?_);split<;>split<;>exact hab
theorem set_len(v:Vd)(B:Bk):(setB v B).1.length<=B.length+1:=by
 unfold setB;split
 ·split
  ·simp
  ·simp[ins_len]
 ·simp
theorem doneB_len(c n:Int)(B:Bk):(doneB c n B).1.length=B.length:=by
 unfold doneB;split
 ·split
  ·simp[mkDone]
  ·rfl
 ·rfl
theorem ret_len(sp sl:Int)(keep:List (Int×Int))(B:Bk):(retB sp sl keep B).length<=B.length:=List.length_filter_le _ _
open Go.RowKit
def vdc(x:Vd):List Value:=[ui x.c,ui x.n,uw x.sp,ui x.sl,uw x.ap,ui x.al,ub x.pt,.bool x.dn]
def vdV(x:Vd):Value:=.agg #[ui x.c,ui x.n,uw x.sp,ui x.sl,uw x.ap,ui x.al,ub x.pt,.bool x.dn]
theorem vdc_len(x:Vd):(vdc x).length=8:=rfl
theorem vdc_one:∀x,∀u∈vdc x,u.oneCell'=true:=fun x u hu=>by simp only[vdc,List.mem_cons,List.not_mem_nil,or_false]at hu;rcases hu with rfl|rfl|rfl|rfl|rfl|rfl|rfl|rfl<;>rfl
def dv:Vd:=⟨0,0,0,0,0,0,0,false⟩
structure VdAt(w:World)(b off:Nat)(x:Vd):Prop where
 c0:w.cell? ⟨b,off,none⟩=some (ui x.c)
 c1:w.cell? ⟨b,off+1,none⟩=some (ui x.n)
 c2:w.cell? ⟨b,off+2,none⟩=some (uw x.sp)
 c3:w.cell? ⟨b,off+3,none⟩=some (ui x.sl)
 c4:w.cell? ⟨b,off+4,none⟩=some (uw x.ap)
 c5:w.cell? ⟨b,off+5,none⟩=some (ui x.al)
 c6:w.cell? ⟨b,off+6,none⟩=some (ub x.pt)
 c7:w.cell? ⟨b,off+7,none⟩=some (.bool x.dn)
def VsAt(B:Nat)(v:Value)(K:Bk)(w:World):Prop:=RwAt B 8 v K.length (rowC vdc K) w
theorem block_set{w:World}{b j:Nat}{cs:Array Value}{ty:TypeId}(u:Value)(h:w.heap[b]?=some (.cells cs ty (0,0))):(w.setCell ⟨b,j,none⟩ u).heap[b]?=some (.cells (cs.setIfInBounds j u) ty (0,0)):=by show(w.heap.modify b _)[b]?=_;rw[Array.getElem?_modify,if_pos rfl,h];rfl
theorem block_cell{w:World}{b j:Nat}{cs:Array Value}{ty:TypeId}{u:Value}(h:w.heap[b]?=some (.cells cs ty (0,0)))(hj:cs[j]?=some u):w.cell? ⟨b,j,none⟩=some u:=by unfold World.cell?;rw[h];exact hj
theorem block_frozen{w:World}{b:Nat}{cs:Array Value}{ty:TypeId}(h:w.heap[b]?=some (.cells cs ty (0,0)))(j:Nat):w.frozen? ⟨b,j,none⟩=false:=by unfold World.frozen?;rw[h];simp
theorem set_kept'(w:World)(b j:Nat)(u:Value):Kept (fun c=>c=b) w (w.setCell ⟨b,j,none⟩ u):=by have hb:Below b w (w.setCell ⟨b,j,none⟩ u):=(Below.refl b w).setCell (p:=⟨b,j,none⟩) (Nat.le_refl b) u;exact⟨hb.os,hb.tape,hb.output,hb.size,fun k _ hF=>Below.heap_setCell w ⟨b,j,none⟩ u k hF⟩
theorem size_al(w:World)(o:Obj):(w.alloc o).heap.size=w.heap.size+1:=by simp
theorem ret_bool{a b:Bool}(h:a=b):Ending.returned (.bool a)=.returned (.bool b):=by rw[h]
theorem bx8{W:World}{b:Nat}{a0 a1 a2 a3 a4 a5 a6 a7:Value}(x:Vd)(h0:W.heap[b]?=some (.cells #[a0,a1,a2,a3,a4,a5,a6,a7] 116 (0,0))):((((((((W.setCell ⟨b,0,none⟩ (ui x.c)).setCell ⟨b,1,none⟩ (ui x.n)).setCell ⟨b,2,none⟩ (uw x.sp)).setCell ⟨b,3,none⟩ (ui x.sl)).setCell ⟨b,4,none⟩ (uw x.ap)).setCell ⟨b,5,none⟩ (ui x.al)).setCell ⟨b,6,none⟩ (ub x.pt)).setCell ⟨b,7,none⟩ (.bool x.dn)).heap[b]?=some (.cells #[ui x.c,ui x.n,uw x.sp,ui x.sl,uw x.ap,ui x.al,ub x.pt,.bool x.dn] 116 (0,0)):=by have h1:(W.setCell ⟨b,0,none⟩ (ui x.c)).heap[b]?=some (.cells #[ui x.c,a1,a2,a3,a4,a5,a6,a7] 116 (0,0)):=block_set _ h0;generalize W.setCell ⟨b,0,none⟩ (ui x.c)=W1 at*;have h2:(W1.setCell ⟨b,1,none⟩ (ui x.n)).heap[b]?=some (.cells #[ui x.c,ui x.n,a2,a3,a4,a5,a6,a7] 116 (0,0)):=block_set _ h1;generalize W1.setCell ⟨b,1,none⟩ (ui x.n)=W2 at*;have h3:(W2.setCell ⟨b,2,none⟩ (uw x.sp)).heap[b]?=some (.cells #[ui x.c,ui x.n,uw x.sp,a3,a4,a5,a6,a7] 116 (0,0)):=block_set _ h2;generalize W2.setCell ⟨b,2,none⟩ (uw x.sp)=W3 at*;have h4:(W3.setCell ⟨b,3,none⟩ (ui x.sl)).heap[b]?=some (.cells #[ui x.c,ui x.n,uw x.sp,ui x.sl,a4,a5,a6,a7] 116 (0,0)):=block_set _ h3;generalize W3.setCell ⟨b,3,none⟩ (ui x.sl)=W4 at*;have h5:(W4.setCell ⟨b,4,none⟩ (uw x.ap)).heap[b]?=some (.cells #[ui x.c,ui x.n,uw x.sp,ui x.sl,uw x.ap,a5,a6,a7] 116 (0,0)):=block_set _ h4;generalize W4.setCell ⟨b,4,none⟩ (uw x.ap)=W5 at*;have h6:(W5.setCell ⟨b,5,none⟩ (ui x.al)).heap[b]?=some (.cells #[ui x.c,ui x.n,uw x.sp,ui x.sl,uw x.ap,ui x.al,a6,a7] 116 (0,0)):=block_set _ h5;generalize W5.setCell ⟨b,5,none⟩ (ui x.al)=W6 at*;have h7:(W6.setCell ⟨b,6,none⟩ (ub x.pt)).heap[b]?=some (.cells #[ui x.c,ui x.n,uw x.sp,ui x.sl,uw x.ap,ui x.al,ub x.pt,a7] 116 (0,0)):=block_set _ h6;generalize W6.setCell ⟨b,6,none⟩ (ub x.pt)=W7 at*;have h8:(W7.setCell ⟨b,7,none⟩ (.bool x.dn)).heap[b]?=some (.cells #[ui x.c,ui x.n,uw x.sp,ui x.sl,uw x.ap,ui x.al,ub x.pt,.bool x.dn] 116 (0,0)):=block_set _ h7;exact h8
theorem bx8_below{B b:Nat}{w W:World}(x:Vd)(h:Below B w W)(hb:B<=b):Below B w ((((((((W.setCell ⟨b,0,none⟩ (ui x.c)).setCell ⟨b,1,none⟩ (ui x.n)).setCell ⟨b,2,none⟩ (uw x.sp)).setCell ⟨b,3,none⟩ (ui x.sl)).setCell ⟨b,4,none⟩ (uw x.ap)).setCell ⟨b,5,none⟩ (ui x.al)).setCell ⟨b,6,none⟩ (ub x.pt)).setCell ⟨b,7,none⟩ (.bool x.dn)):=((((((((h.setCell (p:=⟨b,0,none⟩) hb _).setCell (p:=⟨b,1,none⟩) hb _).setCell (p:=⟨b,2,none⟩) hb _).setCell (p:=⟨b,3,none⟩) hb _).setCell (p:=⟨b,4,none⟩) hb _).setCell (p:=⟨b,5,none⟩) hb _).setCell (p:=⟨b,6,none⟩) hb _).setCell (p:=⟨b,7,none⟩) hb _)
theorem info37:(Tryz.prog.info? 116).map (fun i=>(i.zero,i.size,i.bytes))=some (some (.agg #[ui 0,ui 0,uw 0,ui 0,uw 0,ui 0,ub 0,.bool false]),8,48):=by kernel_rfl
theorem run_neq35(p l q m:Int)(w:World):(binOp .neq 28 (.agg #[uw p,ui l]) (.agg #[uw q,ui m])).run Tryz.prog w=.ok (.bool (!(p==q&&l==m))) w:=by by_cases h:p=q<;>by_cases h2:l=m<;>simp[go_sem,h,h2]
theorem rightP(p l:Int)(w:World):
  Calls Tryz.prog 81 #[.agg #[uw p,ui l]] w fun e w'=>e=.returned (.bool (rightB p l))/\Below w.heap.size w w':=by
 by_cases h1:p<=281474976710656<;>by_cases h2:l<=4095
 all_goals
  go_enter Tryz.func81,Tryz.ntmps81;go_wp2;go_ret;exact⟨ret_bool (by simp[rightB,h1,h2]),(Below.refl _ _).alloc (Nat.le_refl _) _⟩
theorem lessP(p l q m:Int)(w:World):
  Calls Tryz.prog 87 #[.agg #[uw p,ui l],.agg #[uw q,ui m]] w fun e w'=>e=.returned (.bool (lessB p l q m))/\Below w.heap.size w w':=by
 by_cases h:p=q
 ·subst h;go_enter Tryz.func87,Tryz.ntmps87;go_wp2;go_ret;exact⟨ret_bool (by simp[lessB]),((Below.refl _ _).alloc (Nat.le_refl _) _).alloc (by simp) _⟩
 ·have h':(p != q)=true:=by simpa using h
  go_enter Tryz.func87,Tryz.ntmps87;go_wp2;go_ret;exact⟨ret_bool (by simp[lessB,h]),((Below.refl _ _).alloc (Nat.le_refl _) _).alloc (by simp) _⟩
def txc(x:Int×Int):List Value:=[ui x.1,ui x.2]
theorem txc_len(x:Int×Int):(txc x).length=2:=rfl
def dtx:Int×Int:=(0,0)
def TsAt(B:Nat)(v:Value)(L:List (Int×Int))(w:World):Prop:=RwAt B 2 v L.length (rowC txc L) w
theorem TsAt.el{B:Nat}{ao:Option Addr}{cap:Nat}{L:List (Int×Int)}{w:World}(h:TsAt B (.slice ao L.length cap) L w){i:Nat}(hi:i<L.length):∃b off,ao=some ⟨b,off,none⟩/\ce w b (off+i*2) (ui (L.getD i dtx).1)/\ce w b (off+i*2+1) (ui (L.getD i dtx).2):=by obtain⟨b,off,e,hc⟩:=rowC_el txc_len dtx (by omega) rfl h hi;exact⟨b,off,e,hc 0 _ (by omega) rfl,hc 1 _ (by omega) rfl⟩
theorem TsAt.shape{B:Nat}{v:Value}{L:List (Int×Int)}{w:World}(h:TsAt B v L w):∃ao cap,v=.slice ao L.length cap/\L.length<=cap/\cap<=9223372036854775807:=by obtain⟨ao,cap,e,_,h1,h2,_⟩:=h;exact⟨ao,cap,e,h1,h2⟩
def ofV:Option Vd->Value
 |some x=>.tuple #[vdV x,.bool true]
 |none=>.tuple #[vdV dv,.bool false]
def R32(x:Int):Prop:=0<=x/\x<4294967296
def R64(x:Int):Prop:=0<=x/\x<18446744073709551616
def R8(x:Int):Prop:=0<=x/\x<256
structure RgV(v:Vd):Prop where
 c:R32 v.c
 n:R32 v.n
 sp:R64 v.sp
 sl:R32 v.sl
 ap:R64 v.ap
 al:R32 v.al
 pt:R8 v.pt
def RgT(L:List (Int×Int)):Prop:=∀x∈L,R32 x.1/\R32 x.2
structure Ifv(BA:Nat->Nat->(Nat->Prop)->Bk->World->Prop):Prop where
 lt:∀{B p:Nat} {M:Nat->Prop} {K:Bk} {w:World},BA B p M K w->∀k,M k->B<=k/\k<w.heap.size
 keep:∀{B p:Nat} {M G:Nat->Prop} {K:Bk} {w w':World},BA B p M K w->Kept G w w'->(∀k,M k->¬G k)->BA B p M K w'
 ok:∀{B p:Nat} {M:Nat->Prop} {K:Bk} {w:World},BA B p M K w->SrtV K
 new:∀w:World,Calls Tryz.prog 30 #[] w fun e w'=>∃p M,e=.returned (pz p)/\BA w.heap.size p M [] w'/\Below w.heap.size w w'
 set:∀{B p:Nat} {M:Nat->Prop} {K:Bk} {w:World} (v:Vd),BA B p M K w->K.length<10000->RgV v->Calls Tryz.prog 72 #[pz p,.agg #[ui v.c,ui v.n,uw v.sp,ui v.sl,uw v.ap,ui v.al,ub v.pt,.bool v.dn]] w fun e w'=>e=.returned (iw (setB v K).2)/\∃M',BA B p M' (setB v K).1 w'/\Kept M w w'/\∀i,M' i->M i\/w.heap.size<=i
 done:∀{B p:Nat} {M:Nat->Prop} {K:Bk} {w:World} (c n:Int),BA B p M K w->K.length<10000->R32 c/\R32 n->Calls Tryz.prog 77 #[pz p,.agg #[ui c,ui n]] w fun e w'=>e=.returned (.bool (doneB c n K).2)/\∃M',BA B p M' (doneB c n K).1 w'/\Kept M w w'/\∀i,M' i->M i\/w.heap.size<=i
 retire:∀{B p:Nat} {M:Nat->Prop} {K:Bk} {w:World} (sp sl:Int) (L:List (Int×Int)) (v:Value),BA B p M K w->K.length<10000->R64 sp/\R32 sl->RgT L->L.length*8<=140737488355328->TsAt w.heap.size v L w->(0<L.length->∀k,v.ownBlock=some k->¬M k)->Calls Tryz.prog 75 #[pz p,.agg #[uw sp,ui sl],v] w fun e w'=>e=.returned (iw ((K.length-(retB sp sl L K).length:Nat):Int))/\∃M',BA B p M' (retB sp sl L K) w'/\Kept M w w'/\∀i,M' i->M i\/w.heap.size<=i
 of:∀{B p:Nat} {M:Nat->Prop} {K:Bk} {w:World} (c n:Int),BA B p M K w->K.length<10000->R32 c/\R32 n->Calls Tryz.prog 97 #[pz p,.agg #[ui c,ui n]] w fun e w'=>e=.returned (ofV (getB c n K))/\Below w.heap.size w w'
 all:∀{B p:Nat} {M:Nat->Prop} {K:Bk} {w:World},BA B p M K w->K.length<10000->Calls Tryz.prog 26 #[pz p] w fun e w'=>∃v',e=.returned v'/\VsAt w'.heap.size v' K w'/\(∀k,v'.ownBlock=some k->w.heap.size<=k/\∃cs,w'.heap[k]?=some (.cells cs 116 (0,0)))/\Below w.heap.size w w'
variable {BA:Nat->Nat->(Nat->Prop)->Bk->World->Prop}
end Go.Proofs.YtdplfgcoaddbdaaGreat.Ver
