import Derived.RangeFuncBound
import Derived.RangeFuncCalls
import Derived.RangeFuncLeaves
import Derived.Shelf.Abstract
import Derived.Shelf.AbstractIn
import Derived.Shelf.RegionOpen
import Derived.OwnWalkIn
import Derived.TacticsInMore
import Derived.LoopNIn
import Derived.LoopIn
import Derived.RangeFuncBox
import Derived.Sort.Grow
import Derived.Shelf.SlSortCmp.WholeK
import Derived.Shelf.SlSortCmp.NoneTotal
import Derived.Test.YtnfpfbehebcdpaaGreatVbm
set_option maxHeartbeats 0
set_option maxRecDepth 99999
set_option linter.all false
namespace Go.Proofs.YtnfpfbehebcdpaaGreat.Ver
open Go.RowKit
structure Dw(g:Vd->Bool)(m0 m acc left:Bk):Prop where
 now:m.Perm (acc++left)
 all:(acc++left.filter λx=> !g x).Perm (m0.filter λx=> !g x)
def Dw.start(g:Vd->Bool)(m:Bk):Dw g m m [] m:=⟨by simp,by simp⟩
def Dw.stay{g:Vd->Bool}{m0 m acc L1 L2:Bk}{x:Vd}(h:Dw g m0 m acc (L1++x::L2))(hx:g x=false):Dw g m0 m (acc++[x]) (L1++L2):=by
 have p:(L1++x::L2).Perm (x::(L1++L2)):=List.perm_middle;refine⟨h.now.trans ?_,List.Perm.trans ?_ h.all⟩
 .rw[gu];exact vw acc p
 .have q:=(p.filter λx=> !g x);rw[xx,ah (by simp[hx])]at q;rw[gu];exact vw acc q.symm
def Dw.cut{g:Vd->Bool}{m0 m1 m2 acc L1 L2:Bk}{x:Vd}(h:Dw g m0 (m1++x::m2) acc (L1++x::L2))(hx:g x=true):Dw g m0 (m1++m2) acc (L1++L2):=by
 have p:(L1++x::L2).Perm (x::(L1++L2)):=List.perm_middle;have pm:(m1++x::m2).Perm (x::(m1++m2)):=List.perm_middle;refine⟨?_,List.Perm.trans ?_ h.all⟩
 .have q:(x::(m1++m2)).Perm (x::(acc++(L1++L2))):=pm.symm.trans (h.now.trans ((vw acc p).trans List.perm_middle));exact q.cons_inv
 .have q:=(p.filter λx=> !g x);rw[xx,ag (by simp[hx])]at q;exact vw acc q.symm
def Dw.end{g:Vd->Bool}{m0 m acc:Bk}(h:Dw g m0 m acc []):m.Perm (m0.filter λx=> !g x):=by have h1:=h.now;have h2:=h.all;simp only[jo,List.filter_nil]at h1 h2;exact h1.trans h2
def aj3{m m':Bk}(h:Kd m)(hp:m'.Perm m):Kd m':=(hp.pairwise_iff (λ{_ _} hne=>Ne.symm hne)).2 h
def Dw.other{g:Vd->Bool}{m0 m acc L1 L2:Bk}{x:Vd}(h:Dw g m0 m acc (L1++x::L2))(hk:Kd m):m.find? (Gv.isK kd (kd x))=some x/\∀y∈L1++L2,kd y≠kd x:=by refine⟨(Qb hk).2 ⟨h.now.mem_iff.2 (by simp),rfl⟩,λy hy=>?_⟩;have q:(acc++(L1++x::L2)).Perm (x::(acc++(L1++L2))):=(vw acc List.perm_middle).trans List.perm_middle;have:=aj3 hk (q.symm.trans h.now.symm);exactλe=>(ed.1 this).1 y (List.mem_append_right _ hy) e.symm
def Dw.sub{g:Vd->Bool}{m0 m1 m2 acc L:Bk}{x:Vd}(_:Dw g m0 (m1++m2) acc L)(hk:Kd (m1++x::m2)):Kd (m1++m2):=by have:(x::(m1++m2)).Perm (m1++x::m2):=List.perm_middle.symm;exact(ed.1 (aj3 hk this)).2
structure Dx(hb r:Nat)(sb bk bs:Nat)(S:List (Int×Int))(sp sl:Int)(m0:Bk)(w:World)(m acc left:Bk)(W:World):Prop where
 rg:Gv.Rg kd vdV hb r m left W
 cap:Cap sb bk bs S sp sl W
 kept:Kept (λi=>i=hb) w W
 dw:Dw (goB S sp sl) m0 m acc left
 kd:Kd m
 lo:w.heap.size<=r
 ne:hb≠sb/\hb≠bk/\hb≠bs
 old:sb<w.heap.size/\bk<w.heap.size/\bs<w.heap.size
def df25{hb sb bk bs:Nat}{S:List (Int×Int)}{sp sl:Int}{m:Bk}{w:World}(hm:Gv.At kd vdV hb m w)(hk:Kd m)(hc:Cap sb bk bs S sp sl w)(hne:hb≠sb/\hb≠bk/\hb≠bs):
  cpr 124 #[.map (some hb),.func (.func 125) #[] #[pz bk,pz bs]] w λe w'=>e=.returned (.tuple #[])/\∃m',Hid (m'.Perm (m.filter λx=> !goB S sp sl x))/\Gv.At kd vdV hb m' w'/\Kept (λi=>i=hb) w w':=by
 obtain⟨w0,hrun,hr0,hg0,hs0⟩:=Gv.abn Tryz.underlying127 hm;have hb0:Bw w w0:=⟨hg0.os,hg0.tape,hg0.output,hg0.size,λk hk'=>hg0.block k hk' (by simp)⟩;have H0:Hid (Dx hb w.heap.size sb bk bs S sp sl m w m [] m w0):=⟨hr0,hc.on hb0,Kept.of_below hb0,Dw.start _ _,hk,aj _,hne,hc.set.lt,(gsz hc.bk),(gsz hc.bs)⟩;clear hr0 hg0 hs0 hb0 hm hk hc hne;obtain⟨r,hr⟩:=xj w.heap.size;rw[hr]at H0 hrun;go_enter Tryz.func124,Tryz.ntmps124;go_wp2_with fail;clear hrun hr;go_loopw [8] (λ_ wr=>∃mm acc left,Dx hb r sb bk bs S sp sl m w mm acc left wr) (λ_ wr=>wr.rangeLeft hb r)
 case atStart=>exact⟨m,[],m,H0.out⟩
 case round=>
  obtain⟨mm,acc,left,hx⟩:=hrel;have HX:Hid (Dx hb r sb bk bs S sp sl m w mm acc left wr):=hx;have HML:Hid (wr.rangeLeft hb r=left.length):=hx.rg.left_eq;rcases hx.rg.next 0 with⟨rfl,hn⟩|⟨L1,x,L2,w1,rfl,hn,hr1,hg1,hs1,hen⟩
  .have hnx:∀ty,(Instr.next (pz r) false ty).run Tryz.prog wr=.ok (.tuple #[.bool false]) wr:=λ_=>hn;clear hx hn;go_wp2_with fail;go_end0
   exact⟨rfl,mm,HX.out.dw.end,HX.out.rg.at,HX.out.kept⟩
  .have hnx:∀ty,(Instr.next (pz r) false ty).run Tryz.prog wr=.ok (.tuple #[.bool true,.agg #[ui x.c,ui x.n],.agg #[ui x.c,ui x.n,uw x.sp,ui x.sl,uw x.ap,ui x.al,ub x.pt,.bool x.dn]]) w1:=λ_=>hn;have hent:(Instr.entry (pz r)).run Tryz.prog w1=.ok (.tuple #[.agg #[ui x.c,ui x.n],.agg #[ui x.c,ui x.n,uw x.sp,ui x.sl,uw x.ap,ui x.al,ub x.pt,.bool x.dn]]) w1:=hen;have H1:Hid (Gv.Rg kd vdV hb r mm (L1++L2) w1/\Cap sb bk bs S sp sl w1/\Kept (λi=>i=hb) w w1):=by have hk1:=Ny hg1;have o:=HX.out.old;have lo:=HX.out.lo;refine⟨hr1,HX.out.cap.kept hk1 (λe=>by cases e;omega) (λe=>by cases e;omega) (λe=>by cases e;omega),HX.out.kept.trans hk1 (λi e=>by cases e;exact .inr lo)⟩
   obtain⟨W2,hW2⟩:=xj ((w1.alloc (.cells #[ui x.c,ui x.n] 36)).alloc (.cells #[ui x.c,ui x.n,uw x.sp,ui x.sl,uw x.ap,ui x.al,ub x.pt,.bool x.dn] 143));have hb2:Bw w1 W2:=by rw[<-hW2];exact(al _).alloc (by simp) _
   have hx2:W2.heap[w1.heap.size]?=some (.cells #[ui x.c,ui x.n] 36 (0,0)):=by rw[<-hW2,(al (W:=w1.alloc (.cells #[ui x.c,ui x.n] 36)) _).block _ (by simp)];exact ae w1 _
   rw[hs1]at hx2;have H2:Hid (Gv.Rg kd vdV hb r mm (L1++L2) W2/\Cap sb bk bs S sp sl W2/\Kept (λi=>i=hb) w W2/\W2.heap[wr.heap.size]?=some (.cells #[ui x.c,ui x.n] 36 (0,0))):=⟨H1.out.1.on hb2,H1.out.2.1.on hb2,H1.out.2.2.trans (Kept.of_below (F:=λi=>i=hb) hb2) (λ_ e=>.inl e),hx2⟩;have CD:Hid (1=1->cpr 125 #[.agg #[ui x.c,ui x.n],.agg #[ui x.c,ui x.n,uw x.sp,ui x.sl,uw x.ap,ui x.al,ub x.pt,.bool x.dn],pz bk,pz bs] W2 λe w'=>e=.returned (.bool (goB S sp sl x))/\Hid (Gv.Rg kd vdV hb r mm (L1++L2) w'/\Kept (λi=>i=hb) w w'/\w'.heap[wr.heap.size]?=some (.cells #[ui x.c,ui x.n] 36 (0,0))/\Cap sb bk bs S sp sl w')):=λ_=>(del26 x H2.out.2.1).mono (by rintro e w' ⟨rfl,hb'⟩;exact⟨rfl,H2.out.1.on hb',H2.out.2.2.1.trans (Kept.of_below (F:=λi=>i=hb) hb') (λ_ e=>.inl e),by rw[hb'.block _ (gsz H2.out.2.2.2)];exact H2.out.2.2.2,H2.out.2.1.on hb'⟩)
   have HG:Hid (∀b,goB S sp sl x=b->b=true\/b=false):=λb _=>by cases b<;>simp
   clear hx hn hen hr1 hg1 hb2 hx2 H1 H2 HG;have HS:Hid (goB S sp sl x=false->Dw (goB S sp sl) m mm (acc++[x]) (L1++L2)):=HX.out.dw.stay;have HC:Hid (goB S sp sl x=true->∀m1 m2,mm=m1++x::m2->Dw (goB S sp sl) m (m1++m2) acc (L1++L2)):=λe m1 m2 e2=>by have:=HX.out.dw;rw[e2]at this;exact this.cut e
   have HO:Hid (mm.find? (Gv.isK kd (kd x))=some x/\∀y∈L1++L2,kd y≠kd x):=HX.out.dw.other HX.out.kd;have hlen:(L1++L2).length<(L1++x::L2).length:=by simp
   have HLen:Hid _:=hlen;have HW2:Hid _:=hW2;clear hW2 hlen;go_wp2_with fail;rw[HW2.out];refine(CD.out (by simp)).mono ?_;rintro e w3 ⟨rfl,H3⟩;clear hnx hent HW2 hs1 CD;generalize hz:goB S sp sl x=z at*;have HZ:Hid (goB S sp sl x=z):=hz;clear hz;cases z
   .go_wp2_with fail;go_roundw
    case rel=>exact⟨mm,acc++[x],L1++L2,H3.out.1,H3.out.2.2.2,H3.out.2.1,HS.out (by simp),HX.out.kd,HX.out.lo,HX.out.ne,HX.out.old⟩
    case measure=>rw[H3.out.1.left_eq,HML.out];exact HLen.out
   .have t0:ce w3 wr.heap.size 0 (ui x.c):=Aa H3.out.2.2.1 rfl;have t1:ce w3 wr.heap.size 1 (ui x.n):=Aa H3.out.2.2.1 rfl;obtain⟨w4,m1,m2,hdel,hmm,hr4,hk4,-⟩:=H3.out.1.del Tryz.underlying127 (kd x) HO.out.1 HO.out.2;have hde:∀ty:TypeId,(Builtin.delete_ #[127,36] ty #[.map (some hb),.agg #[ui x.c,ui x.n]]).run Tryz.prog w3=.ok (.tuple #[]) w4:=hdel;have H4:Hid (Dx hb r sb bk bs S sp sl m w (m1++m2) acc (L1++L2) w4):=by have o:=HX.out.ne;have hd:=HC.out (by simp) m1 m2 hmm;have hkd:=HX.out.kd;rw[hmm]at hkd;exact⟨hr4,H3.out.2.2.2.kept hk4 (λe=>o.1 e.symm) (λe=>o.2.1 e.symm) (λe=>o.2.2 e.symm),H3.out.2.1.trans hk4 (λ_ e=>.inl e),hd,hd.sub hkd,HX.out.lo,HX.out.ne,HX.out.old⟩
    clear hdel hmm hr4 hk4;go_wp2_with fail;go_roundw
    case rel=>exact⟨m1++m2,acc,L1++L2,H4.out⟩
    case measure=>rw[H4.out.rg.left_eq,HML.out];exact HLen.out
def ag8{S L:List (Int×Int)}(h:∀x,x∈S↔x∈L)(sp sl:Int)(K:Bk):K.filter (λx=> !goB S sp sl x)=retB sp sl L K:=by unfold retB;exact List.filter_congr (λx _=>au3 h sp sl x)
def aon{B p hb:Nat}{m K:Bk}{w:World}(sp sl:Int)(L:List (Int×Int))(v:Value)(h:Bo B p hb m K w)(hl:K.length<10000)(hz:L.length*8<=140737488355328)(hv:TsAt w.heap.size v L w):
  cpr 53 #[pz p,.agg #[uw sp,ui sl],v] w λe w'=>e=.returned (iw ((K.length-(retB sp sl L K).length:Nat):Int))/\∃M',BoAt B p M' (retB sp sl L K) w'/\Kept (λk=>k=p\/k=hb) w w'/\∀i,M' i->(i=p\/i=hb)\/w.heap.size<=i:=by
 obtain⟨W0,hW0⟩:=xj (w.alloc (.cells #[uw sp,ui sl] 38));have hb0:Bw w W0:=by rw[<-hW0];exact al _
 have hx0:W0.heap[w.heap.size]?=some (.cells #[uw sp,ui sl] 38 (0,0)):=by rw[<-hW0];exact ae w _
 have hp:=(gsz h.box);have hhb:=h.map.lt;obtain⟨bs,hbs⟩:=xj w.heap.size;rw[hbs]at hx0;have HN:Hid (hb≠bs/\w.heap.size<=bs):=⟨by omega,by omega⟩;have CS:Hid (1=1->cpr 123 #[v] W0 λe w'=>∃sb,e=.returned (.map (some sb))/\Hid (∃S,Ro sb S w'/\(∀x,x∈S↔x∈L)/\hb≠sb/\Bo B p hb m K w'/\Bw w w'/\w'.heap[bs]?=some (.cells #[uw sp,ui sl] 38 (0,0)))):=λ_=>by have hv0:TsAt W0.heap.size v L W0:=RwAt.le (RwAt.on hv hb0) hb0.size;refine(as5 L v W0 hv0 hz).mono ?_;rintro e w' ⟨sb,S,rfl,h1,h2,h3,h4⟩;have:=hb0.size;exact⟨sb,rfl,S,h1,h2,by omega,(h.on hb0).on h4,hb0.trans (h4.mono hb0.size),by rw[h4.block _ (gsz hx0)];exact hx0⟩
 have HR:Hid (Rl m K/\K.length<10000):=⟨h.rel,hl⟩;clear h hb0 hx0 hv hz hp hhb hl;go_enter Tryz.func53,Tryz.ntmps53;go_wp2_with fail;refine(CS.out (by simp)).mono ?_;rintro e w1 ⟨sb,rfl,H1⟩;clear CS hW0 hbs;obtain⟨S,h1,h2,h3,h4,h5,h6⟩:=H1.out;have HSL:Hid (∀x,x∈S↔x∈L):=h2;clear H1;obtain⟨W2,hW2⟩:=xj (w1.alloc (.cells #[.map (some sb)] 214));have hb2:Bw w1 W2:=by rw[<-hW2];exact al _
 have hk2:W2.heap[w1.heap.size]?=some (.cells #[.map (some sb)] 214 (0,0)):=by rw[<-hW2];exact ae w1 _
 have hhb:hb≠w1.heap.size:=Nat.ne_of_lt h4.map.lt;obtain⟨bk,hbk⟩:=xj w1.heap.size;rw[hbk]at hk2 hhb;have H2:Hid (Bo B p hb m K W2/\Bw w W2/\Cap sb bk bs S sp sl W2/\hb≠sb/\hb≠bk/\hb≠bs):=⟨h4.on hb2,h5.trans (hb2.mono h5.size),⟨h1.on hb2,hk2,by rw[hb2.block _ (gsz h6)];exact h6⟩,h3,hhb,HN.out.1⟩;clear h1 h2 h3 h4 h5 h6 hb2 hk2 hhb;have c0:=H2.out.1.cell;have l0:=H2.out.1.map.size 127 143 Tryz.underlying127;have hln:m.length=K.length:=HR.out.1.len;have hlt:(K.length:Int)<10000:=by have:=HR.out.2;omega
 rw[hln]at l0;have CD:Hid (1=1->cpr 124 #[.map (some hb),.func (.func 125) #[] #[pz bk,pz bs]] W2 λe w'=>e=.returned (.tuple #[])/\Hid (∃m',Gv.At kd vdV hb m' w'/\Rl m' (retB sp sl L K)/\Kept (λi=>i=hb) W2 w')):=λ_=>by refine(df25 H2.out.1.map HR.out.1.apart H2.out.2.2.1 H2.out.2.2.2).mono ?_;rintro e w' ⟨rfl,m',hp,hm,hk⟩;have:=HR.out.1.filt _ hp.out;rw[ag8 HSL.out]at this;exact⟨rfl,m',hm,this,hk⟩
 clear hln;have HLE:Hid ((retB sp sl L K).length<=K.length):=ajd sp sl L K;obtain⟨K',hK'⟩:=xj (retB sp sl L K);rw[hK']at CD HLE;have HK':Hid _:=hK';clear hK';go_wp2_with fail;refine(CD.out (by simp)).mono ?_;rintro e w3 ⟨rfl,H3⟩;clear CD c0 l0 hW2 hbk;obtain⟨m',h1,h2,h3⟩:=H3.out;have H4:Hid (Gv.At kd vdV hb m' w3/\Rl m' K'/\Kept (λi=>i=hb) W2 w3):=⟨h1,h2,h3⟩;have c0:ce w3 p 0 (.map (some hb)):=h3.cell H2.out.1.cell H2.out.1.ne;have l0:=h1.size 127 143 Tryz.underlying127;rw[h2.len]at l0;clear h1 h2 h3 H3;have hle:(K'.length:Int)<=K.length:=by have:=HLE.out;omega
 go_wp2_with fail;go_ret;have hsub:((K.length-K'.length:Nat):Int)=(K.length:Int)-K'.length:=by have:=HLE.out;omega
 rw[HK'.out,hsub];exact⟨rfl,aei H2.out.1 H2.out.2.1 H4.out.2.2 H4.out.1 H4.out.2.1⟩
open Go.RowKit Go.Shelf
def axa(F:Fence)(n:Nat)(h39:F.fn 202)(hro:F.round=none)(hn:1<=n)(l Bm b:Nat)(m:Bk)(J Jx:Bk->World->Prop)
  (hY:∀pre x W,J pre W->pre.length<m.length->YieldAt F (n-1) Tryz.prog l #[vdV x] W λe W'=>(e=.returned (.bool true)/\J (pre++[x]) W'/\KeepsWalks W W')\/(e=.returned (.bool false)/\Jx (pre++[x]) W'))
  (W:World) (hJ:AbidesFrom W.heap.size J) (hm:ce W Bm 0 (.map (some b))) (hown:Gv.At kd vdV b m W) (h0:J [] W):
  CallsIn F n Tryz.prog 202 #[.func (.yield l) #[] #[],pz Bm] W λe W'=>(∃v,e=.returned v)/\((∃xs,xs.Perm m/\J xs W')\/(∃pre,True/\Jx pre W')):=by
 obtain⟨w0,hrun,hr0,hg0,hs0⟩:=Gv.abn Tryz.underlying127 hown;have H0:Hid (Gv.Rg kd vdV b W.heap.size m m w0/\J [] w0):=⟨hr0,hJ [] W w0 none h0 hg0 (λr e=>by cases e)⟩;clear hr0 hg0 hs0 hown h0;refine callsIn_of_wp Tryz.func202 rfl h39 ?_ hro;simp only[Tryz.ntmps202,um,bg,o8,Nat.reduceAdd,Nat.reduceSub,Array.replicate_succ,Array.replicate_zero,List.push_toArray,List.append_toArray,lu,lq]
 gi_wp2
 gi_loopw [7] (λ_ wr=>∃pre left:Bk,Gv.Rg kd vdV b W.heap.size m left wr/\(pre++left).Perm m/\J pre wr) (λ_ wr=>wr.rangeLeft b W.heap.size)
 case atStart=>exact⟨[],m,H0.out.1,by simp,H0.out.2⟩
 case round=>
  obtain⟨pre,left,hrg,hpm,hJs⟩:=hrel;have HX:Hid (Gv.Rg kd vdV b W.heap.size m left wr/\(pre++left).Perm m/\J pre wr):=⟨hrg,hpm,hJs⟩;rcases hrg.next 0 with⟨rfl,hn'⟩|⟨L1,x,L2,w1,rfl,hn',hr1,hg1,hs1,hen⟩
  .have hnx:∀ty,(Instr.next (pz W.heap.size) false ty).run Tryz.prog wr=.ok (.tuple #[.bool false]) wr:=λ_=>hn';clear hrg hpm hJs hn'
   gi_wp2
   go_end0
   exact⟨⟨_,rfl⟩,.inl ⟨pre,by have:=HX.out.2.1;simpa using this,HX.out.2.2⟩⟩
  .have hnx:∀ty,(Instr.next (pz W.heap.size) false ty).run Tryz.prog wr=.ok (.tuple #[.bool true,.agg #[ui x.c,ui x.n],.agg #[ui x.c,ui x.n,uw x.sp,ui x.sl,uw x.ap,ui x.al,ub x.pt,.bool x.dn]]) w1:=λ_=>hn';have hent:(Instr.entry (pz W.heap.size)).run Tryz.prog w1=.ok (.tuple #[.agg #[ui x.c,ui x.n],.agg #[ui x.c,ui x.n,uw x.sp,ui x.sl,uw x.ap,ui x.al,ub x.pt,.bool x.dn]]) w1:=hen;have hJ1:J pre w1:=hJ pre wr w1 (some W.heap.size) hJs hg1 (λr e=>by cases e;exact⟨aj _,hrg.walk⟩);have hJ2:J pre (w1.alloc (.cells #[ui x.c,ui x.n,uw x.sp,ui x.sl,uw x.ap,ui x.al,ub x.pt,.bool x.dn] 143)):=hJ pre w1 _ none hJ1 (World.grownBy_alloc w1 _ none) (λr e=>by cases e);have hlen:pre.length<m.length:=by have:=hpm.length_eq;simp only[af,bg]at this;omega
   have HR2:Hid (Gv.Rg kd vdV b W.heap.size m (L1++L2) (w1.alloc (.cells #[ui x.c,ui x.n,uw x.sp,ui x.sl,uw x.ap,ui x.al,ub x.pt,.bool x.dn] 143))):=hr1.on (al _);have HP:Hid ((pre++[x]++(L1++L2)).Perm m/\(L1++L2).length<(L1++x::L2).length):=by refine⟨List.Perm.trans ?_ hpm,by simp⟩;rw[gu,List.singleton_append];exact vw pre List.perm_middle.symm
   obtain⟨fn,tmps,assign,body,hy,hR⟩:=hY pre x _ hJ2 hlen;dsimp only[vdV]at hy;clear hrg hpm hJs hn' hen hr1 hg1 hs1 hJ1 hJ2 hlen
   gi_wp2
   refine hR.mono ?_;rintro e W3 (⟨rfl,hJ3,hk3⟩|⟨rfl,hJx3⟩)
   .have H3:Hid (Gv.Rg kd vdV b W.heap.size m (L1++L2) W3):=HR2.out.walks hk3
    gi_wp2
    go_roundw
    case rel=>exact⟨pre++[x],L1++L2,H3.out,HP.out.1,hJ3⟩
    case measure=>rw[H3.out.left_eq,HX.out.1.left_eq];exact HP.out.2
   .gi_wp2
    refine ay (results_none rfl _ _ _) rfl ?_;exact⟨⟨_,rfl⟩,.inr ⟨pre++[x],trivial,hJx3⟩⟩
def agp(F:Fence)(n:Nat)(h39:F.fn 202)(hro:F.round=none)(hn:1<=n)(Bm b:Nat)(m:Bk)(w:World)(hBm:Bm<w.heap.size)(hm:ce w Bm 0 (.map (some b)))(hown:Gv.At kd vdV b m w):
  SeqStopsK F n Tryz.prog 202 #[pz Bm] (λx:Vd=>#[vdV x]) KeepsWalks (λxs=>xs.Perm m) (λ_=>True) m.length w:=λl J Jx W hW hJ _ hY h0=>
 axa F n h39 hro hn l Bm b m J Jx hY W hJ ((hW.cell (p:=⟨Bm,0,none⟩) hBm).trans hm) (hown.on hW) h0
def ang(F:Fence)(n:Nat)(h32:F.fn 150)(hro:F.round=none)(mb:Option Nat)(w:World):
  CallsIn F n Tryz.prog 150 #[.map mb] w λe w'=>e=.returned (.func (.func 202) #[] #[pz w.heap.size])/\w'=w.alloc (.cells #[.map mb] 127):=by
 refine callsIn_of_wp Tryz.func150 rfl h32 ?_ hro;simp only[Tryz.ntmps150,um,bg,o8,Nat.reduceAdd,Nat.reduceSub,Array.replicate_succ,Array.replicate_zero,List.push_toArray,List.append_toArray,lu,lq]
 gi_wp2
 go_ret;exact⟨rfl,rfl⟩
attribute [local go_sem] Oper.semAt_some
def own8(B:Nat)(x:Vd):Own (λ(_:Unit) W=>W.heap[B]?=some (.cells #[ui x.c,ui x.n,uw x.sp,ui x.sl,uw x.ap,ui x.al,ub x.pt,.bool x.dn] 143 (0,0))):=λ_ X Y row hs hg hrow=>
 (hg.block B (gsz hs) (λe'=>by obtain⟨o,ho,hc⟩:=hrow B e'.symm;rw[hs]at ho;cases ho;cases hc)).trans hs
def afs{W W':World}(h:KeepsOthers W W'):KeepsWalks W W':=⟨h.size,λk o hk ho=>h.same k o hk (Obj.not_cells_of_walk ho)⟩
def alr(x:Vd)(W:World):∀j u,(vdc x)[j]?=some u->(W.alloc (.cells #[ui x.c,ui x.n,uw x.sp,ui x.sl,uw x.ap,ui x.al,ub x.pt,.bool x.dn] 143)).cell? ((⟨W.heap.size,0,none⟩:Addr).add j)=some u:=λj u hj=>by rw[uj,mf];exact Aa (ae W _) (by simpa[vdc]using hj)
def app41(F:Fence)(n:Nat)(h41:F.fn 234)(h39:F.fn 202)(hro:F.round=none)(hn:3<=n)(Bm b:Nat)(m:Bk)(w:World)(hBm:Bm<w.heap.size)(hm:ce w Bm 0 (.map (some b)))(hown:Gv.At kd vdV b m w)(hl:m.length<100000):
  CallsIn F n Tryz.prog 234 #[sy,.func (.func 202) #[] #[pz Bm]] w λe w'=>∃v xs,e=.returned v/\xs.Perm m/\w'.ownsRow w.heap.size 143 8 v xs.length (rowC vdc xs)/\Bw w w':=by
 have h1:1<=n:=by omega
 obtain⟨i0,hi,hz0,hz1,hz2⟩:=pq ay5;have hseq:=agp F (n-1) h39 hro (by omega) Bm b m w hBm hm hown;clear hown hm;refine callsIn_of_wp_marks Tryz.func234 rfl h41 ?_ hro;simp only[Tryz.ntmps234,um,bg,o8,Nat.reduceAdd,Nat.reduceSub,Array.replicate_succ,Array.replicate_zero,List.push_toArray,List.append_toArray,lu,lq]
 gi_wp2
 have bS:=Boxed.new w 159 sy;have hB0:Bw w (w.alloc (.cells #[sy] 159)):=al _;refine wpIn_rangeFunc_ownH hro h1 (gf:=202) (lb:=#[pz Bm]) rfl h39 (enters_of Tryz.func202 (by kernel_rfl) rfl) hseq walksK_t walksK_b hB0 (λ_=>rfl) (λpre W=>(∃v,Boxed W w.heap.size 159 v/\W.ownsRow w.heap.size 143 8 v pre.length (rowC vdc pre)/\True)/\Bw w W) (λ_ _ _=>False) (OwnFrom.and (Own.from (holdsRow_own w.heap.size w.heap.size 159 143 8 (λpre:Bk=>pre.length) (λpre=>rowC vdc pre) (λ_ _=>True)) _) (ownFrom_below (aj _) (by simp))) (λ_ _ _ _ _ hs _ _=>hs) ⟨⟨_,bS,qg _ _ _ _,trivial⟩,hB0⟩ (λx a' W=>∃Bx,w.heap.size<Bx/\W.heap[Bx]?=some (.cells #[ui x.c,ui x.n,uw x.sp,ui x.sl,uw x.ap,ui x.al,ub x.pt,.bool x.dn] 143 (0,0))/\a'={tmps:=#[sy,.func (.func 202) #[] #[pz Bm],pz w.heap.size,undef,sy,pz Bx,.func (.func 202) #[] #[pz Bm],.agg #[ui x.c,ui x.n,uw x.sp,ui x.sl,uw x.ap,ui x.al,ub x.pt,.bool x.dn],undef,undef,undef,undef,undef],defers:=[]}) (λx a' _ X Y row hs hg hr=>by obtain⟨Bx,h1,h2,h3⟩:=hs;exact⟨Bx,h1,own8 Bx x () X Y row h2 hg (λr e=>(hr r e).2),h3⟩) ?assign ?body ?done ?stop;case assign=>
  rintro l pre x W K ⟨⟨v,hv,hrow,-⟩,hB⟩ hK;simp only[vdV]
  gi_wp2
  exact hK _ _ ((KeepsOthers.alloc _ _).from _) (KeepsWalks.alloc _ _) ⟨⟨v,hv.alloc _,hrow.alloc _,trivial⟩,hB.alloc hB.size _⟩ ⟨W.heap.size,hv.lt,ae W _,rfl⟩
 case body=>
  rintro l pre x a' W hl' ⟨r,hr⟩ ⟨⟨v,hv,hrow,-⟩,hB⟩ ⟨Bx,hBx,bX,rfl⟩ hlt;have hc:=hv.cell;have zx0:=bk8 bX
  gi_wp2_with (gi_at_builtin;refine wpListIn_append_own _ rfl _ _ 159 rfl w.heap.size 143 i0 (.agg #[ui 0,ui 0,uw 0,ui 0,uw 0,ui 0,ub 0,.bool false]) 8 48 Tryz.underlying159 hi hz0 hz1 hz2 rfl (by decide) _ _ _ rfl (hrow.alloc _) ⟨W.heap.size,0,none⟩ 1 1 (vdc x) rfl rfl (alr x W) (aiq x) (by unfold maxLen;omega) (by omega) (by have:=hB.size;simp;omega) ?_;intro v' w1 hown' hgrow _;obtain⟨g',cap',rfl⟩:=ownsRow_succ hown';obtain⟨hv1,hv2,hr2,hk2,hb2⟩:=hv.appended (by decide) hrow hB.size (aj _) hown' hgrow;have hc1:=hv1.cell;have hf1:=hv1.frozen)
  refine⟨hk2.from _,afs hk2,⟨_,hv2,?_,trivial⟩,hB.trans hb2⟩;rw[af,List.length_singleton,Ku,ae4];exact hr2
 case done=>
  rintro D ys W hD hS ⟨⟨v,hv,hrow,-⟩,hB⟩ hK;have hc:=hv.cell
  gi_wp2
  refine⟨by simp,.inl ⟨_,_,rfl,run_takeDeferred hK,?_⟩⟩;exact⟨_,results_tmp rfl _ _ _,v,ys,rfl,hS,ownsRow_putObj hrow _ hK rfl,hB.trans (belowK_b (w:=w) (aj _) W D _ _ (by simp at hD;omega) hK rfl rfl)⟩
 case stop=>
  rintro D c pre W _ _ h _;exact h.elim
def ams(F:Fence)(n:Nat)(h37:F.fn 200)(h41:F.fn 234)(h39:F.fn 202)(hro:F.round=none)(hn:4<=n)(Bm b:Nat)(m:Bk)(w:World)(hBm:Bm<w.heap.size)(hm:ce w Bm 0 (.map (some b)))(hown:Gv.At kd vdV b m w)(hl:m.length<100000):
  CallsIn F n Tryz.prog 200 #[.func (.func 202) #[] #[pz Bm]] w λe w'=>∃v xs,e=.returned v/\xs.Perm m/\w'.ownsRow w.heap.size 143 8 v xs.length (rowC vdc xs)/\Bw w w':=by
 have hcon:=app41 F (n-1) h41 h39 hro (by omega) Bm b m w hBm hm hown hl;clear hown hm hl hBm;have h1n:1<=n:=by omega
 refine callsIn_of_wp Tryz.func200 rfl h37 ?_ hro;simp only[Tryz.ntmps200,um,bg,o8,Nat.reduceAdd,Nat.reduceSub,Array.replicate_succ,Array.replicate_zero,List.push_toArray,List.append_toArray,lu,lq]
 gi_wp2_with (gi_at_call 234;refine hcon.mono ?_;rintro e w' ⟨v,xs,rfl,h1,h2,h3⟩)
 go_ret;exact⟨_,xs,rfl,h1,h2,h3⟩
open Go.RowKit Go.Sort
def Gw(W w':World):Prop:=∃q os',w'=grow (W.drewN q) os'
def Gw.refl(W:World):Gw W W:=⟨0,#[],by rw[grow_empty];rfl⟩
def Gw.alloc{W w':World}(h:Gw W w')(o:Obj):Gw W (w'.alloc o):=by obtain⟨q,os,rfl⟩:=h;exact⟨q,os++#[o],by rw[alloc_eq_grow,grow_grow]⟩
def Gw.drew{W w':World}(h:Gw W w'):Gw W w'.drew:=by obtain⟨q,os,rfl⟩:=h;exact⟨q+1,os,rfl⟩
def cpI(a b:Int):Int:=if a<b then-1 else if b<a then 1 else 0
def ark(a b:Int)(w:World):cpr 153 #[.int .u32 a,.int .u32 b] w λe w'=>e=.returned (.int .i64 (cpI a b))/\w'=w:=by
 by_cases h1:a<b
 .have HC:Hid (cpI a b= -1):=by show cpI a b= -1;unfold cpI;rw[ah h1]
  exact bcg
 .by_cases h2:b<a
  .have HC:Hid (cpI a b=1):=by show cpI a b=1;unfold cpI;rw[ag h1,ah h2]
   exact bcg
  .have HC:Hid (cpI a b=0):=by show cpI a b=0;unfold cpI;rw[ag h1,ag h2]
   exact bcg
def orI(x y:Int):Int:=if x=0 then y else x
def or34(bk:Nat)(x y:Int)(w:World)(h0:w.cell? ⟨bk,0,none⟩=some (.int .i64 x))(h1:w.cell? ⟨bk,1,none⟩=some (.int .i64 y)):cpr 152 #[.slice (some ⟨bk,0,none⟩) 2 2] w λe w'=>e=.returned (.int .i64 (orI x y))/\w'=w:=by
 have HO:Hid (orI x y=if x=0 then y else x):=rfl;go_enter Tryz.func152,Tryz.ntmps152;go_wp2_with fail;go_loopw [8] (λi wr=>∃k:Nat,i=.int .i64 k/\Hid (wr=w)/\Hid (k=0\/k=1/\x=0\/k=2/\x=0/\y=0)) (λi _=>2-(intOf i).toNat)
 case atStart=>exact⟨0,rfl,rfl,.inl rfl⟩
 case round=>
  obtain⟨k,rfl,HW,HK⟩:=hrel;obtain rfl:=HW.out;rcases HK.out with rfl|⟨rfl,hx⟩|⟨rfl,hx,hy⟩
  .by_cases hx:x=0
   .have HX:Hid (x=0):=hx;have hx':(x==0)=true:=by simpa using hx
    clear hx HW HK;go_wp2_with fail;go_roundw
    case rel=>exact⟨1,rfl,trivial,.inr (.inl ⟨rfl,HX.out⟩)⟩
    case measure=>simp[intOf]
   .have HX:Hid (¬x=0):=hx;have hx':(x==0)=false:=by simpa using hx
    clear hx HW HK;go_wp2_with fail;go_ret;exact⟨by rw[HO.out,ag HX.out];rfl,rfl⟩
  .have HX:Hid (x=0):=hx;clear hx HW HK;by_cases hy:y=0
   .have HY:Hid (y=0):=hy;have hy':(y==0)=true:=by simpa using hy
    clear hy;go_wp2_with fail;go_roundw
    case rel=>exact⟨2,rfl,trivial,.inr (.inr ⟨rfl,HX.out,HY.out⟩)⟩
    case measure=>simp[intOf]
   .have hy':(y==0)=false:=by simpa using hy
    clear hy;go_wp2_with fail;go_ret;exact⟨by rw[HO.out,ah HX.out];rfl,rfl⟩
  .have HX:Hid (x=0/\y=0):=⟨hx,hy⟩;clear hx hy HW HK;go_wp2_with fail;go_ret;exact⟨by rw[HO.out,ah HX.out.1,HX.out.2];rfl,rfl⟩
def cfV(x y:Vd):Int:=orI (cpI x.c y.c) (cpI x.n y.n)
structure Cw(w:World)(bx bt:Nat)(a b c d:Int)(W:World):Prop where
 g:Gw w W
 x0:W.cell? ⟨bx,0,none⟩=some (.int .u32 a)
 x1:W.cell? ⟨bx,1,none⟩=some (.int .u32 b)
 y0:W.cell? ⟨bt,0,none⟩=some (.int .u32 c)
 y1:W.cell? ⟨bt,1,none⟩=some (.int .u32 d)
def Cw.dr{w W:World}{bx bt:Nat}{a b c d:Int}(h:Cw w bx bt a b c d W):Cw w bx bt a b c d W.drew:=⟨h.g.drew,h.x0,h.x1,h.y0,h.y1⟩
def Cw.al{w W:World}{bx bt:Nat}{a b c d:Int}(h:Cw w bx bt a b c d W)(o:Obj):Cw w bx bt a b c d (W.alloc o):=by have f:=Fe (Go.Proofs.YtnfpfbehebcdpaaGreat.al (W:=W) o);exact⟨h.g.alloc o,(f.1 _ _ (df _ _ h.x0)).trans h.x0,(f.1 _ _ (df _ _ h.x1)).trans h.x1,(f.1 _ _ (df _ _ h.y0)).trans h.y0,(f.1 _ _ (df _ _ h.y1)).trans h.y1⟩
def Cw.five{w W:World}{bx bt:Nat}{a b c d:Int}(h:Cw w bx bt a b c d W):W.cell? ⟨bx,0,none⟩=some (.int .u32 a)/\W.cell? ⟨bx,1,none⟩=some (.int .u32 b)/\W.cell? ⟨bt,0,none⟩=some (.int .u32 c)/\W.cell? ⟨bt,1,none⟩=some (.int .u32 d)/\Cw w bx bt a b c d W:=⟨h.x0,h.x1,h.y0,h.y1,h⟩
def cmp33(x y:Vd)(w:World):cpr 151 #[.agg #[.int .u32 x.c,.int .u32 x.n,.int .u64 x.sp,.int .u32 x.sl,.int .u64 x.ap,.int .u32 x.al,.int .u8 x.pt,.bool x.dn],.agg #[.int .u32 y.c,.int .u32 y.n,.int .u64 y.sp,.int .u32 y.sl,.int .u64 y.ap,.int .u32 y.al,.int .u8 y.pt,.bool y.dn]] w λe w'=>e=.returned (.int .i64 (cfV x y))/\Gw w w':=by
 have C1:Hid (∀W,1=1->cpr 153 #[.int .u32 x.c,.int .u32 y.c] W λe w'=>e=.returned (.int .i64 (cpI x.c y.c))/\w'=W):=λW _=>ark _ _ W;have C2:Hid (∀W,1=1->cpr 153 #[.int .u32 x.n,.int .u32 y.n] W λe w'=>e=.returned (.int .i64 (cpI x.n y.n))/\w'=W):=λW _=>ark _ _ W;have CO:Hid (∀W:World,1=1->cpr 152 #[.slice (some ⟨W.heap.size,0,none⟩) 2 2] (W.alloc (.cells #[.int .i64 (cpI x.c y.c),.int .i64 (cpI x.n y.n)] 3)).drew λe w'=>e=.returned (.int .i64 (cfV x y))/\w'=(W.alloc (.cells #[.int .i64 (cpI x.c y.c),.int .i64 (cpI x.n y.n)] 3)).drew):=λW _=>or34 W.heap.size _ _ _ (Aa (ae W _) rfl) (Aa (ae W _) rfl);generalize cfV x y=r at*;generalize cpI x.c y.c=a at*;generalize cpI x.n y.n=b at*;obtain⟨W0,hW0⟩:=xj (w.alloc (.cells #[.int .u32 x.c,.int .u32 x.n,.int .u64 x.sp,.int .u32 x.sl,.int .u64 x.ap,.int .u32 x.al,.int .u8 x.pt,.bool x.dn] 143));obtain⟨W1,hW1⟩:=xj (W0.alloc (.cells #[.int .u32 y.c,.int .u32 y.n,.int .u64 y.sp,.int .u32 y.sl,.int .u64 y.ap,.int .u32 y.al,.int .u8 y.pt,.bool y.dn] 143));have HG:Hid (Gw w W1):=by rw[<-hW1,<-hW0];exact((Gw.refl w).alloc _).alloc _
 have hx0:W0.heap[w.heap.size]?=some (.cells #[.int .u32 x.c,.int .u32 x.n,.int .u64 x.sp,.int .u32 x.sl,.int .u64 x.ap,.int .u32 x.al,.int .u8 x.pt,.bool x.dn] 143 (0,0)):=by rw[<-hW0];exact ae w _
 have hx1:W1.heap[w.heap.size]?=some (.cells #[.int .u32 x.c,.int .u32 x.n,.int .u64 x.sp,.int .u32 x.sl,.int .u64 x.ap,.int .u32 x.al,.int .u8 x.pt,.bool x.dn] 143 (0,0)):=by rw[<-hW1,(al (W:=W0) _).block _ (gsz hx0)];exact hx0
 have hy1:W1.heap[W0.heap.size]?=some (.cells #[.int .u32 y.c,.int .u32 y.n,.int .u64 y.sp,.int .u32 y.sl,.int .u64 y.ap,.int .u32 y.al,.int .u8 y.pt,.bool y.dn] 143 (0,0)):=by rw[<-hW1];exact ae W0 _
 obtain⟨bx,hbx⟩:=xj w.heap.size;obtain⟨bt,hbt⟩:=xj W0.heap.size;rw[hbx]at hx1;rw[hbt]at hy1;have x0:W1.cell? ⟨bx,0,none⟩=some (.int .u32 x.c):=Aa hx1 rfl;have x1:W1.cell? ⟨bx,1,none⟩=some (.int .u32 x.n):=Aa hx1 rfl;have y0:W1.cell? ⟨bt,0,none⟩=some (.int .u32 y.c):=Aa hy1 rfl;have y1:W1.cell? ⟨bt,1,none⟩=some (.int .u32 y.n):=Aa hy1 rfl;have HT:Hid (Cw w bx bt x.c x.n y.c y.n W1):=⟨HG.out,x0,x1,y0,y1⟩;clear hx0 hx1 hy1;go_enter Tryz.func151,Tryz.ntmps151;go_wp2_with fail;clear hW0 hW1 hbx hbt;go_region_held3 (λW=>W.cell? ⟨bx,0,none⟩=some (.int .u32 x.c)/\W.cell? ⟨bx,1,none⟩=some (.int .u32 x.n)/\W.cell? ⟨bt,0,none⟩=some (.int .u32 y.c)/\W.cell? ⟨bt,1,none⟩=some (.int .u32 y.n)/\Cw w bx bt x.c x.n y.c y.n W) ((with_reducible refine Cw.five ?_;with_reducible repeat (first|exact HT.out|refine Cw.dr ?_|refine Cw.al ?_ _))) (first
  |(go_at_call_of 153 (Value.int .u32 x.c);(with_reducible refine(C1.out _ (by simp)).mono ?_);rintro e w1 ⟨rfl,rfl⟩)
  |(go_at_call_of 153 (Value.int .u32 x.n);(with_reducible refine(C2.out _ (by simp)).mono ?_);rintro e w1 ⟨rfl,rfl⟩)
  |(go_at_call 152;(with_reducible refine(CO.out _ (by simp)).mono ?_);rintro e w1 ⟨rfl,rfl⟩))
 all_goals
  go_wp2_with fail;go_ret;exact⟨rfl,(HT.out.g.alloc _).drew⟩
end Go.Proofs.YtnfpfbehebcdpaaGreat.Ver
namespace Go.Proofs
open Go.Shelf
def Tryz.aky:Go.Shelf.Ren:=⟨λ|6=>201|15=>180|14=>235|28=>224|29=>204|20=>255|21=>256|22=>257|23=>258|24=>259|25=>260|26=>261|27=>262|46=>265|47=>244|48=>245|49=>266|50=>267|57=>268|n=>n,λ|22=>159|24=>143|25=>247|3=>3|39=>267|0=>0|53=>34|55=>33|4=>4|46=>308|45=>307|50=>313|5=>5|9=>9|66=>329|70=>333|76=>344|77=>345|n=>n,λ|n=>n⟩
def Tryz.awp:Go.Proofs.SlLaysF0.n6 Tryz.prog Tryz.aky:={mixed:=by kernel_rfl,f6:=⟨Tryz.f201.name,by decide,Tryz.func201.trans (congrArg some (by kernel_rfl))⟩,f14:=⟨Tryz.f235.name,by decide,Tryz.func235.trans (congrArg some (by kernel_rfl))⟩,f15:=Tryz.func180.trans (congrArg some (by kernel_rfl)),f20:=⟨Tryz.f255.name,by decide,Tryz.func255.trans (congrArg some (by kernel_rfl))⟩,f21:=⟨Tryz.f256.name,by decide,Tryz.func256.trans (congrArg some (by kernel_rfl))⟩,f22:=⟨Tryz.f257.name,by decide,Tryz.func257.trans (congrArg some (by kernel_rfl))⟩,f23:=⟨Tryz.f258.name,by decide,Tryz.func258.trans (congrArg some (by kernel_rfl))⟩,f24:=⟨Tryz.f259.name,by decide,Tryz.func259.trans (congrArg some (by kernel_rfl))⟩,f25:=⟨Tryz.f260.name,by decide,Tryz.func260.trans (congrArg some (by kernel_rfl))⟩,f26:=⟨Tryz.f261.name,by decide,Tryz.func261.trans (congrArg some (by kernel_rfl))⟩,f27:=⟨Tryz.f262.name,by decide,Tryz.func262.trans (congrArg some (by kernel_rfl))⟩,f28:=Tryz.func224.trans (congrArg some (by kernel_rfl)),f29:=Tryz.func204.trans (congrArg some (by kernel_rfl)),f46:=⟨Tryz.f265.name,by decide,Tryz.func265.trans (congrArg some (by kernel_rfl))⟩,f47:=Tryz.func244.trans (congrArg some (by kernel_rfl)),f48:=Tryz.func245.trans (congrArg some (by kernel_rfl)),f49:=⟨Tryz.f266.name,by decide,Tryz.func266.trans (congrArg some (by kernel_rfl))⟩,f50:=⟨Tryz.f267.name,by decide,Tryz.func267.trans (congrArg some (by kernel_rfl))⟩,f57:=⟨Tryz.f268.name,by decide,Tryz.func268.trans (congrArg some (by kernel_rfl))⟩,t0:=Tryz.underlying0,a0:=Tryz.isAgg0,z0:=Tryz.sizeOf0,v0:=Tryz.zeroValue0,t3:=Tryz.underlying3,a3:=Tryz.isAgg3,z3:=Tryz.sizeOf3,v3:=Tryz.zeroValue3,t4:=Tryz.underlying4,a4:=Tryz.isAgg4,z4:=Tryz.sizeOf4,v4:=Tryz.zeroValue4,t5:=Tryz.underlying5,a5:=Tryz.isAgg5,z5:=Tryz.sizeOf5,v5:=Tryz.zeroValue5,t9:=Tryz.underlying9,a9:=Tryz.isAgg9,z9:=Tryz.sizeOf9,v9:=Tryz.zeroValue9,t22:=Tryz.underlying159,a22:=Tryz.isAgg159,z22:=Tryz.sizeOf159,v22:=Tryz.zeroValue159,t25:=Tryz.underlying247,a25:=Tryz.isAgg247,z25:=Tryz.sizeOf247,v25:=Tryz.zeroValue247,t39:=Tryz.underlying267,a39:=Tryz.isAgg267,z39:=Tryz.sizeOf267,v39:=Tryz.zeroValue267,t45:=Tryz.underlying307,a45:=Tryz.isAgg307,z45:=Tryz.sizeOf307,v45:=Tryz.zeroValue307,t46:=Tryz.underlying308,a46:=Tryz.isAgg308,z46:=Tryz.sizeOf308,v46:=Tryz.zeroValue308,t50:=Tryz.underlying313,a50:=Tryz.isAgg313,z50:=Tryz.sizeOf313,v50:=Tryz.zeroValue313,t53:=Tryz.underlying34,a53:=Tryz.isAgg34,z53:=Tryz.sizeOf34,v53:=Tryz.zeroValue34,t55:=Tryz.underlying33,a55:=Tryz.isAgg33,z55:=Tryz.sizeOf33,v55:=Tryz.zeroValue33,t66:=Tryz.underlying329,a66:=Tryz.isAgg329,z66:=Tryz.sizeOf329,v66:=Tryz.zeroValue329,t70:=Tryz.underlying333,a70:=Tryz.isAgg333,z70:=Tryz.sizeOf333,v70:=Tryz.zeroValue333,t76:=Tryz.underlying344,a76:=Tryz.isAgg344,z76:=Tryz.sizeOf344,v76:=Tryz.zeroValue344,t77:=Tryz.underlying345,a77:=Tryz.isAgg345,z77:=Tryz.sizeOf345,v77:=Tryz.zeroValue345}
end Go.Proofs
namespace Go.Proofs.YtnfpfbehebcdpaaGreat.Ver
open Go.RowKit Go.Sort Go.Shelf
def ajw(x y:Vd):ltOf cfV x y=ltT x.c x.n y.c y.n:=by
 rw[yh,U8];unfold ltOf cfV orI cpI;rw[decide_eq_true_iff];by_cases h1:x.c<y.c
 .rw[ah h1];simp[h1]
 .rw[ag h1];by_cases h2:y.c<x.c
  .rw[ah h2];constructor
   .intro h;simp at h
   .intro h;omega
  .rw[ag h2,ah rfl];by_cases h3:x.n<y.n
   .rw[ah h3];constructor
    .intro _;omega
    .intro _;decide
   .rw[ag h3];constructor
    .intro h;split at h<;>simp at h
    .intro h;omega
def axl:SWO (ltOf cfV):={
 irrefl:=λx=>by rw[ajw];exact P8 _ _
 trans:=λx y z h1 h2=>by rw[ajw]at*;exact ab2 h1 h2
 ntrans:=λx y z h1 h2=>by rw[ajw,<-uh,U8]at*;omega}
def avm[Inhabited Vd](blk off size:Nat)(w:World):CmpLays Tryz.prog 151 #[] vdc 8 cfV blk off size w:=
 λ_ _ _ _ x y=>cmp33 x y _
def af0[Inhabited Vd](m:Bk)(j:Nat)(hj:j<m.length*8):(rowC vdc m)[j]?=some ((flatK vdc 8 m.toArray)[j]!):=by
 have h1:j/8<m.length:=by omega
 have h2:j%8<8:=Nat.mod_lt _ (by omega);rw[get_flatK vdc 8 m.toArray j (by simpa using hj)];have e:=Zn acu dv m (j/8) (j%8) h1 h2;rw[show j/8*8+j%8=j from by omega]at e;rw[e];have e2:m.toArray[j/8]! =m.getD (j/8) dv:=by simp[List.getD,h1]
 rw[e2];have h3:j%8<(vdc (m.getD (j/8) dv)).length:=h2;rw[bf h3,getElem!_pos (vdc (m.getD (j/8) dv)) (j%8) h3]
def atx[Inhabited Vd]{d d':Array Vd}(h:PermIn 0 d.size d d'):d'.toList.Perm d.toList:=by obtain⟨h1,_,h3⟩:=h;rw[show d'.extract 0 d.size=d' from by rw[<-h1];simp,show d.extract 0 d.size=d from by simp]at h3;exact h3
def akx[Inhabited Vd]{d:Array Vd}(h:SortedIn (ltOf cfV) 0 d.size d):d.toList.Pairwise λx y=>ltT y.c y.n x.c x.n=false:=by
 refine uu.2 (λi j hi hj hij=>?_);have hi':i<d.size:=by simpa using hi
 have hj':j<d.size:=by simpa using hj
 have:=h i j (gp _) hij hj';rw[ajw,getElem!_pos d j hj',getElem!_pos d i hi']at this;simpa using this
def axm(base g cap:Nat)(m:Bk)(w:World)(h:w.ownsRow base 143 8 (.slice (some ⟨g,0,none⟩) m.length cap) m.length (rowC vdc m))(hl:m.length<100000):
  cpr 201 #[.slice (some ⟨g,0,none⟩) m.length cap,.func (.func 151) #[] #[]] w λe w'=>e=.returned (.tuple #[])/\∃L,L.Perm m/\(L.Pairwise λx y=>ltT y.c y.n x.c x.n=false)/\VsAt w'.heap.size (.slice (some ⟨g,0,none⟩) m.length cap) L w'/\Kept (λi=>i=g) w w'/\∃cs,w'.heap[g]?=some (.cells cs 143 (0,0)):=by
 haveI:Inhabited Vd:=⟨dv⟩
 rcases h.2 with⟨e,_⟩|⟨g',cap',cur,e,hb,hg,hnc,hcm,hcs,ht⟩
 .simp at e
 simp only[jv,ja,Addr.mk.injEq,true_and,and_true]at e;obtain⟨rfl,rfl⟩:=e;have hlt:g<w.heap.size:=(lm.1 hg).1;have hH:HoldsK vdc 8 w g 0 m.toArray:=λj hj=>by
  have hj':j<m.length*8:=by simpa using hj
  refine⟨?_,?_⟩
  .have:=World.ownsRow.cells h (g:=g) rfl j _ (af0 m j hj');rw[uj]at this;exact this
  .unfold World.frozen?;rw[hg];simp
 have eg:∀args w,(callFunc 151 args).run Tryz.prog w=.ok (.enter 151 args) w:=enters_of Tryz.func151 (by kernel_rfl) rfl;have hcon:=AnyQ.slices_SortFunc Tryz.awp 8 Tryz.isAgg143 Tryz.sizeOf143 vdc (λ_=>rfl) aiq cfV axl 151 #[] g 0 cap m.toArray w eg (avm g 0 m.toArray.size w) hH hlt (by simp;omega);rw[um]at hcon;change cpr 201 #[.slice (some ⟨g,0,none⟩) m.length cap,.func (.func 151) #[] #[]] w _ at hcon;refine hcon.mono ?_;rintro e w' ⟨rfl,d',n,os,hp,hs,rfl⟩;have hsz:d'.size=m.length:=by have:=hp.1;simpa using this
 have hp':d'.toList.Perm m:=by have:=atx (d:=m.toArray) (d':=d') (by rw[um];exact hp);simpa using this
 have hH':=holdsK_sortWorldK vdc 8 w g 0 n m.toArray d' os hlt hH (by simp[hsz]);have hz:w.heap.size<=(sortWorldK vdc 8 w g 0 n d' os).heap.size:=size_sortWorldK_c vdc 8 w g 0 n d' os;refine⟨rfl,d'.toList,hp',akx (by rw[hsz];exact hs),?_,?_,?_⟩
 .have hdl:d'.toList.length=m.length:=by simpa using hsz
  unfold VsAt;rw[hdl];refine⟨_,cap,rfl,by rw[Kt acu,hdl],hnc,by unfold maxLen at hcm;omega,λ_=>⟨g,0,rfl,λ_=>iy hlt hz,λj u hj=>?_⟩⟩;have hj':j<d'.toList.length*8:=by
   have:=(gy.1 hj).1
   rwa [Kt acu]at this
  have f:=af0 d'.toList j hj';rw[hj]at f;have c:=(hH' j (by simpa[flatK]using hj')).1;rw[c];simp only[Array.toArray_toList]at f;exact f.symm
 .refine⟨rfl,rfl,rfl,hz,λk hk hn=>?_⟩;unfold sortWorldK;rw[heap_grow_old _ _ (by rw[size_putRowK];exact hk)];unfold putRowK putRow mapBlock;simp only[Sort.ahead];rw[qc,ag (Ne.symm hn)]
 .unfold sortWorldK;rw[heap_grow_old _ _ (by rw[size_putRowK];exact hlt)];unfold putRowK putRow mapBlock;simp only[Sort.ahead];rw[qc,ah rfl,hg];exact⟨_,rfl⟩
def agt(ao:Option Addr)(cap:Nat)(w:World):cpr 201 #[.slice ao 0 cap,.func (.func 151) #[] #[]] w λe w'=>e=.returned (.tuple #[])/\w'=w:=
 AnyF.slices_SortFunc_none Tryz.awp ao cap (.func (.func 151) #[] #[]) w
open Go.RowKit Go.Shelf
def an1(Bm b:Nat)(m K:Bk)(w:World)(hBm:Bm<w.heap.size)(hm:ce w Bm 0 (.map (some b)))(hown:Gv.At kd vdV b m w)(hr:Rl m K)(hl:K.length<10000):
  cpr 149 #[.func (.func 202) #[] #[pz Bm],.func (.func 151) #[] #[]] w λe w'=>∃v',e=.returned v'/\VsAt w'.heap.size v' K w'/\(∀k,v'.ownBlock=some k->w.heap.size<=k/\∃cs,w'.heap[k]?=some (.cells cs 143 (0,0)))/\Bw w w':=by
 have hlm:m.length<10000:=by rw[hr.len];exact hl
 have CC:Hid (1=1->cpr 200 #[.func (.func 202) #[] #[pz Bm]] w λe w'=>∃ao k cap,e=.returned (.slice ao k cap)/\Hid (∃xs,xs.Perm m/\k=xs.length/\w'.ownsRow w.heap.size 143 8 (.slice ao k cap) k (rowC vdc xs)/\Bw w w')):=λ_=>by
  refine(callsIn_wide.1 (ams Fence.wide 10 trivial trivial trivial rfl (by omega) Bm b m w hBm hm hown (by omega))).mono ?_;rintro e w' ⟨v,xs,rfl,h1,h2,h3⟩;rcases h2.2 with⟨rfl,h0⟩|⟨g,cap,cur,rfl,_⟩
  .exact⟨none,0,0,rfl,xs,h1,h0.symm,by rw[h0]at h2;exact h2,h3⟩
  .exact⟨_,_,cap,rfl,xs,h1,rfl,h2,h3⟩
 have CS:Hid (∀ao k cap W,Hid (∃xs,xs.Perm m/\k=xs.length/\W.ownsRow w.heap.size 143 8 (.slice ao k cap) k (rowC vdc xs)/\Bw w W)->cpr 201 #[.slice ao k cap,.func (.func 151) #[] #[]] W λe w'=>e=.returned (.tuple #[])/\Hid (VsAt w'.heap.size (.slice ao k cap) K w'/\(∀i,(Value.slice ao k cap).ownBlock=some i->w.heap.size<=i/\∃cs,w'.heap[i]?=some (.cells cs 143 (0,0)))/\Bw w w')):=λao k cap W h=>by
  obtain⟨xs,h1,rfl,h2,h3⟩:=h.out;have hxl:xs.length=K.length:=h1.length_eq.trans hr.len;rcases h2.2 with⟨e,h0⟩|⟨g,cap',cur,e,hb,_⟩
  .simp only[jv]at e;obtain⟨rfl,_,rfl⟩:=e;have hx0:xs=[]:=jy h0;have hK0:K=[]:=jy (by omega);subst hx0 hK0;refine(agt none 0 W).mono ?_;rintro e w' ⟨rfl,rfl⟩;exact⟨rfl,RwAt.nil _ _ _,λi hi=>by simp[Value.ownBlock]at hi,h3⟩
  .simp only[jv,true_and]at e;obtain⟨rfl,rfl⟩:=e;refine(axm w.heap.size g cap xs W h2 (by omega)).mono ?_;rintro e w' ⟨rfl,L,p1,p2,p3,p4,p5⟩;have hLK:L=K:=hr.sorted (p1.trans h1) p2;subst hLK;refine⟨rfl,p3,λi hi=>?_,h3.trans (p4.below h3.size (λk e=>by rw[e];exact hb))⟩;have:g=i:=by simpa[Value.ownBlock]using hi
   rw[<-this];exact⟨hb,p5⟩
 clear hown hr hl hlm hm hBm;go_enter Tryz.func149,Tryz.ntmps149;go_wp2_with fail;refine(CC.out (by simp)).mono ?_;rintro e w1 ⟨ao,k,cap,rfl,H1⟩;clear CC;go_wp2_with fail;refine(CS.out _ _ _ _ H1).mono ?_;rintro e w2 ⟨rfl,H2⟩;clear CS H1;go_wp2_with fail;go_ret;exact⟨_,rfl,H2.out⟩
def all18{B p hb:Nat}{m K:Bk}{w:World}(h:Bo B p hb m K w)(hl:K.length<10000):
  cpr 71 #[pz p] w λe w'=>∃v',e=.returned v'/\VsAt w'.heap.size v' K w'/\(∀k,v'.ownBlock=some k->w.heap.size<=k/\∃cs,w'.heap[k]?=some (.cells cs 143 (0,0)))/\Bw w w':=by
 have c0:=h.cell;have CV:Hid (1=1->cpr 150 #[.map (some hb)] w λe w'=>e=.returned (.func (.func 202) #[] #[pz w.heap.size])/\w'=w.alloc (.cells #[.map (some hb)] 127)):=λ_=>callsIn_wide.1 (ang Fence.wide 10 trivial rfl (some hb) w);have CS:Hid (1=1->cpr 149 #[.func (.func 202) #[] #[pz w.heap.size],.func (.func 151) #[] #[]] (w.alloc (.cells #[.map (some hb)] 127)) λe w'=>∃v',e=.returned v'/\Hid (VsAt w'.heap.size v' K w'/\(∀k,v'.ownBlock=some k->w.heap.size<=k/\∃cs,w'.heap[k]?=some (.cells cs 143 (0,0)))/\Bw w w')):=λ_=>by have hb':Bw w (w.alloc (.cells #[.map (some hb)] 127)):=al _;refine(an1 w.heap.size hb m K _ (by simp) (Aa (ae w _) rfl) (h.map.on hb') h.rel hl).mono ?_;rintro e w' ⟨v',rfl,h1,h2,h3⟩;refine⟨v',rfl,h1,λk hk=>⟨ak hb'.size (h2 k hk).1,(h2 k hk).2⟩,hb'.trans (h3.mono hb'.size)⟩
 clear h hl;go_enter Tryz.func71,Tryz.ntmps71;go_wp2_with fail;refine(CV.out (by simp)).mono ?_;rintro e w1 ⟨rfl,rfl⟩;clear CV;go_wp2_with fail;refine(CS.out (by simp)).mono ?_;rintro e w2 ⟨v',rfl,H2⟩;clear CS;go_wp2_with fail;go_ret;exact⟨_,rfl,H2.out⟩
open Go.RowKit
def ahr{p hb:Nat}{M:Nat->Prop}{w w':World}{X:(Nat->Prop)->Prop}(hM:∀k,M k↔k=p\/k=hb)(h:∃M',X M'/\Kept (λk=>k=p\/k=hb) w w'/\∀i,M' i->(i=p\/i=hb)\/w.heap.size<=i):∃M',X M'/\Kept M w w'/\∀i,M' i->M i\/w.heap.size<=i:=by
 obtain⟨M',h1,h2,h3⟩:=h;refine⟨M',h1,⟨h2.os,h2.tape,h2.output,h2.size,λk hk hn=>h2.block k hk (λe=>hn ((hM k).2 e))⟩,λi hi=>?_⟩;rcases h3 i hi with e|e
 .exact .inl ((hM i).2 e)
 .exact .inr e
def avv:Ifv BoAt:={
 lt:=λh k hk=>h.lt k hk
 keep:=λh hk hM=>h.keep hk hM
 ok:=λh=>by obtain⟨_,_,h,_⟩:=h;exact h.rel.srt
 new:=Yi
 set:=λv h _ _=>by obtain⟨hb,m,h,hM⟩:=h;refine(aof v h).mono ?_;rintro e w' ⟨he,hx⟩;exact⟨he,ahr hM hx⟩
 done:=λc n h _ _=>by obtain⟨hb,m,h,hM⟩:=h;refine(azd c n h).mono ?_;rintro e w' ⟨he,hx⟩;exact⟨he,ahr hM hx⟩
 retire:=λsp sl L v h hl _ _ hz hv _=>by obtain⟨hb,m,h,hM⟩:=h;refine(aon sp sl L v h hl hz hv).mono ?_;rintro e w' ⟨he,hx⟩;exact⟨he,ahr hM hx⟩
 of:=λc n h _ _=>by obtain⟨hb,m,h,hM⟩:=h;exact of15 c n h
 all:=λh hl=>by obtain⟨hb,m,h,hM⟩:=h;refine(all18 h hl).mono ?_;rintro e w' ⟨v',rfl,h1,h2,h3⟩;exact⟨v',rfl,h1,h2,h3⟩}
