import Derived.RangeFuncBound
import Derived.RangeFuncCalls
import Derived.RangeFuncLeaves
import Derived.Shelf.Abstract
import Derived.Shelf.AbstractIn
import Derived.Shelf.RegionOpen
import Derived.OwnWalkIn
import Derived.TacticsInMore
import Derived.LoopNIn
import Derived.LoopIn
import Derived.Test.YtdplfgcoaddbdaaGreatXbr
set_option maxHeartbeats 4000000
set_option maxRecDepth 100000
set_option linter.unusedVariables false
set_option linter.unusedSimpArgs false
namespace Go.Proofs.YtdplfgcoaddbdaaGreat.Ver
open Go.RowKit
theorem run_nilmap(b:Nat)(w:World):(binOp .eql 135 (.map (some b)) (.map none)).run Tryz.prog w=.ok (.bool false) w:=by have e:=run_equal_map_nil (P:=Tryz.prog) w 135 26 116 (some b) Tryz.underlying135;simp[binOp,e,Result.andThen]
theorem run_nq37(x y:Vd)(w:World):(binOp .neq 116 (.agg #[ui x.c,ui x.n,uw x.sp,ui x.sl,uw x.ap,ui x.al,ub x.pt,.bool x.dn]) (.agg #[ui y.c,ui y.n,uw y.sp,ui y.sl,uw y.ap,ui y.al,ub y.pt,.bool y.dn])).run Tryz.prog w=.ok (.bool (!eqV x y)) w:=by
 obtain⟨c,n,sp,sl,ap,al,pt,dn⟩:=x;have zc':=y;simp only[eqV];simp[go_sem];repeat' split
 all_goals simp_all
structure Sb(B p hb:Nat)(m K:Bk)(w:World)(bv:Nat)(v:Vd)(W:World):Prop where
 bo:Bo B p hb m K W
 bel:Below w.heap.size w W
 bx:W.heap[bv]?=some (.cells #[ui v.c,ui v.n,uw v.sp,ui v.sl,uw v.ap,ui v.al,ub v.pt,.bool v.dn] 116 (0,0))
theorem Sb.on{B p hb:Nat}{m K:Bk}{w W W':World}{bv:Nat}{v:Vd}(h:Sb B p hb m K w bv v W)(hb':Below W.heap.size W W'):Sb B p hb m K w bv v W':=
 ⟨h.bo.on hb',h.bel.trans (hb'.mono h.bel.size),by rw[hb'.block _ (gsz h.bx)];exact h.bx⟩
theorem bo_same{B p hb:Nat}{m K:Bk}{w W:World}(h:Bo B p hb m K W)(hb':Below w.heap.size w W):∃M',BoAt B p M' K W/\Kept (fun k=>k=p\/k=hb) w W/\∀i,M' i->(i=p\/i=hb)\/w.heap.size<=i:=
 ⟨fun k=>k=p\/k=hb,⟨hb,m,h,fun _=>Iff.rfl⟩,Kept.of_below hb',fun _ hi=>.inl hi⟩
theorem bo_turn{B p hb:Nat}{m m' K K':Bk}{w W W':World}(h:Bo B p hb m K W)(hb':Below w.heap.size w W)(hk:Kept (fun i=>i=hb) W W')(hm:Gv.At kd vdV hb m' W')(hr:Rl m' K'):∃M',BoAt B p M' K' W'/\Kept (fun k=>k=p\/k=hb) w W'/\∀i,M' i->(i=p\/i=hb)\/w.heap.size<=i:=by
 refine⟨fun k=>k=p\/k=hb,⟨hb,m',⟨?_,hm,hr,h.lo,h.lh⟩,fun _=>Iff.rfl⟩,?_,fun _ hi=>.inl hi⟩
 ·rw[hk.block p (gsz h.box) h.ne];exact h.box
 ·exact(Kept.of_below (F:=fun k=>k=p\/k=hb) hb').trans hk (fun _ e=>.inl (.inr e))
theorem set9{B p hb:Nat}{m K:Bk}{w:World}(v:Vd)(h:Bo B p hb m K w):Calls Tryz.prog 72 #[pz p,.agg #[ui v.c,ui v.n,uw v.sp,ui v.sl,uw v.ap,ui v.al,ub v.pt,.bool v.dn]] w fun e w'=>e=.returned (iw (setB v K).2)/\∃M',BoAt B p M' (setB v K).1 w'/\Kept (fun k=>k=p\/k=hb) w w'/\∀i,M' i->(i=p\/i=hb)\/w.heap.size<=i:=by
 obtain⟨W0,hW0⟩:=xj (w.alloc (.cells #[ui v.c,ui v.n,uw v.sp,ui v.sl,uw v.ap,ui v.al,ub v.pt,.bool v.dn] 116));have hb0:Below w.heap.size w W0:=by rw[<-hW0];exact al _
 have hx0:W0.heap[w.heap.size]?=some (.cells #[ui v.c,ui v.n,uw v.sp,ui v.sl,uw v.ap,ui v.al,ub v.pt,.bool v.dn] 116 (0,0)):=by rw[<-hW0];exact heap_alloc_new w _
 have H0:Hid (Sb B p hb m K w w.heap.size v W0):=⟨h.on hb0,hb0,hx0⟩;have c0:=H0.out.bo.cell;have x0:ce W0 w.heap.size 0 (ui v.c):=block_cell hx0 rfl;have x1:ce W0 w.heap.size 1 (ui v.n):=block_cell hx0 rfl;have x2:ce W0 w.heap.size 2 (uw v.sp):=block_cell hx0 rfl;have x3:ce W0 w.heap.size 3 (ui v.sl):=block_cell hx0 rfl;have x4:ce W0 w.heap.size 4 (uw v.ap):=block_cell hx0 rfl;have x5:ce W0 w.heap.size 5 (ui v.al):=block_cell hx0 rfl;have x6:ce W0 w.heap.size 6 (ub v.pt):=block_cell hx0 rfl;have x7:ce W0 w.heap.size 7 (.bool v.dn):=block_cell hx0 rfl;have qn:=run_nilmap hb;have CR:Hid (∀W,Sb B p hb m K w w.heap.size v W->Calls Tryz.prog 143 #[.agg #[ui v.c,ui v.n,uw v.sp,ui v.sl,uw v.ap,ui v.al,ub v.pt,.bool v.dn]] W fun e w'=>e=.returned (.bool (okV v))/\Hid (Sb B p hb m K w w.heap.size v w')):=fun W hW=>(right19 v W).mono (by rintro e w' ⟨rfl,hb'⟩;exact⟨rfl,hW.on hb'⟩)
 have HG:Hid (m.find? (Gv.isK kd (kd v))=getB v.c v.n K):=h.rel.get v.c v.n;have CO:Hid (∀W,Sb B p hb m K w w.heap.size v W->Calls Tryz.prog 97 #[pz p,.agg #[ui v.c,ui v.n]] W fun e w'=>e=.returned (.tuple #[.agg #[ui (vz (getB v.c v.n K)).c,ui (vz (getB v.c v.n K)).n,uw (vz (getB v.c v.n K)).sp,ui (vz (getB v.c v.n K)).sl,uw (vz (getB v.c v.n K)).ap,ui (vz (getB v.c v.n K)).al,ub (vz (getB v.c v.n K)).pt,.bool (vz (getB v.c v.n K)).dn],.bool (getB v.c v.n K).isSome])/\Hid (Sb B p hb m K w w.heap.size v w')):=fun W hW=>(of15 v.c v.n hW.bo).mono (by rintro e w' ⟨rfl,hb'⟩;exact⟨by rw[ofV_eq];rfl,hW.on hb'⟩)
 have HR:Hid (Rl m K):=h.rel;have HS1:Hid (okV v=false->setB v K=(K,1)):=fun e=>by unfold setB;rw[e];rfl
 have HS2:Hid (okV v=true->getB v.c v.n K=none->setB v K=(insB v K,0)):=fun e e2=>by unfold setB;rw[e,e2];rfl
 have HS3:Hid (∀o,okV v=true->getB v.c v.n K=some o->setB v K=(K,if eqV {o with dn:=v.dn} v then 0 else 40)):=fun o e e2=>by unfold setB;rw[e,e2];rfl
 clear h hb0 hx0;generalize okV v=r at*;obtain⟨bv,hbv⟩:=xj w.heap.size;rw[hbv]at x0 x1 x2 x3 x4 x5 x6 x7 H0 CR CO;go_enter Tryz.func72,Tryz.ntmps72;go_wp2_with fail;refine(CR.out _ H0.out).mono ?_;rintro e w1 ⟨rfl,H1⟩;clear x0 x1 x2 x3 x4 x5 x6 x7 c0 hW0 CR H0 hbv;cases r
 ·go_wp2_with fail;go_ret;rw[HS1.out (by simp)];exact⟨rfl,bo_same H1.out.bo H1.out.bel⟩
 ·have x0:ce w1 bv 0 (ui v.c):=block_cell H1.out.bx rfl;have x1:ce w1 bv 1 (ui v.n):=block_cell H1.out.bx rfl;go_wp2_with fail;refine(CO.out _ H1.out).mono ?_;rintro e w2 ⟨rfl,H2⟩;clear x0 x1 CO HS1 H1;cases hg:getB v.c v.n K with
  |none=>
   have HS:Hid (setB v K=(insB v K,0)):=HS2.out (by simp) hg;have HGN:Hid (getB v.c v.n K=none):=hg;rw[hg]at HG;simp only[Option.isSome_none];generalize vz none=x;clear HS2 HS3 hg;obtain⟨W3,hW3⟩:=xj (w2.alloc (.cells #[ui x.c,ui x.n,uw x.sp,ui x.sl,uw x.ap,ui x.al,ub x.pt,.bool x.dn] 116));have H3:Hid (Sb B p hb m K w bv v W3):=by rw[<-hW3];exact H2.out.on (al _)
   obtain⟨wU,hrun,hmU,hkU,-⟩:=Gv.run_upd0 (w:=W3.drew) Tryz.underlying135 (H3.out.on ((Below.refl _ _).drew)).bo.map v HG.out;have HU:Hid (Gv.At kd vdV hb (m++[v]) wU/\Kept (fun i=>i=hb) W3.drew wU):=⟨hmU,hkU⟩;have hru:(Instr.mapUpdate 135 (.map (some hb)) (.agg #[ui v.c,ui v.n]) (.agg #[ui v.c,ui v.n,uw v.sp,ui v.sl,uw v.ap,ui v.al,ub v.pt,.bool v.dn])).run Tryz.prog W3.drew=.ok () wU:=hrun;clear hrun hmU hkU H2;have c0:=H3.out.bo.cell;obtain⟨x0,x1,x2,x3,x4,x5,x6,x7⟩:=bk8 H3.out.bx;go_wp2_with fail;go_region;go_wp2_with fail;go_ret;rw[HS.out];exact⟨rfl,bo_turn (W:=W3.drew) (H3.out.on ((Below.refl _ _).drew)).bo (H3.out.on ((Below.refl _ _).drew)).bel HU.out.2 HU.out.1 (HR.out.ins HGN.out)⟩
  |some o=>
   have HS:Hid (setB v K=(K,if eqV {o with dn:=v.dn} v then 0 else 40)):=HS3.out o (by simp) hg;simp only[vz,Option.getD_some,Option.isSome_some];clear HS2 HS3 hg HG;obtain⟨W3,hW3⟩:=xj (w2.alloc (.cells #[ui o.c,ui o.n,uw o.sp,ui o.sl,uw o.ap,ui o.al,ub o.pt,.bool o.dn] 116));have H3:Hid (Sb B p hb m K w bv v W3/\W3.heap[w2.heap.size]?=some (.cells #[ui o.c,ui o.n,uw o.sp,ui o.sl,uw o.ap,ui o.al,ub o.pt,.bool o.dn] 116 (0,0))/\bv<w2.heap.size):=by rw[<-hW3];exact⟨H2.out.on (al _),heap_alloc_new w2 _,(gsz H2.out.bx)⟩
   have HLo:Hid (w.heap.size<=w2.heap.size):=H2.out.bel.size;have HBo:Hid (Kept (fun i=>i=w2.heap.size) W3 (W3.setCell ⟨w2.heap.size,7,none⟩ (.bool v.dn))/\(W3.setCell ⟨w2.heap.size,7,none⟩ (.bool v.dn)).heap[w2.heap.size]?=some (.cells #[ui o.c,ui o.n,uw o.sp,ui o.sl,uw o.ap,ui o.al,ub o.pt,.bool v.dn] 116 (0,0))/\p<w2.heap.size/\hb<w2.heap.size):=⟨set_kept' _ _ _ _,block_set _ H3.out.2.1,(gsz H2.out.bo.box),H2.out.bo.map.lt⟩;clear H2;obtain⟨bo,hbo⟩:=xj w2.heap.size;rw[hbo]at H3 HBo HLo;have x7:ce W3 bv 7 (.bool v.dn):=block_cell H3.out.1.bx rfl;have y7:ce W3 bo 7 (.bool o.dn):=block_cell H3.out.2.1 rfl;have f7:W3.frozen? ⟨bo,7,none⟩=false:=block_frozen H3.out.2.1 7;obtain⟨W4,hW4⟩:=xj (W3.setCell ⟨bo,7,none⟩ (.bool v.dn));rw[hW4]at HBo;have H4:Hid (Sb B p hb m K w bv v W4):=by have hk:=HBo.out.1;have n1:=H3.out.2.2;have n2:=HBo.out.2.2;refine⟨H3.out.1.bo.kept hk (by omega) (by omega),H3.out.1.bel.trans (hk.below H3.out.1.bel.size (fun k e=>by rw[e];exact HLo.out)),?_⟩;rw[hk.block bv (gsz H3.out.1.bx) (by omega)];exact H3.out.1.bx
   have zu0:=bk8 H4.out.bx;have zz0:=bk8 HBo.out.2.1;have hq:=run_nq37 {o with dn:=v.dn} v;dsimp only at hq;generalize eqV {o with dn:=v.dn} v=q at*;cases q
   ·go_wp2_with fail;go_ret;rw[HS.out];exact⟨rfl,bo_same H4.out.bo H4.out.bel⟩
   ·go_wp2_with fail;go_ret;rw[HS.out];exact⟨rfl,bo_same H4.out.bo H4.out.bel⟩
structure Tb(B p hb:Nat)(m K:Bk)(w:World)(bt:Nat)(c n:Int)(W:World):Prop where
 bo:Bo B p hb m K W
 bel:Below w.heap.size w W
 bx:W.heap[bt]?=some (.cells #[ui c,ui n] 26 (0,0))
theorem Tb.on{B p hb:Nat}{m K:Bk}{w W W':World}{bt:Nat}{c n:Int}(h:Tb B p hb m K w bt c n W)(hb':Below W.heap.size W W'):Tb B p hb m K w bt c n W':=
 ⟨h.bo.on hb',h.bel.trans (hb'.mono h.bel.size),by rw[hb'.block _ (gsz h.bx)];exact h.bx⟩
theorem done11{B p hb:Nat}{m K:Bk}{w:World}(c n:Int)(h:Bo B p hb m K w):Calls Tryz.prog 77 #[pz p,.agg #[ui c,ui n]] w fun e w'=>e=.returned (.bool (doneB c n K).2)/\∃M',BoAt B p M' (doneB c n K).1 w'/\Kept (fun k=>k=p\/k=hb) w w'/\∀i,M' i->(i=p\/i=hb)\/w.heap.size<=i:=by
 obtain⟨W0,hW0⟩:=xj (w.alloc (.cells #[ui c,ui n] 26));have hb0:Below w.heap.size w W0:=by rw[<-hW0];exact al _
 have hx0:W0.heap[w.heap.size]?=some (.cells #[ui c,ui n] 26 (0,0)):=by rw[<-hW0];exact heap_alloc_new w _
 have H0:Hid (Tb B p hb m K w w.heap.size c n W0):=⟨h.on hb0,hb0,hx0⟩;have x0:ce W0 w.heap.size 0 (ui c):=block_cell hx0 rfl;have x1:ce W0 w.heap.size 1 (ui n):=block_cell hx0 rfl;have HG:Hid (m.find? (Gv.isK kd (c,n))=getB c n K):=h.rel.get c n;have CO:Hid (∀W,Tb B p hb m K w w.heap.size c n W->Calls Tryz.prog 97 #[pz p,.agg #[ui c,ui n]] W fun e w'=>e=.returned (.tuple #[.agg #[ui (vz (getB c n K)).c,ui (vz (getB c n K)).n,uw (vz (getB c n K)).sp,ui (vz (getB c n K)).sl,uw (vz (getB c n K)).ap,ui (vz (getB c n K)).al,ub (vz (getB c n K)).pt,.bool (vz (getB c n K)).dn],.bool (getB c n K).isSome])/\Hid (Tb B p hb m K w w.heap.size c n w')):=fun W hW=>(of15 c n hW.bo).mono (by rintro e w' ⟨rfl,hb'⟩;exact⟨by rw[ofV_eq];rfl,hW.on hb'⟩)
 have HR:Hid (Rl m K):=h.rel;have HS1:Hid (getB c n K=none->doneB c n K=(K,false)):=fun e=>by unfold doneB;rw[e]
 have HS2:Hid (∀o,getB c n K=some o->doneB c n K=if cmB o then(mkDone c n K,true)else(K,false)):=fun o e=>by unfold doneB;rw[e]
 clear h hb0 hx0;obtain⟨bt,hbt⟩:=xj w.heap.size;rw[hbt]at x0 x1 H0 CO;go_enter Tryz.func77,Tryz.ntmps77;go_wp2_with fail;refine(CO.out _ H0.out).mono ?_;rintro e w1 ⟨rfl,H1⟩;clear x0 x1 hW0 CO H0 hbt;cases hg:getB c n K with
 |none=>
  have HS:Hid (doneB c n K=(K,false)):=HS1.out hg;simp only[Option.isSome_none];generalize vz none=x;clear HS1 HS2 hg;have HB:Hid (∀o,Tb B p hb m K w bt c n (w1.alloc o)):=fun o=>H1.out.on (al _);clear H1;go_wp2_with fail;go_ret;rw[HS.out];exact⟨rfl,bo_same (HB.out _).bo (HB.out _).bel⟩
 |some o=>
  have hS:=HS2.out o hg;have hmo:m.find? (Gv.isK kd (c,n))=some o:=HG.out.trans hg;have hko:kd o=(c,n):=((kd_find HR.out.apart).1 hmo).2;obtain⟨rfl,rfl⟩:o.c=c/\o.n=n:=⟨congrArg Prod.fst hko,congrArg Prod.snd hko⟩;have CC:Hid (∀W,1=1->Calls Tryz.prog 153 #[.agg #[ui o.c,ui o.n,uw o.sp,ui o.sl,uw o.ap,ui o.al,ub o.pt,.bool o.dn]] W fun e w'=>e=.returned (.bool (cmB o))/\Below W.heap.size W w'):=fun W _=>comm23 o W;simp only[vz,Option.getD_some,Option.isSome_some];have HM:Hid (m.find? (Gv.isK kd (kd ({o with dn:=true}:Vd)))=some o):=hmo;clear HS1 HS2 hg HG hmo hko;obtain⟨W2,hW2⟩:=xj (w1.alloc (.cells #[ui o.c,ui o.n,uw o.sp,ui o.sl,uw o.ap,ui o.al,ub o.pt,.bool o.dn] 116));have H2:Hid (Tb B p hb m K w bt o.c o.n W2/\W2.heap[w1.heap.size]?=some (.cells #[ui o.c,ui o.n,uw o.sp,ui o.sl,uw o.ap,ui o.al,ub o.pt,.bool o.dn] 116 (0,0))/\w.heap.size<=w1.heap.size/\bt≠w1.heap.size/\p≠w1.heap.size/\hb≠w1.heap.size):=by rw[<-hW2];have n1:=(gsz H1.out.bx);have n2:=(gsz H1.out.bo.box);have n3:=H1.out.bo.map.lt;exact⟨H1.out.on (al _),heap_alloc_new w1 _,H1.out.bel.size,by omega,by omega,by omega⟩
  clear H1;obtain⟨bo,hbo⟩:=xj w1.heap.size;rw[hbo]at H2;obtain⟨y0,y1,y2,y3,y4,y5,y6,y7⟩:=bk8 H2.out.2.1;go_wp2_with fail;refine(CC.out _ (by simp)).mono ?_;rintro e w3 ⟨rfl,hb3⟩;have H3:Hid (Tb B p hb m K w bt o.c o.n w3/\w3.heap[bo]?=some (.cells #[ui o.c,ui o.n,uw o.sp,ui o.sl,uw o.ap,ui o.al,ub o.pt,.bool o.dn] 116 (0,0))):=⟨H2.out.1.on hb3,by rw[hb3.block _ (gsz H2.out.2.1)];exact H2.out.2.1⟩;have HN:=H2.out.2.2;have HNE:Hid (w.heap.size<=bo/\bt≠bo/\p≠bo/\hb≠bo):=HN;clear HN H2 hb3 y0 y1 y2 y3 y4 y5 y6 y7 hW2 hbo CC;have HS:Hid (doneB o.c o.n K=if cmB o then(mkDone o.c o.n K,true)else(K,false)):=hS;clear hS;generalize cmB o=z at*;cases z
  ·go_wp2_with fail;go_ret;rw[HS.out];exact⟨rfl,bo_same H3.out.1.bo H3.out.1.bel⟩
  ·have y7:ce w3 bo 7 (.bool o.dn):=block_cell H3.out.2 rfl;have f7:w3.frozen? ⟨bo,7,none⟩=false:=block_frozen H3.out.2 7;obtain⟨W4,hW4⟩:=xj (w3.setCell ⟨bo,7,none⟩ (.bool true));have H4:Hid (Tb B p hb m K w bt o.c o.n W4/\W4.heap[bo]?=some (.cells #[ui o.c,ui o.n,uw o.sp,ui o.sl,uw o.ap,ui o.al,ub o.pt,.bool true] 116 (0,0))):=by have hk:=set_kept' w3 bo 7 (.bool true);have hx:=block_set (j:=7) (.bool true) H3.out.2;rw[hW4]at hk hx;refine⟨⟨H3.out.1.bo.kept hk HNE.out.2.2.1 HNE.out.2.2.2,H3.out.1.bel.trans (hk.below H3.out.1.bel.size (fun k e=>by rw[e];exact HNE.out.1)),?_⟩,hx⟩;rw[hk.block bt (gsz H3.out.1.bx) HNE.out.2.1];exact H3.out.1.bx
   obtain⟨wU,j,hrun,hj,hmU,hkU,-⟩:=Gv.run_upd1 (w:=W4.drew) Tryz.underlying135 (H4.out.1.on ((Below.refl _ _).drew)).bo.map ({o with dn:=true}:Vd) HM.out;have HU:Hid (Gv.At kd vdV hb (m.set j {o with dn:=true}) wU/\Kept (fun i=>i=hb) W4.drew wU/\m[j]?=some o):=⟨hmU,hkU,hj⟩;have hru:(Instr.mapUpdate 135 (.map (some hb)) (.agg #[ui o.c,ui o.n]) (.agg #[ui o.c,ui o.n,uw o.sp,ui o.sl,uw o.ap,ui o.al,ub o.pt,.bool true])).run Tryz.prog W4.drew=.ok () wU:=hrun;clear hrun hmU hkU hj H3;have c0:=H4.out.1.bo.cell;obtain⟨x0,x1⟩:=bk2 H4.out.1.bx;have zz0:=bk8 H4.out.2;go_wp2_with fail;go_region;go_wp2_with fail;go_ret;rw[HS.out];exact⟨rfl,bo_turn (W:=W4.drew) (H4.out.1.on ((Below.refl _ _).drew)).bo (H4.out.1.on ((Below.refl _ _).drew)).bel HU.out.2.1 HU.out.1 (HR.out.done HU.out.2.2 rfl)⟩
def tk(k:Int×Int):Int×Int:=k
def uz(_:Int×Int):Value:=.agg #[]
abbrev SetAt(b:Nat)(S:List (Int×Int))(w:World):Prop:=Gv.At tk uz b S w
theorem run_add{b:Nat}{S:List (Int×Int)}{w:World}(h:SetAt b S w)(c n:Int):∃w' S',(Instr.mapUpdate 245 (.map (some b)) (.agg #[ui c,ui n]) (.agg #[])).run Tryz.prog w=.ok () w'/\SetAt b S' w'/\(∀x,x∈S'↔x∈S\/x=(c,n))/\Kept (fun i=>i=b) w w':=by
 cases hg:S.find? (Gv.isK tk (tk (c,n)))with
 |none=>
  obtain⟨w',h1,h2,h3,_⟩:=Gv.run_upd0 Tryz.underlying245 h (c,n) hg;exact⟨w',S++[(c,n)],h1,h2,fun x=>by simp,h3⟩
 |some y=>
  obtain⟨w',j,h1,h2,h3,h4,_⟩:=Gv.run_upd1 Tryz.underlying245 h (c,n) hg;have hy:y=(c,n):=by have:=List.find?_some hg;exact of_decide_eq_true this
  subst hy;rw[Gv.set_same h2]at h3;refine⟨w',S,h1,h3,fun x=>⟨.inl,?_⟩,h4⟩;rintro(e|e)
  ·exact e
  ·rw[e];exact List.mem_of_getElem? h2
theorem run_has{b:Nat}{S:List (Int×Int)}{w:World}(h:SetAt b S w)(c n:Int):(Instr.lookup 245 (.map (some b)) (.agg #[ui c,ui n]) true).run Tryz.prog w=.ok (.tuple #[.agg #[],.bool (decide ((c,n)∈S))]) w:=by
 show(Instr.lookup 245 (.map (some b)) (Gv.kx (c,n)) true).run Tryz.prog w=_;obtain⟨es,cl,h1,h2,_⟩:=h;cases hg:S.find? (Gv.isK tk (c,n))with
 |none=>
  have:(c,n)∉S:=fun hm=>by have:=List.find?_eq_none.1 hg (c,n) hm;simp[Gv.isK,tk]at this
  simp[Instr.lookup,run_underlying Tryz.underlying245,MapKept.run_getObj_map h1,Gv.run_check,Gv.run_findK (c,n) h2,Gv.idx_none (i:=0) hg,Result.andThen,this]
 |some t=>
  obtain⟨j,g1,g2,g3⟩:=Gv.idx_some (i:=0) hg;have:(c,n)∈S:=by have e:t=(c,n):=g3;rw[<-e];exact List.mem_of_getElem? g2
  simp[Instr.lookup,run_underlying Tryz.underlying245,MapKept.run_getObj_map h1,Gv.run_check,Gv.run_findK (c,n) h2,g1,Result.andThen,this];rfl
theorem setOf24(L:List (Int×Int))(v:Value)(w:World)(h:TsAt w.heap.size v L w)(hz:L.length*8<=140737488355328):
  Calls Tryz.prog 149 #[v] w fun e w'=>∃sb S,e=.returned (.map (some sb))/\SetAt sb S w'/\(∀x,x∈S↔x∈L)/\w.heap.size<=sb/\Below w.heap.size w w':=by
 obtain⟨ao,cap,rfl,hla,hma⟩:=h.shape;have HA:Hid (∀W,Below w.heap.size w W->∀i,i<L.length->∃b off,ao=some ⟨b,off,none⟩/\ce W b (off+i*2) (ui (L.getD i dtx).1)/\ce W b (off+i*2+1) (ui (L.getD i dtx).2)):=fun W hW i hi=>TsAt.el (RwAt.on h hW) hi;have hL9:L.length<9223372036854775808:=by omega
 have HT:Hid (∀m,m<L.length->∀x,x∈L.take (m+1)↔x∈L.take m\/x=L.getD m dtx):=fun m hm x=>by rw[List.take_succ_eq_append_getElem hm,List.mem_append,List.mem_singleton,show L.getD m dtx=L[m]from by simp[List.getD,hm]]
 have HE:Hid (∀m,L.length<=m->L.take m=L):=fun m hm=>List.take_of_length_le hm;have hmm:=@run_makeMap Tryz.prog;have H0:Hid (SetAt w.heap.size [] (w.alloc (.map #[] 0))/\Below w.heap.size w (w.alloc (.map #[] 0))):=⟨Gv.At.new w,al _⟩;clear h hla hma hz;obtain⟨sb,hsb⟩:=xj w.heap.size;have HSB:Hid (w.heap.size=sb):=hsb;rw[hsb]at H0;go_enter Tryz.func149,Tryz.ntmps149;go_wp2_with fail;clear hsb hmm;obtain⟨W0,hW0⟩:=xj (w.alloc (.map #[] 0));rw[hW0]at H0|-;clear hW0;go_loopw [9] (fun i wr=>∃m:Nat,m<=L.length/\i=iw m/\∃S,SetAt sb S wr/\(∀x,x∈S↔x∈L.take m)/\Below w.heap.size w wr) (fun i _=>L.length-(intOf i).toNat)
 case atStart=>exact⟨0,Nat.zero_le _,rfl,[],H0.out.1,by simp,by have:=H0.out.2;rwa [<-HSB.out]at this⟩
 case round=>
  obtain⟨m,hm,rfl,S,hS,hx,hbr⟩:=hrel;have HR:Hid (SetAt sb S wr/\(∀x,x∈S↔x∈L.take m)/\Below w.heap.size w wr):=⟨hS,hx,hbr⟩;clear hS hx hbr;by_cases hml:m<L.length
  ·obtain⟨b,off,rfl,e0,e1⟩:=HA.out wr HR.out.2.2 m hml;have hml':(m:Int)<L.length:=by omega
   have HX:Hid (∀x,x∈L.take (m+1)↔x∈L.take m\/x=L.getD m dtx):=HT.out m hml;generalize L.getD m dtx=x at*;obtain⟨p,q⟩:=x;dsimp only at e0 e1;obtain⟨W1,hW1⟩:=xj (wr.alloc (.cells #[ui p,ui q] 26));have H1:Hid (SetAt sb S W1/\Below w.heap.size w W1):=by rw[<-hW1];exact⟨HR.out.1.on (al _),HR.out.2.2.alloc HR.out.2.2.size _⟩
   have hx1:W1.heap[wr.heap.size]?=some (.cells #[ui p,ui q] 26 (0,0)):=by rw[<-hW1];exact heap_alloc_new wr _
   have z0:ce W1 wr.heap.size 0 (ui p):=block_cell hx1 rfl;have z1:ce W1 wr.heap.size 1 (ui q):=block_cell hx1 rfl;obtain⟨w2,S',hru,g1,g2,g3⟩:=run_add H1.out.1 p q;have H2:Hid (SetAt sb S' w2/\(∀x,x∈S'↔x∈S\/x=(p,q))/\Kept (fun i=>i=sb) W1 w2):=⟨g1,g2,g3⟩;clear g1 g2 g3 hx1;go_wp2_with fail;go_roundw
   case rel=>
    refine⟨m+1,by omega,by go_num,S',H2.out.1,fun x=>?_,H1.out.2.trans (H2.out.2.2.below H1.out.2.size (fun k e=>by rw[e,<-HSB.out];exact Nat.le_refl _))⟩;rw[H2.out.2.1 x,HX.out x,HR.out.2.1 x]
   case measure=>simp[intOf];omega
  ·have hml':¬(m:Int)<L.length:=by omega
   have HL:Hid (L.take m=L):=HE.out m (by omega);go_wp2_with fail;go_ret;have hxx:=HR.out.2.1;rw[HL.out]at hxx;exact⟨sb,rfl,S,HR.out.1,fun a b=>hxx (a,b),Nat.le_of_eq HSB.out,HR.out.2.2⟩
structure Cap(sb bk bs:Nat)(S:List (Int×Int))(sp sl:Int)(w:World):Prop where
 set:SetAt sb S w
 bk:w.heap[bk]?=some (.cells #[.map (some sb)] 245 (0,0))
 bs:w.heap[bs]?=some (.cells #[uw sp,ui sl] 28 (0,0))
theorem Cap.kept{sb bk bs:Nat}{S:List (Int×Int)}{sp sl:Int}{w w':World}{F:Nat->Prop}(h:Cap sb bk bs S sp sl w)(hk:Kept F w w')(h1:¬F sb)(h2:¬F bk)(h3:¬F bs):Cap sb bk bs S sp sl w':=
 ⟨h.set.kept hk h1,by rw[hk.block _ (gsz h.bk) h2];exact h.bk,by rw[hk.block _ (gsz h.bs) h3];exact h.bs⟩
theorem Cap.on{sb bk bs:Nat}{S:List (Int×Int)}{sp sl:Int}{w w':World}(h:Cap sb bk bs S sp sl w)(hb:Below w.heap.size w w'):Cap sb bk bs S sp sl w':=h.kept (F:=fun _=>False) (Kept.of_below hb) (fun h=>h) (fun h=>h) (fun h=>h)
def goB(S:List (Int×Int))(sp sl:Int)(x:Vd):Bool:= !decide ((x.c,x.n)∈S)&&ovB x&&lessB x.sp x.sl sp sl
theorem go_stay{S L:List (Int×Int)}(h:∀x,x∈S↔x∈L)(sp sl:Int)(x:Vd):(!goB S sp sl x)=stayB sp sl L x:=by
 have e:decide ((x.c,x.n)∈S)=L.contains (x.c,x.n):=by rw[Bool.eq_iff_iff,decide_eq_true_iff,h,List.contains_iff_mem]
 unfold goB stayB ovB;rw[e];cases L.contains (x.c,x.n)<;>cases x.dn<;>cases cmB x<;>cases lessB x.sp x.sl sp sl<;>rfl
theorem del26{sb bk bs:Nat}{S:List (Int×Int)}{sp sl:Int}{w:World}(x:Vd)(h:Cap sb bk bs S sp sl w):
  Calls Tryz.prog 151 #[.agg #[ui x.c,ui x.n],.agg #[ui x.c,ui x.n,uw x.sp,ui x.sl,uw x.ap,ui x.al,ub x.pt,.bool x.dn],pz bk,pz bs] w fun e w'=>e=.returned (.bool (goB S sp sl x))/\Below w.heap.size w w':=by
 obtain⟨W0,hW0⟩:=xj (w.alloc (.cells #[ui x.c,ui x.n] 26));have hb0:Below w.heap.size w W0:=by rw[<-hW0];exact al _
 have hx0:W0.heap[w.heap.size]?=some (.cells #[ui x.c,ui x.n] 26 (0,0)):=by rw[<-hW0];exact heap_alloc_new w _
 obtain⟨W1,hW1⟩:=xj (W0.alloc (.cells #[ui x.c,ui x.n,uw x.sp,ui x.sl,uw x.ap,ui x.al,ub x.pt,.bool x.dn] 116));have hb1':Below W0.heap.size W0 W1:=by rw[<-hW1];exact al _
 have hb1:Below w.heap.size w W1:=hb0.trans (hb1'.mono hb0.size);have hx1:W1.heap[w.heap.size]?=some (.cells #[ui x.c,ui x.n] 26 (0,0)):=by rw[hb1'.block _ (gsz hx0)];exact hx0
 have hv1:W1.heap[W0.heap.size]?=some (.cells #[ui x.c,ui x.n,uw x.sp,ui x.sl,uw x.ap,ui x.al,ub x.pt,.bool x.dn] 116 (0,0)):=by rw[<-hW1];exact heap_alloc_new W0 _
 obtain⟨W2,hW2⟩:=xj (W1.alloc (.cells #[] 248));have hb2':Below W1.heap.size W1 W2:=by rw[<-hW2];exact al _
 have h1:=h.on hb1;obtain⟨bt,hbt⟩:=xj w.heap.size;obtain⟨bv,hbv⟩:=xj W0.heap.size;have HV:Hid (∀W,Below W2.heap.size W2 W->Cap sb bk bs S sp sl W/\W.heap[bv]?=some (.cells #[ui x.c,ui x.n,uw x.sp,ui x.sl,uw x.ap,ui x.al,ub x.pt,.bool x.dn] 116 (0,0))/\Below w.heap.size w W):=fun W hb=>by have hb':Below W1.heap.size W1 W:=hb2'.trans (hb.mono hb2'.size);exact⟨h1.on hb',by rw[<-hbv,hb'.block _ (gsz hv1)];exact hv1,hb1.trans (hb'.mono hb1.size)⟩
 have H2:Hid (Cap sb bk bs S sp sl W2/\W2.heap[bv]?=some (.cells #[ui x.c,ui x.n,uw x.sp,ui x.sl,uw x.ap,ui x.al,ub x.pt,.bool x.dn] 116 (0,0))/\Below w.heap.size w W2):=HV.out W2 (Below.refl _ _);have q0:=run_has h1.set x.c x.n;rw[hbt]at hx1;have k0:ce W1 bk 0 (.map (some sb)):=block_cell h1.bk rfl;obtain⟨t0,t1⟩:=bk2 hx1;have CO:Hid (∀W,1=1->Calls Tryz.prog 152 #[.agg #[ui x.c,ui x.n,uw x.sp,ui x.sl,uw x.ap,ui x.al,ub x.pt,.bool x.dn]] W fun e w'=>e=.returned (.bool (ovB x))/\Below W.heap.size W w'):=fun W _=>over27 x W;have CL:Hid (∀W,1=1->Calls Tryz.prog 87 #[.agg #[uw x.sp,ui x.sl],.agg #[uw sp,ui sl]] W fun e w'=>e=.returned (.bool (lessB x.sp x.sl sp sl))/\Below W.heap.size W w'):=fun W _=>lessP x.sp x.sl sp sl W;have HG:Hid (goB S sp sl x=(!decide ((x.c,x.n)∈S)&&ovB x&&lessB x.sp x.sl sp sl)):=rfl;clear h h1 hb0 hb1 hb1' hb2' hx0 hx1 hv1;generalize goB S sp sl x=y at*;generalize decide ((x.c,x.n)∈S)=z at*;generalize ovB x=o at*;generalize lessB x.sp x.sl sp sl=r at*;obtain⟨v0,v1,v2,v3,v4,v5,v6,v7⟩:=bk8 H2.out.2.1;cases z
 ·go_enter Tryz.func151,Tryz.ntmps151;go_wp2_with fail;refine(CO.out _ (by simp)).mono ?_;rintro e w3 ⟨rfl,hb3⟩;have H3:Hid (Cap sb bk bs S sp sl w3/\w3.heap[bv]?=some (.cells #[ui x.c,ui x.n,uw x.sp,ui x.sl,uw x.ap,ui x.al,ub x.pt,.bool x.dn] 116 (0,0))/\Below w.heap.size w w3):=HV.out w3 hb3;clear q0 k0 t0 t1 v0 v1 v2 v3 v4 v5 v6 v7 hW0 hW1 hW2 hbt hbv hb3 HV CO H2;cases o
  ·go_wp2_with fail;go_ret;exact⟨by rw[HG.out];rfl,H3.out.2.2⟩
  ·have v2:ce w3 bv 2 (uw x.sp):=block_cell H3.out.2.1 rfl;have v3:ce w3 bv 3 (ui x.sl):=block_cell H3.out.2.1 rfl;obtain⟨s0,s1⟩:=bk2 H3.out.1.bs;go_wp2_with fail;refine(CL.out _ (by simp)).mono ?_;rintro e w4 ⟨rfl,hb4⟩;have HB4:Hid (Below w.heap.size w w4):=H3.out.2.2.trans (hb4.mono H3.out.2.2.size);clear hb4 v2 v3 s0 s1;cases r
   ·go_wp2_with fail;go_ret;exact⟨by rw[HG.out];rfl,HB4.out⟩
   ·go_wp2_with fail;go_ret;exact⟨by rw[HG.out];rfl,HB4.out⟩
 ·go_enter Tryz.func151,Tryz.ntmps151;go_wp2_with fail;go_ret;exact⟨by rw[HG.out];rfl,by have:=H2.out.2.2;rwa [hbt]at this⟩
structure Dw(g:Vd->Bool)(m0 m acc left:Bk):Prop where
 now:m.Perm (acc++left)
 all:(acc++left.filter fun x=> !g x).Perm (m0.filter fun x=> !g x)
theorem Dw.start(g:Vd->Bool)(m:Bk):Dw g m m [] m:=⟨by simp,by simp⟩
theorem Dw.stay{g:Vd->Bool}{m0 m acc L1 L2:Bk}{x:Vd}(h:Dw g m0 m acc (L1++x::L2))(hx:g x=false):Dw g m0 m (acc++[x]) (L1++L2):=by
 have p:(L1++x::L2).Perm (x::(L1++L2)):=List.perm_middle;refine⟨h.now.trans ?_,List.Perm.trans ?_ h.all⟩
 ·rw[List.append_assoc];exact List.Perm.append_left acc p
 ·have q:=(p.filter fun x=> !g x);rw[List.filter_cons,if_pos (by simp[hx])]at q;rw[List.append_assoc];exact List.Perm.append_left acc q.symm
theorem Dw.cut{g:Vd->Bool}{m0 m1 m2 acc L1 L2:Bk}{x:Vd}(h:Dw g m0 (m1++x::m2) acc (L1++x::L2))(hx:g x=true):Dw g m0 (m1++m2) acc (L1++L2):=by
 have p:(L1++x::L2).Perm (x::(L1++L2)):=List.perm_middle;have pm:(m1++x::m2).Perm (x::(m1++m2)):=List.perm_middle;refine⟨?_,List.Perm.trans ?_ h.all⟩
 ·have q:(x::(m1++m2)).Perm (x::(acc++(L1++L2))):=pm.symm.trans (h.now.trans ((List.Perm.append_left acc p).trans List.perm_middle));exact q.cons_inv
 ·have q:=(p.filter fun x=> !g x);rw[List.filter_cons,if_neg (by simp[hx])]at q;exact List.Perm.append_left acc q.symm
theorem Dw.end{g:Vd->Bool}{m0 m acc:Bk}(h:Dw g m0 m acc []):m.Perm (m0.filter fun x=> !g x):=by have h1:=h.now;have h2:=h.all;simp only[List.append_nil,List.filter_nil]at h1 h2;exact h1.trans h2
theorem kd_perm{m m':Bk}(h:Kd m)(hp:m'.Perm m):Kd m':=(hp.pairwise_iff (fun{_ _} hne=>Ne.symm hne)).2 h
theorem Dw.other{g:Vd->Bool}{m0 m acc L1 L2:Bk}{x:Vd}(h:Dw g m0 m acc (L1++x::L2))(hk:Kd m):m.find? (Gv.isK kd (kd x))=some x/\∀y∈L1++L2,kd y≠kd x:=by refine⟨(kd_find hk).2 ⟨h.now.mem_iff.2 (by simp),rfl⟩,fun y hy=>?_⟩;have q:(acc++(L1++x::L2)).Perm (x::(acc++(L1++L2))):=(List.Perm.append_left acc List.perm_middle).trans List.perm_middle;have:=kd_perm hk (q.symm.trans h.now.symm);exact fun e=>(List.pairwise_cons.1 this).1 y (List.mem_append_right _ hy) e.symm
theorem Dw.sub{g:Vd->Bool}{m0 m1 m2 acc L:Bk}{x:Vd}(_:Dw g m0 (m1++m2) acc L)(hk:Kd (m1++x::m2)):Kd (m1++m2):=by have:(x::(m1++m2)).Perm (m1++x::m2):=List.perm_middle.symm;exact(List.pairwise_cons.1 (kd_perm hk this)).2
structure Dx(hb r:Nat)(sb bk bs:Nat)(S:List (Int×Int))(sp sl:Int)(m0:Bk)(w:World)(m acc left:Bk)(W:World):Prop where
 rg:Gv.Rg kd vdV hb r m left W
 cap:Cap sb bk bs S sp sl W
 kept:Kept (fun i=>i=hb) w W
 dw:Dw (goB S sp sl) m0 m acc left
 kd:Kd m
 lo:w.heap.size<=r
 ne:hb≠sb/\hb≠bk/\hb≠bs
 old:sb<w.heap.size/\bk<w.heap.size/\bs<w.heap.size
theorem df25{hb sb bk bs:Nat}{S:List (Int×Int)}{sp sl:Int}{m:Bk}{w:World}(hm:Gv.At kd vdV hb m w)(hk:Kd m)(hc:Cap sb bk bs S sp sl w)(hne:hb≠sb/\hb≠bk/\hb≠bs):
  Calls Tryz.prog 150 #[.map (some hb),.func (.func 151) #[] #[pz bk,pz bs]] w fun e w'=>e=.returned (.tuple #[])/\∃m',Hid (m'.Perm (m.filter fun x=> !goB S sp sl x))/\Gv.At kd vdV hb m' w'/\Kept (fun i=>i=hb) w w':=by
 obtain⟨w0,hrun,hr0,hg0,hs0⟩:=Gv.run_range Tryz.underlying135 hm;have hb0:Below w.heap.size w w0:=⟨hg0.os,hg0.tape,hg0.output,hg0.size,fun k hk'=>hg0.block k hk' (by simp)⟩;have H0:Hid (Dx hb w.heap.size sb bk bs S sp sl m w m [] m w0):=⟨hr0,hc.on hb0,Kept.of_below hb0,Dw.start _ _,hk,Nat.le_refl _,hne,hc.set.lt,(gsz hc.bk),(gsz hc.bs)⟩;clear hr0 hg0 hs0 hb0 hm hk hc hne;obtain⟨r,hr⟩:=xj w.heap.size;rw[hr]at H0 hrun;go_enter Tryz.func150,Tryz.ntmps150;go_wp2_with fail;clear hrun hr;go_loopw [8] (fun _ wr=>∃mm acc left,Dx hb r sb bk bs S sp sl m w mm acc left wr) (fun _ wr=>wr.rangeLeft hb r)
 case atStart=>exact⟨m,[],m,H0.out⟩
 case round=>
  obtain⟨mm,acc,left,hx⟩:=hrel;have HX:Hid (Dx hb r sb bk bs S sp sl m w mm acc left wr):=hx;have HML:Hid (wr.rangeLeft hb r=left.length):=hx.rg.left_eq;rcases hx.rg.next 0 with⟨rfl,hn⟩|⟨L1,x,L2,w1,rfl,hn,hr1,hg1,hs1,hen⟩
  ·have hnx:∀ty,(Instr.next (pz r) false ty).run Tryz.prog wr=.ok (.tuple #[.bool false]) wr:=fun _=>hn;clear hx hn;go_wp2_with fail;go_end0
   exact⟨rfl,mm,HX.out.dw.end,HX.out.rg.at,HX.out.kept⟩
  ·have hnx:∀ty,(Instr.next (pz r) false ty).run Tryz.prog wr=.ok (.tuple #[.bool true,.agg #[ui x.c,ui x.n],.agg #[ui x.c,ui x.n,uw x.sp,ui x.sl,uw x.ap,ui x.al,ub x.pt,.bool x.dn]]) w1:=fun _=>hn;have hent:(Instr.entry (pz r)).run Tryz.prog w1=.ok (.tuple #[.agg #[ui x.c,ui x.n],.agg #[ui x.c,ui x.n,uw x.sp,ui x.sl,uw x.ap,ui x.al,ub x.pt,.bool x.dn]]) w1:=hen;have H1:Hid (Gv.Rg kd vdV hb r mm (L1++L2) w1/\Cap sb bk bs S sp sl w1/\Kept (fun i=>i=hb) w w1):=by have hk1:=grown_kept hg1;have o:=HX.out.old;have lo:=HX.out.lo;refine⟨hr1,HX.out.cap.kept hk1 (fun e=>by cases e;omega) (fun e=>by cases e;omega) (fun e=>by cases e;omega),HX.out.kept.trans hk1 (fun i e=>by cases e;exact .inr lo)⟩
   obtain⟨W2,hW2⟩:=xj ((w1.alloc (.cells #[ui x.c,ui x.n] 26)).alloc (.cells #[ui x.c,ui x.n,uw x.sp,ui x.sl,uw x.ap,ui x.al,ub x.pt,.bool x.dn] 116));have hb2:Below w1.heap.size w1 W2:=by rw[<-hW2];exact(al _).alloc (by simp) _
   have hx2:W2.heap[w1.heap.size]?=some (.cells #[ui x.c,ui x.n] 26 (0,0)):=by rw[<-hW2,(al (W:=w1.alloc (.cells #[ui x.c,ui x.n] 26)) _).block _ (by simp)];exact heap_alloc_new w1 _
   rw[hs1]at hx2;have H2:Hid (Gv.Rg kd vdV hb r mm (L1++L2) W2/\Cap sb bk bs S sp sl W2/\Kept (fun i=>i=hb) w W2/\W2.heap[wr.heap.size]?=some (.cells #[ui x.c,ui x.n] 26 (0,0))):=⟨H1.out.1.on hb2,H1.out.2.1.on hb2,H1.out.2.2.trans (Kept.of_below (F:=fun i=>i=hb) hb2) (fun _ e=>.inl e),hx2⟩;have CD:Hid (1=1->Calls Tryz.prog 151 #[.agg #[ui x.c,ui x.n],.agg #[ui x.c,ui x.n,uw x.sp,ui x.sl,uw x.ap,ui x.al,ub x.pt,.bool x.dn],pz bk,pz bs] W2 fun e w'=>e=.returned (.bool (goB S sp sl x))/\Hid (Gv.Rg kd vdV hb r mm (L1++L2) w'/\Kept (fun i=>i=hb) w w'/\w'.heap[wr.heap.size]?=some (.cells #[ui x.c,ui x.n] 26 (0,0))/\Cap sb bk bs S sp sl w')):=fun _=>(del26 x H2.out.2.1).mono (by rintro e w' ⟨rfl,hb'⟩;exact⟨rfl,H2.out.1.on hb',H2.out.2.2.1.trans (Kept.of_below (F:=fun i=>i=hb) hb') (fun _ e=>.inl e),by rw[hb'.block _ (gsz H2.out.2.2.2)];exact H2.out.2.2.2,H2.out.2.1.on hb'⟩)
   have HG:Hid (∀b,goB S sp sl x=b->b=true\/b=false):=fun b _=>by cases b<;>simp
   clear hx hn hen hr1 hg1 hb2 hx2 H1 H2 HG;have HS:Hid (goB S sp sl x=false->Dw (goB S sp sl) m mm (acc++[x]) (L1++L2)):=HX.out.dw.stay;have HC:Hid (goB S sp sl x=true->∀m1 m2,mm=m1++x::m2->Dw (goB S sp sl) m (m1++m2) acc (L1++L2)):=fun e m1 m2 e2=>by have:=HX.out.dw;rw[e2]at this;exact this.cut e
   have HO:Hid (mm.find? (Gv.isK kd (kd x))=some x/\∀y∈L1++L2,kd y≠kd x):=HX.out.dw.other HX.out.kd;have hlen:(L1++L2).length<(L1++x::L2).length:=by simp
   have HLen:Hid _:=hlen;have HW2:Hid _:=hW2;clear hW2 hlen;go_wp2_with fail;rw[HW2.out];refine(CD.out (by simp)).mono ?_;rintro e w3 ⟨rfl,H3⟩;clear hnx hent HW2 hs1 CD;generalize hz:goB S sp sl x=z at*;have HZ:Hid (goB S sp sl x=z):=hz;clear hz;cases z
   ·go_wp2_with fail;go_roundw
    case rel=>exact⟨mm,acc++[x],L1++L2,H3.out.1,H3.out.2.2.2,H3.out.2.1,HS.out (by simp),HX.out.kd,HX.out.lo,HX.out.ne,HX.out.old⟩
    case measure=>rw[H3.out.1.left_eq,HML.out];exact HLen.out
   ·have t0:ce w3 wr.heap.size 0 (ui x.c):=block_cell H3.out.2.2.1 rfl;have t1:ce w3 wr.heap.size 1 (ui x.n):=block_cell H3.out.2.2.1 rfl;obtain⟨w4,m1,m2,hdel,hmm,hr4,hk4,-⟩:=H3.out.1.del Tryz.underlying135 (kd x) HO.out.1 HO.out.2;have hde:∀ty:TypeId,(Builtin.delete_ #[135,26] ty #[.map (some hb),.agg #[ui x.c,ui x.n]]).run Tryz.prog w3=.ok (.tuple #[]) w4:=hdel;have H4:Hid (Dx hb r sb bk bs S sp sl m w (m1++m2) acc (L1++L2) w4):=by have o:=HX.out.ne;have hd:=HC.out (by simp) m1 m2 hmm;have hkd:=HX.out.kd;rw[hmm]at hkd;exact⟨hr4,H3.out.2.2.2.kept hk4 (fun e=>o.1 e.symm) (fun e=>o.2.1 e.symm) (fun e=>o.2.2 e.symm),H3.out.2.1.trans hk4 (fun _ e=>.inl e),hd,hd.sub hkd,HX.out.lo,HX.out.ne,HX.out.old⟩
    clear hdel hmm hr4 hk4;go_wp2_with fail;go_roundw
    case rel=>exact⟨m1++m2,acc,L1++L2,H4.out⟩
    case measure=>rw[H4.out.rg.left_eq,HML.out];exact HLen.out
theorem ret_filter{S L:List (Int×Int)}(h:∀x,x∈S↔x∈L)(sp sl:Int)(K:Bk):K.filter (fun x=> !goB S sp sl x)=retB sp sl L K:=by unfold retB;exact List.filter_congr (fun x _=>go_stay h sp sl x)
theorem retire13{B p hb:Nat}{m K:Bk}{w:World}(sp sl:Int)(L:List (Int×Int))(v:Value)(h:Bo B p hb m K w)(hl:K.length<10000)(hz:L.length*8<=140737488355328)(hv:TsAt w.heap.size v L w):
  Calls Tryz.prog 75 #[pz p,.agg #[uw sp,ui sl],v] w fun e w'=>e=.returned (iw ((K.length-(retB sp sl L K).length:Nat):Int))/\∃M',BoAt B p M' (retB sp sl L K) w'/\Kept (fun k=>k=p\/k=hb) w w'/\∀i,M' i->(i=p\/i=hb)\/w.heap.size<=i:=by
 obtain⟨W0,hW0⟩:=xj (w.alloc (.cells #[uw sp,ui sl] 28));have hb0:Below w.heap.size w W0:=by rw[<-hW0];exact al _
 have hx0:W0.heap[w.heap.size]?=some (.cells #[uw sp,ui sl] 28 (0,0)):=by rw[<-hW0];exact heap_alloc_new w _
 have hp:=(gsz h.box);have hhb:=h.map.lt;obtain⟨bs,hbs⟩:=xj w.heap.size;rw[hbs]at hx0;have HN:Hid (hb≠bs/\w.heap.size<=bs):=⟨by omega,by omega⟩;have CS:Hid (1=1->Calls Tryz.prog 149 #[v] W0 fun e w'=>∃sb,e=.returned (.map (some sb))/\Hid (∃S,SetAt sb S w'/\(∀x,x∈S↔x∈L)/\hb≠sb/\Bo B p hb m K w'/\Below w.heap.size w w'/\w'.heap[bs]?=some (.cells #[uw sp,ui sl] 28 (0,0)))):=fun _=>by have hv0:TsAt W0.heap.size v L W0:=RwAt.le (RwAt.on hv hb0) hb0.size;refine(setOf24 L v W0 hv0 hz).mono ?_;rintro e w' ⟨sb,S,rfl,h1,h2,h3,h4⟩;have:=hb0.size;exact⟨sb,rfl,S,h1,h2,by omega,(h.on hb0).on h4,hb0.trans (h4.mono hb0.size),by rw[h4.block _ (gsz hx0)];exact hx0⟩
 have HR:Hid (Rl m K/\K.length<10000):=⟨h.rel,hl⟩;clear h hb0 hx0 hv hz hp hhb hl;go_enter Tryz.func75,Tryz.ntmps75;go_wp2_with fail;refine(CS.out (by simp)).mono ?_;rintro e w1 ⟨sb,rfl,H1⟩;clear CS hW0 hbs;obtain⟨S,h1,h2,h3,h4,h5,h6⟩:=H1.out;have HSL:Hid (∀x,x∈S↔x∈L):=h2;clear H1;obtain⟨W2,hW2⟩:=xj (w1.alloc (.cells #[.map (some sb)] 245));have hb2:Below w1.heap.size w1 W2:=by rw[<-hW2];exact al _
 have hk2:W2.heap[w1.heap.size]?=some (.cells #[.map (some sb)] 245 (0,0)):=by rw[<-hW2];exact heap_alloc_new w1 _
 have hhb:hb≠w1.heap.size:=Nat.ne_of_lt h4.map.lt;obtain⟨bk,hbk⟩:=xj w1.heap.size;rw[hbk]at hk2 hhb;have H2:Hid (Bo B p hb m K W2/\Below w.heap.size w W2/\Cap sb bk bs S sp sl W2/\hb≠sb/\hb≠bk/\hb≠bs):=⟨h4.on hb2,h5.trans (hb2.mono h5.size),⟨h1.on hb2,hk2,by rw[hb2.block _ (gsz h6)];exact h6⟩,h3,hhb,HN.out.1⟩;clear h1 h2 h3 h4 h5 h6 hb2 hk2 hhb;have c0:=H2.out.1.cell;have l0:=H2.out.1.map.size 135 116 Tryz.underlying135;have hln:m.length=K.length:=HR.out.1.len;have hlt:(K.length:Int)<10000:=by have:=HR.out.2;omega
 rw[hln]at l0;have CD:Hid (1=1->Calls Tryz.prog 150 #[.map (some hb),.func (.func 151) #[] #[pz bk,pz bs]] W2 fun e w'=>e=.returned (.tuple #[])/\Hid (∃m',Gv.At kd vdV hb m' w'/\Rl m' (retB sp sl L K)/\Kept (fun i=>i=hb) W2 w')):=fun _=>by refine(df25 H2.out.1.map HR.out.1.apart H2.out.2.2.1 H2.out.2.2.2).mono ?_;rintro e w' ⟨rfl,m',hp,hm,hk⟩;have:=HR.out.1.filt _ hp.out;rw[ret_filter HSL.out]at this;exact⟨rfl,m',hm,this,hk⟩
 clear hln;have HLE:Hid ((retB sp sl L K).length<=K.length):=ret_len sp sl L K;obtain⟨K',hK'⟩:=xj (retB sp sl L K);rw[hK']at CD HLE;have HK':Hid _:=hK';clear hK';go_wp2_with fail;refine(CD.out (by simp)).mono ?_;rintro e w3 ⟨rfl,H3⟩;clear CD c0 l0 hW2 hbk;obtain⟨m',h1,h2,h3⟩:=H3.out;have H4:Hid (Gv.At kd vdV hb m' w3/\Rl m' K'/\Kept (fun i=>i=hb) W2 w3):=⟨h1,h2,h3⟩;have c0:ce w3 p 0 (.map (some hb)):=h3.cell H2.out.1.cell H2.out.1.ne;have l0:=h1.size 135 116 Tryz.underlying135;rw[h2.len]at l0;clear h1 h2 h3 H3;have hle:(K'.length:Int)<=K.length:=by have:=HLE.out;omega
 go_wp2_with fail;go_ret;have hsub:((K.length-K'.length:Nat):Int)=(K.length:Int)-K'.length:=by have:=HLE.out;omega
 rw[HK'.out,hsub];exact⟨rfl,bo_turn H2.out.1 H2.out.2.1 H4.out.2.2 H4.out.1 H4.out.2.1⟩
open Go.RowKit Go.Shelf
theorem vals39(F:Fence)(n:Nat)(h39:F.fn 109)(hro:F.round=none)(hn:1<=n)(l Bm b:Nat)(m:Bk)(J Jx:Bk->World->Prop)
  (hY:∀pre x W,J pre W->pre.length<m.length->YieldAt F (n-1) Tryz.prog l #[vdV x] W fun e W'=>(e=.returned (.bool true)/\J (pre++[x]) W'/\KeepsWalks W W')\/(e=.returned (.bool false)/\Jx (pre++[x]) W'))
  (W:World) (hJ:AbidesFrom W.heap.size J) (hm:ce W Bm 0 (.map (some b))) (hown:Gv.At kd vdV b m W) (h0:J [] W):
  CallsIn F n Tryz.prog 109 #[.func (.yield l) #[] #[],pz Bm] W fun e W'=>(∃v,e=.returned v)/\((∃xs,xs.Perm m/\J xs W')\/(∃pre,True/\Jx pre W')):=by
 obtain⟨w0,hrun,hr0,hg0,hs0⟩:=Gv.run_range Tryz.underlying135 hown;have H0:Hid (Gv.Rg kd vdV b W.heap.size m m w0/\J [] w0):=⟨hr0,hJ [] W w0 none h0 hg0 (fun r e=>by cases e)⟩;clear hr0 hg0 hs0 hown h0;refine callsIn_of_wp Tryz.func109 rfl h39 ?_ hro;simp only[Tryz.ntmps109,List.size_toArray,List.length_cons,List.length_nil,Nat.reduceAdd,Nat.reduceSub,Array.replicate_succ,Array.replicate_zero,List.push_toArray,List.append_toArray,List.nil_append,List.cons_append]
 gi_wp2
 gi_loopw [7] (fun _ wr=>∃pre left:Bk,Gv.Rg kd vdV b W.heap.size m left wr/\(pre++left).Perm m/\J pre wr) (fun _ wr=>wr.rangeLeft b W.heap.size)
 case atStart=>exact⟨[],m,H0.out.1,by simp,H0.out.2⟩
 case round=>
  obtain⟨pre,left,hrg,hpm,hJs⟩:=hrel;have HX:Hid (Gv.Rg kd vdV b W.heap.size m left wr/\(pre++left).Perm m/\J pre wr):=⟨hrg,hpm,hJs⟩;rcases hrg.next 0 with⟨rfl,hn'⟩|⟨L1,x,L2,w1,rfl,hn',hr1,hg1,hs1,hen⟩
  ·have hnx:∀ty,(Instr.next (pz W.heap.size) false ty).run Tryz.prog wr=.ok (.tuple #[.bool false]) wr:=fun _=>hn';clear hrg hpm hJs hn'
   gi_wp2
   go_end0
   exact⟨⟨_,rfl⟩,.inl ⟨pre,by have:=HX.out.2.1;simpa using this,HX.out.2.2⟩⟩
  ·have hnx:∀ty,(Instr.next (pz W.heap.size) false ty).run Tryz.prog wr=.ok (.tuple #[.bool true,.agg #[ui x.c,ui x.n],.agg #[ui x.c,ui x.n,uw x.sp,ui x.sl,uw x.ap,ui x.al,ub x.pt,.bool x.dn]]) w1:=fun _=>hn';have hent:(Instr.entry (pz W.heap.size)).run Tryz.prog w1=.ok (.tuple #[.agg #[ui x.c,ui x.n],.agg #[ui x.c,ui x.n,uw x.sp,ui x.sl,uw x.ap,ui x.al,ub x.pt,.bool x.dn]]) w1:=hen;have hJ1:J pre w1:=hJ pre wr w1 (some W.heap.size) hJs hg1 (fun r e=>by cases e;exact⟨Nat.le_refl _,hrg.walk⟩);have hJ2:J pre (w1.alloc (.cells #[ui x.c,ui x.n,uw x.sp,ui x.sl,uw x.ap,ui x.al,ub x.pt,.bool x.dn] 116)):=hJ pre w1 _ none hJ1 (World.grownBy_alloc w1 _ none) (fun r e=>by cases e);have hlen:pre.length<m.length:=by have:=hpm.length_eq;simp only[List.length_append,List.length_cons]at this;omega
   have HR2:Hid (Gv.Rg kd vdV b W.heap.size m (L1++L2) (w1.alloc (.cells #[ui x.c,ui x.n,uw x.sp,ui x.sl,uw x.ap,ui x.al,ub x.pt,.bool x.dn] 116))):=hr1.on (al _);have HP:Hid ((pre++[x]++(L1++L2)).Perm m/\(L1++L2).length<(L1++x::L2).length):=by refine⟨List.Perm.trans ?_ hpm,by simp⟩;rw[List.append_assoc,List.singleton_append];exact List.Perm.append_left pre List.perm_middle.symm
   obtain⟨fn,tmps,assign,body,hy,hR⟩:=hY pre x _ hJ2 hlen;dsimp only[vdV]at hy;clear hrg hpm hJs hn' hen hr1 hg1 hs1 hJ1 hJ2 hlen
   gi_wp2
   refine hR.mono ?_;rintro e W3 (⟨rfl,hJ3,hk3⟩|⟨rfl,hJx3⟩)
   ·have H3:Hid (Gv.Rg kd vdV b W.heap.size m (L1++L2) W3):=HR2.out.walks hk3
    gi_wp2
    go_roundw
    case rel=>exact⟨pre++[x],L1++L2,H3.out,HP.out.1,hJ3⟩
    case measure=>rw[H3.out.left_eq,HX.out.1.left_eq];exact HP.out.2
   ·gi_wp2
    refine bodyPost_ret (results_none rfl _ _ _) rfl ?_;exact⟨⟨_,rfl⟩,.inr ⟨pre++[x],trivial,hJx3⟩⟩
theorem vals_stops(F:Fence)(n:Nat)(h39:F.fn 109)(hro:F.round=none)(hn:1<=n)(Bm b:Nat)(m:Bk)(w:World)(hBm:Bm<w.heap.size)(hm:ce w Bm 0 (.map (some b)))(hown:Gv.At kd vdV b m w):
  SeqStopsK F n Tryz.prog 109 #[pz Bm] (fun x:Vd=>#[vdV x]) KeepsWalks (fun xs=>xs.Perm m) (fun _=>True) m.length w:=fun l J Jx W hW hJ _ hY h0=>
 vals39 F n h39 hro hn l Bm b m J Jx hY W hJ ((hW.cell (p:=⟨Bm,0,none⟩) hBm).trans hm) (hown.on hW) h0
theorem values32(F:Fence)(n:Nat)(h32:F.fn 53)(hro:F.round=none)(mb:Option Nat)(w:World):
  CallsIn F n Tryz.prog 53 #[.map mb] w fun e w'=>e=.returned (.func (.func 109) #[] #[pz w.heap.size])/\w'=w.alloc (.cells #[.map mb] 135):=by
 refine callsIn_of_wp Tryz.func53 rfl h32 ?_ hro;simp only[Tryz.ntmps53,List.size_toArray,List.length_cons,List.length_nil,Nat.reduceAdd,Nat.reduceSub,Array.replicate_succ,Array.replicate_zero,List.push_toArray,List.append_toArray,List.nil_append,List.cons_append]
 gi_wp2
 go_ret;exact⟨rfl,rfl⟩
end Go.Proofs.YtdplfgcoaddbdaaGreat.Ver
