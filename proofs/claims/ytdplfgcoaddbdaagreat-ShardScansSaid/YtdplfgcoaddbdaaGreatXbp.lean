import Derived.Test.YtdplfgcoaddbdaaGreatXbo
set_option maxHeartbeats 4000000
set_option maxRecDepth 100000
set_option linter.unusedVariables false
set_option linter.unusedSimpArgs false
namespace Go.Proofs.YtdplfgcoaddbdaaGreat.Lat
open Go.RowKit
theorem max_two{a b mp ml:Int}(h:0<=a/\0<=b):maxL [(a,b),(mp,ml)]=if ltT a b mp ml then(mp,ml)else(a,b):=by
 have e1:maxF 0 0 a b=(a,b):=by
  unfold maxF lessB;split
  ·rfl
  ·rename_i hn;simp only[decide_eq_true_eq,not_or,not_and]at hn;have ha:a=0:=by omega
   have hb:b=0:=by have:=hn.2 ha.symm;omega
   rw[ha,hb]
 simp only[maxL,List.foldl_cons,List.foldl_nil,e1];rw[lt_less];rfl
structure Rz(B p pm hb:Nat)(t:Tr)(m:Mm)(w:World)(b4 b5:Nat)(c n mp ml:Int)(W:World):Prop where
 tx:Tx B p pm hb t m W
 bel:Below w.heap.size w W
 k4:W.heap[b4]?=some (.cells #[ui c,ui n] 26 (0,0))
 k5:W.heap[b5]?=some (.cells #[uw mp,ui ml] 28 (0,0))
theorem Rz.on{B p pm hb:Nat}{t:Tr}{m:Mm}{w W W':World}{b4 b5:Nat}{c n mp ml:Int}(h:Rz B p pm hb t m w b4 b5 c n mp ml W)(hb':Below W.heap.size W W'):Rz B p pm hb t m w b4 b5 c n mp ml W':=
 ⟨h.tx.on hb',h.bel.trans (hb'.mono h.bel.size),by rw[hb'.block _ (gsz h.k4)];exact h.k4,by rw[hb'.block _ (gsz h.k5)];exact h.k5⟩
theorem Rz.own{B p pm hb:Nat}{t:Tr}{m:Mm}{w W W':World}{b4 b5 bt:Nat}{c n mp ml:Int}(h:Rz B p pm hb t m w b4 b5 c n mp ml W)(hk:Kept (fun i=>i=bt) W W')(hf:∀i,footT p pm hb t m i->i≠bt)(h4:b4≠bt)(h5:b5≠bt)(hw:w.heap.size<=bt):Rz B p pm hb t m w b4 b5 c n mp ml W':=
 ⟨h.tx.kept hk hf,h.bel.trans (hk.below h.bel.size (fun k e=>by rw[e];exact hw)),by rw[hk.block _ (gsz h.k4) h4];exact h.k4,by rw[hk.block _ (gsz h.k5) h5];exact h.k5⟩
structure Rt(B p pm hb:Nat)(t:Tr)(m:Mm)(w:World)(b4 b5 bt:Nat)(c n mp ml:Int)(tm:Tm)(W:World):Prop where
 rz:Rz B p pm hb t m w b4 b5 c n mp ml W
 bx:W.heap[bt]?=some (.cells #[uw tm.sp,ui tm.sl,uw tm.mp,ui tm.ml,sd tm.prim,.slice tm.sv.1 tm.sv.2.1 tm.sv.2.2] 242 (0,0))
 far:(∀i,footT p pm hb t m i->i≠bt)/\b4≠bt/\b5≠bt/\w.heap.size<=bt
theorem Rt.on{B p pm hb:Nat}{t:Tr}{m:Mm}{w W W':World}{b4 b5 bt:Nat}{c n mp ml:Int}{tm:Tm}(h:Rt B p pm hb t m w b4 b5 bt c n mp ml tm W)(hb':Below W.heap.size W W'):Rt B p pm hb t m w b4 b5 bt c n mp ml tm W':=
 ⟨h.rz.on hb',by rw[hb'.block _ (gsz h.bx)];exact h.bx,h.far⟩
theorem rt_new{B p pm hb:Nat}{t:Tr}{m:Mm}{w W2 W3:World}{b4 b5:Nat}{c n mp ml:Int}(tm:Tm)(h:Rz B p pm hb t m w b4 b5 c n mp ml W2)(hz:W2.alloc (.cells #[uw 0,ui 0,uw 0,ui 0,su,sy] 242)=W3):Rt B p pm hb t m w b4 b5 W2.heap.size c n mp ml tm ((((((W3.setCell ⟨W2.heap.size,0,none⟩ (uw tm.sp)).setCell ⟨W2.heap.size,1,none⟩ (ui tm.sl)).setCell ⟨W2.heap.size,2,none⟩ (uw tm.mp)).setCell ⟨W2.heap.size,3,none⟩ (ui tm.ml)).setCell ⟨W2.heap.size,4,none⟩ (sd tm.prim)).setCell ⟨W2.heap.size,5,none⟩ (.slice tm.sv.1 tm.sv.2.1 tm.sv.2.2)).drew:=by
 have h3:Rz B p pm hb t m w b4 b5 c n mp ml W3:=by rw[<-hz];exact h.on (al _)
 have hx:W3.heap[W2.heap.size]?=some (.cells #[uw 0,ui 0,uw 0,ui 0,su,sy] 242 (0,0)):=by rw[<-hz];exact heap_alloc_new W2 _
 have hk:=six_kept W3 W2.heap.size tm;have e:=bx6 tm hx;have n4:=(gsz h.k4);have n5:=(gsz h.k5);have hfar:(∀i,footT p pm hb t m i->i≠W2.heap.size)/\b4≠W2.heap.size/\b5≠W2.heap.size/\w.heap.size<=W2.heap.size:=⟨fun i hi e=>by have:=(h.tx.lt hi).2;omega,by omega,by omega,h.bel.size⟩;have r:=h3.own hk hfar.1 hfar.2.1 hfar.2.2.1 hfar.2.2.2;generalize ((((((W3.setCell ⟨W2.heap.size,0,none⟩ (uw tm.sp)).setCell ⟨W2.heap.size,1,none⟩ (ui tm.sl)).setCell ⟨W2.heap.size,2,none⟩ (uw tm.mp)).setCell ⟨W2.heap.size,3,none⟩ (ui tm.ml)).setCell ⟨W2.heap.size,4,none⟩ (sd tm.prim)).setCell ⟨W2.heap.size,5,none⟩ (.slice tm.sv.1 tm.sv.2.1 tm.sv.2.2))=X at*;exact⟨r.on (Below.refl _ _).drew,e,hfar⟩
theorem Rt.put{B p pm hb:Nat}{t:Tr}{m:Mm}{w W:World}{b4 b5 bt:Nat}{c n mp ml:Int}{tm:Tm}(h:Rt B p pm hb t m w b4 b5 bt c n mp ml tm W)(a1 a2:Int):Rt B p pm hb t m w b4 b5 bt c n mp ml {tm with mp:=a1,ml:=a2} ((W.setCell ⟨bt,2,none⟩ (uw a1)).setCell ⟨bt,3,none⟩ (ui a2)):=by have k1:=set_kept' W bt 2 (uw a1);have k2:=set_kept' (W.setCell ⟨bt,2,none⟩ (uw a1)) bt 3 (ui a2);have kk:=k1.trans k2 (fun i e=>.inl e);have e1:(W.setCell ⟨bt,2,none⟩ (uw a1)).heap[bt]?=some (.cells #[uw tm.sp,ui tm.sl,uw a1,ui tm.ml,sd tm.prim,.slice tm.sv.1 tm.sv.2.1 tm.sv.2.2] 242 (0,0)):=block_set _ h.bx;exact⟨h.rz.own kk h.far.1 h.far.2.1 h.far.2.2.1 h.far.2.2.2,block_set _ e1,h.far⟩
theorem rt_upd{B p pm hb:Nat}{t:Tr}{m:Mm}{w W:World}{b4 b5 bt:Nat}{c n mp ml:Int}{tm tm':Tm}(h:Rt B p pm hb t m w b4 b5 bt c n mp ml tm' W)(hg:getM (c,n) m=some tm)(hsv:tm'.sv=tm.sv)(hkl:tm'.kl=tm.kl){T':Tb}(hr:Rel t.toL (setM (c,n) tm' m) T'):
  ∃w',(Instr.mapUpdate 124 (.map (some hb)) (.agg #[ui c,ui n]) (tmV tm')).run Tryz.prog W=.ok () w'/\(∃M',TabAt B p M' T' w'/\Kept (footT p pm hb t m) w w'/\∀i,M' i->footT p pm hb t m i\/w.heap.size<=i):=by
 obtain⟨w',hrun,hgm,hk⟩:=run_upd h.rz.tx.gm (c,n) tm';refine⟨w',hrun,footT p pm hb t (setM (c,n) tm' m),⟨pm,hb,t,_,h.rz.tx.terms hgm hk (fun x hx=>?_),hr,rfl⟩,(Kept.of_below h.rz.bel).trans hk (fun i e=>.inl (.inr (.inl e))),footT_sub (fun i e=>.inl e) (fun x hx i e=>.inl ?_)⟩
 ·rcases mem_setM hx with rfl|e
  ·exact .inl ⟨((c,n),tm),get_mem hg,by unfold svV;rw[hsv],hkl.symm⟩
  ·exact .inl ⟨x,e,rfl,rfl⟩
 ·rcases mem_setM hx with rfl|e2
  ·refine⟨((c,n),tm),get_mem hg,?_⟩;unfold svV at e|-;rw[<-hsv];exact e
  ·exact⟨x,e2,e⟩
theorem raise15{B p pm hb:Nat}{t:Tr}{m:Mm}{T:Tb}{w:World}(c n mp ml:Int)(h:Tx B p pm hb t m w)(hr:Rel t.toL m T)(h0:0<=mp/\0<=ml):Calls Tryz.prog 80 #[pz p,.agg #[ui c,ui n],.agg #[uw mp,ui ml]] w fun e w'=>e=.returned (.bool (rseB c n mp ml T))/\∃M',TabAt B p M' (rseF c n mp ml T) w'/\Kept (footT p pm hb t m) w w'/\∀i,M' i->footT p pm hb t m i\/w.heap.size<=i:=by
 have hsome:=hr.isSome c n;obtain⟨W0,hW0⟩:=xj (w.alloc (.cells #[ui c,ui n] 26));obtain⟨W1,hW1⟩:=xj (W0.alloc (.cells #[uw mp,ui ml] 28));have hz1:Rz B p pm hb t m w w.heap.size W0.heap.size c n mp ml W1:=by
  have hb0:Below w.heap.size w W0:=by rw[<-hW0];exact al _
  have hb1:Below W0.heap.size W0 W1:=by rw[<-hW1];exact al _
  have hx0:W0.heap[w.heap.size]?=some (.cells #[ui c,ui n] 26 (0,0)):=by rw[<-hW0];exact heap_alloc_new w _
  have hx1:W1.heap[W0.heap.size]?=some (.cells #[uw mp,ui ml] 28 (0,0)):=by rw[<-hW1];exact heap_alloc_new W0 _
  exact⟨(h.on hb0).on hb1,hb0.trans (hb1.mono hb0.size),by rw[hb1.block _ (gsz hx0)];exact hx0,hx1⟩
 obtain⟨b4,hb4⟩:=xj w.heap.size;obtain⟨b5,hb5⟩:=xj W0.heap.size;rw[hb4,hb5]at hz1;have HZ:Hid (Rz B p pm hb t m w b4 b5 c n mp ml W1):=hz1;have HB4:Hid (w.heap.size=b4):=hb4;have HSt:Hid (∀W,Rz B p pm hb t m w b4 b5 c n mp ml W->rseF c n mp ml T=T->∃M',TabAt B p M' (rseF c n mp ml T) W/\Kept (footT p pm hb t m) w W/\∀i,M' i->footT p pm hb t m i\/w.heap.size<=i):=fun W hW e=>by rw[e];exact⟨_,⟨pm,hb,t,m,hW.tx,hr,rfl⟩,Kept.of_below hW.bel,fun i hi=>.inl hi⟩
 have CH:Hid (1=1->Calls Tryz.prog 137 #[pz p,.agg #[ui c,ui n]] W1 fun e w'=>e=.returned (.bool (getM (c,n) m).isSome)/\Hid (Rz B p pm hb t m w b4 b5 c n mp ml w')):=fun _=>by refine(has29 c n HZ.out.tx).mono ?_;rintro e w' ⟨rfl,hb'⟩;exact⟨rfl,HZ.out.on hb'⟩
 have CR:Hid (∀W,Hid (Rz B p pm hb t m w b4 b5 c n mp ml W)->Calls Tryz.prog 81 #[.agg #[uw mp,ui ml]] W fun e w'=>e=.returned (.bool (rightB mp ml))/\Hid (Rz B p pm hb t m w b4 b5 c n mp ml w')):=fun W hW=>by refine(rightP mp ml W).mono ?_;rintro e w' ⟨rfl,hb'⟩;exact⟨rfl,hW.out.on hb'⟩
 obtain⟨z0,z1⟩:=bk2 hz1.k4;cases hg:getM (c,n) m with
 |none=>
  rw[hg]at hsome CH;have hB:rseB c n mp ml T=false:=by unfold rseB;rw[<-hsome];rfl
  have hF:rseF c n mp ml T=T:=by unfold rseF;rw[hB];rfl
  rw[hB];have HS2:Hid (∀W,Rz B p pm hb t m w b4 b5 c n mp ml W->_):=fun W hW=>HSt.out W hW hF;simp only[Option.isSome_none]at CH;clear h hr hz1 hsome hg hB hF HZ HSt;generalize rseF c n mp ml T=T' at*;generalize footT p pm hb t m=F at*;go_enter Tryz.func80,Tryz.ntmps80;go_wp2_with fail;refine(CH.out (by trivial)).mono ?_;rintro e w1 ⟨rfl,HZ⟩;clear CH z0 z1 hW0 hW1 hb4 hb5;go_wp2_with fail;go_ret;exact⟨rfl,HS2.out _ HZ.out⟩
 |some tm=>
  rw[hg]at hsome CH;simp only[Option.isSome_some]at CH hsome;obtain⟨hkl1,hkl2,hnn⟩:=hr.ks _ _ hg;cases hrb:rightB mp ml with
  |false=>
   rw[hrb]at CR;have hB:rseB c n mp ml T=false:=by unfold rseB;rw[hrb,Bool.and_false]
   have hF:rseF c n mp ml T=T:=by unfold rseF;rw[hB];rfl
   rw[hB];have HS2:Hid (∀W,Rz B p pm hb t m w b4 b5 c n mp ml W->_):=fun W hW=>HSt.out W hW hF;clear h hr hz1 hsome hg hB hF HZ HSt;generalize rseF c n mp ml T=T' at*;generalize footT p pm hb t m=F at*;go_enter Tryz.func80,Tryz.ntmps80;go_wp2_with fail;refine(CH.out (by trivial)).mono ?_;rintro e w1 ⟨rfl,HZ⟩;obtain⟨y0,y1⟩:=bk2 HZ.out.k5;clear CH z0 z1 hW0 hW1 hb4 hb5;go_wp2_with fail;refine(CR.out _ HZ).mono ?_;rintro e w2 ⟨rfl,HZ2⟩;clear CR y0 y1 HZ;go_wp2_with fail;go_ret;exact⟨rfl,HS2.out _ HZ2.out⟩
  |true=>
   rw[hrb]at CR;have hB:rseB c n mp ml T=true:=by unfold rseB;rw[hrb,<-hsome];rfl
   have hF:rseF c n mp ml T=raiseF c n mp ml T:=by unfold rseF;rw[hB];rfl
   rw[hB,hF];obtain⟨a1,ha1⟩:=xj (maxL [(tm.mp,tm.ml),(mp,ml)]).1;obtain⟨a2,ha2⟩:=xj (maxL [(tm.mp,tm.ml),(mp,ml)]).2;have hrr:=hr.raise hg h0;have htm:(if ltT tm.mp tm.ml mp ml then{tm with mp:=mp,ml:=ml}else tm)={tm with mp:=a1,ml:=a2}:=by rw[<-ha1,<-ha2,max_two hnn];split<;>rfl
   rw[htm]at hrr;have HQ:Hid (∀W,Tx B p pm hb t m W->(Instr.lookup 124 (.map (some hb)) (.agg #[ui c,ui n]) false).run Tryz.prog W=.ok (.agg #[uw tm.sp,ui tm.sl,uw tm.mp,ui tm.ml,sd tm.prim,.slice tm.sv.1 tm.sv.2.1 tm.sv.2.2]) W):=fun W hW=>by have:=run_look hW.gm (c,n);rw[hg]at this;exact this
   have HU:Hid (∀W,Rt B p pm hb t m w b4 b5 0 c n mp ml tm W->True):=fun _ _=>trivial;clear HU;have HU:Hid (∀bt W,Rt B p pm hb t m w b4 b5 bt c n mp ml {tm with mp:=a1,ml:=a2} W->∃w',(Instr.mapUpdate 124 (.map (some hb)) (.agg #[ui c,ui n]) (.agg #[uw tm.sp,ui tm.sl,uw a1,ui a2,sd tm.prim,.slice tm.sv.1 tm.sv.2.1 tm.sv.2.2])).run Tryz.prog W=.ok () w'/\Hid (∃M',TabAt B p M' (raiseF c n mp ml T) w'/\Kept (footT p pm hb t m) w w'/\∀i,M' i->footT p pm hb t m i\/w.heap.size<=i)):=fun bt W hW=>rt_upd hW hg rfl rfl hrr;have CM:Hid (∀bk W bt,bk<W.heap.size->Hid (Rt B p pm hb t m w b4 b5 bt c n mp ml tm W)->W.heap[bk]?=some (.cells #[uw tm.mp,ui tm.ml,uw mp,ui ml] 28 (0,0))->Calls Tryz.prog 101 #[.slice (some ⟨bk,0,none⟩) 2 2] W fun e w'=>e=.returned (.agg #[uw a1,ui a2])/\Hid (Rt B p pm hb t m w b4 b5 bt c n mp ml tm w')):=fun bk W bt hbk hW hx=>by
    have:=max39_row bk W hbk 2 [(tm.mp,tm.ml),(mp,ml)] rfl (by omega) (fun i hi=>by
     rcases(by omega:i=0\/i=1)with rfl|rfl
     ·exact⟨block_cell hx rfl,block_cell hx rfl⟩
     ·exact⟨block_cell hx rfl,block_cell hx rfl⟩)
    rw[ha1,ha2]at this;refine Calls.mono this ?_;rintro e w' ⟨rfl,hb'⟩;exact⟨rfl,hW.out.on hb'⟩
   clear h hr hz1 hsome hg hB hF HZ HSt hrr htm ha1 ha2 hkl1 hkl2 hnn h0 hrb;generalize raiseF c n mp ml T=T' at*;generalize hFF:footT p pm hb t m=F at*;clear hFF;go_enter Tryz.func80,Tryz.ntmps80;go_wp2_with fail;refine(CH.out (by trivial)).mono ?_;rintro e w1 ⟨rfl,HZ⟩;obtain⟨y0,y1⟩:=bk2 HZ.out.k5;clear CH z0 z1 hW0 hW1 hb4 hb5;go_wp2_with fail;refine(CR.out _ HZ).mono ?_;rintro e w2 ⟨rfl,HZ2⟩;clear CR y0 y1 HZ;obtain⟨W3,hW3⟩:=xj (w2.alloc (.cells #[uw 0,ui 0,uw 0,ui 0,su,sy] 242));have HZ3:Hid (Rz B p pm hb t m w b4 b5 c n mp ml W3):=by rw[<-hW3];exact HZ2.out.on (al _)
   have hx3:W3.heap[w2.heap.size]?=some (.cells #[uw 0,ui 0,uw 0,ui 0,su,sy] 242 (0,0)):=by rw[<-hW3];exact heap_alloc_new w2 _
   have HRt:Hid _:=rt_new tm HZ2.out hW3;have q0:=HQ.out w2 HZ2.out.tx;have q1:=HQ.out w2.drew (HZ2.out.tx.on ((Below.refl _ _).drew));have q2:=HQ.out W3 HZ3.out.tx;have q3:=HQ.out W3.drew (HZ3.out.tx.on ((Below.refl _ _).drew));obtain⟨u0,u1⟩:=bk2 HZ2.out.k4;obtain⟨v0,v1⟩:=bk2 HZ3.out.k4;have s0:ce W3 w2.heap.size 0 (uw 0):=block_cell hx3 rfl;have s1:ce W3 w2.heap.size 1 (ui 0):=block_cell hx3 rfl;have s2:ce W3 w2.heap.size 2 (uw 0):=block_cell hx3 rfl;have s3:ce W3 w2.heap.size 3 (ui 0):=block_cell hx3 rfl;have s4:ce W3 w2.heap.size 4 su:=block_cell hx3 rfl;have s5:ce W3 w2.heap.size 5 sy:=block_cell hx3 rfl;have sf0:W3.frozen? ⟨w2.heap.size,0,none⟩=false:=block_frozen hx3 0;have sf1:W3.frozen? ⟨w2.heap.size,1,none⟩=false:=block_frozen hx3 1;have sf2:W3.frozen? ⟨w2.heap.size,2,none⟩=false:=block_frozen hx3 2;have sf3:W3.frozen? ⟨w2.heap.size,3,none⟩=false:=block_frozen hx3 3;have sf4:W3.frozen? ⟨w2.heap.size,4,none⟩=false:=block_frozen hx3 4;have sf5:W3.frozen? ⟨w2.heap.size,5,none⟩=false:=block_frozen hx3 5;have d1:=HZ2.out.tx.cells.2;have d2:=HZ3.out.tx.cells.2;clear hx3 HQ HZ2 HZ3;obtain⟨bt,hbt⟩:=xj w2.heap.size;rw[hbt]at HRt s0 sf0 s1 sf1 s2 sf2 s3 sf3 s4 sf4 s5 sf5;go_wp2_with fail;go_region;obtain⟨W4,hW4⟩:=xj ((((((W3.setCell ⟨bt,0,none⟩ (uw tm.sp)).setCell ⟨bt,1,none⟩ (ui tm.sl)).setCell ⟨bt,2,none⟩ (uw tm.mp)).setCell ⟨bt,3,none⟩ (ui tm.ml)).setCell ⟨bt,4,none⟩ (sd tm.prim)).setCell ⟨bt,5,none⟩ (.slice tm.sv.1 tm.sv.2.1 tm.sv.2.2)).drew;rw[hW4]at HRt|-;clear hW4 hW3 hbt d1 d2 q0 q1 q2 q3 u0 u1 v0 v1 s0 sf0 s1 sf1 s2 sf2 s3 sf3 s4 sf4 s5 sf5;have s2:ce W4 bt 2 (uw tm.mp):=block_cell HRt.out.bx rfl;have s3:ce W4 bt 3 (ui tm.ml):=block_cell HRt.out.bx rfl;obtain⟨y0,y1⟩:=bk2 HRt.out.rz.k5;obtain⟨W5,hW5⟩:=xj (W4.alloc (.cells #[uw tm.mp,ui tm.ml,uw mp,ui ml] 28));have HR5:Hid (Rt B p pm hb t m w b4 b5 bt c n mp ml tm W5):=by rw[<-hW5];exact HRt.out.on (al _)
   have hx5:W5.heap[W4.heap.size]?=some (.cells #[uw tm.mp,ui tm.ml,uw mp,ui ml] 28 (0,0)):=by rw[<-hW5];exact heap_alloc_new W4 _
   have CX:Hid (1=1->_):=fun _=>CM.out W4.heap.size W5 bt (gsz hx5) HR5 hx5;clear hx5 CM HRt HR5;go_wp2_with fail;refine(CX.out (by trivial)).mono ?_;rintro e w6 ⟨rfl,HR6⟩;have x2:ce w6 bt 2 (uw tm.mp):=block_cell HR6.out.bx rfl;have x3:ce w6 bt 3 (ui tm.ml):=block_cell HR6.out.bx rfl;have f2:=block_frozen HR6.out.bx 2;have f3:=block_frozen HR6.out.bx 3;have HR7:Hid _:=HR6.out.put a1 a2;obtain⟨W7,hW7⟩:=xj ((w6.setCell ⟨bt,2,none⟩ (uw a1)).setCell ⟨bt,3,none⟩ (ui a2));rw[hW7]at HR7;obtain⟨w8,hrun,HEnd⟩:=HU.out bt W7.drew (HR7.out.on (Below.refl _ _).drew);have zt0:=bk6 HR7.out.bx;obtain⟨u0,u1⟩:=bk2 HR7.out.rz.k4;have d1:=HR7.out.rz.tx.cells.2;clear CX s2 s3 y0 y1 hW5 HR6 HR7 HU;go_wp2_with fail;go_region;go_wp2_with fail;go_ret;exact⟨rfl,HEnd.out⟩
structure L4(B p pm hb:Nat)(t:Tr)(m:Mm)(w:World)(b6 b7 b8 b9:Nat)(c n sp sl mp ml:Int)(W:World):Prop where
 tx:Tx B p pm hb t m W
 bel:Below w.heap.size w W
 k6:W.heap[b6]?=some (.cells #[pz p] 84 (0,0))
 k7:W.heap[b7]?=some (.cells #[ui c,ui n] 26 (0,0))
 k8:W.heap[b8]?=some (.cells #[uw sp,ui sl] 28 (0,0))
 k9:W.heap[b9]?=some (.cells #[uw mp,ui ml] 28 (0,0))
theorem L4.on{B p pm hb:Nat}{t:Tr}{m:Mm}{w W W':World}{b6 b7 b8 b9:Nat}{c n sp sl mp ml:Int}(h:L4 B p pm hb t m w b6 b7 b8 b9 c n sp sl mp ml W)(hb':Below W.heap.size W W'):L4 B p pm hb t m w b6 b7 b8 b9 c n sp sl mp ml W':=
 ⟨h.tx.on hb',h.bel.trans (hb'.mono h.bel.size),by rw[hb'.block _ (gsz h.k6)];exact h.k6,by rw[hb'.block _ (gsz h.k7)];exact h.k7,by rw[hb'.block _ (gsz h.k8)];exact h.k8,by rw[hb'.block _ (gsz h.k9)];exact h.k9⟩
structure Lz(B p pm hb:Nat)(t0:Tr)(m:Mm)(w:World)(b6 b7 b8 b9:Nat)(c n sp sl mp ml:Int)(v:Value)(L:List Wr)(C:Kv Cv)(kv:Value)(K:List (List UInt8))(t:Tr)(W:World):Prop where
 tx:Tx B p pm hb t m W
 el:t.toL=C
 sub:∀i,foot8 pm t i->foot8 pm t0 i\/w.heap.size<=i
 kp:Kept (footT p pm hb t0 m) w W
 k6:W.heap[b6]?=some (.cells #[pz p] 84 (0,0))
 k7:W.heap[b7]?=some (.cells #[ui c,ui n] 26 (0,0))
 k8:W.heap[b8]?=some (.cells #[uw sp,ui sl] 28 (0,0))
 k9:W.heap[b9]?=some (.cells #[uw mp,ui ml] 28 (0,0))
 bn:∀i,(i=b6\/i=b7\/i=b8\/i=b9)->¬foot8 pm t i/\w.heap.size<=i
 ws:WsAt W.heap.size v L W
 wn:0<L.length->∀k,v.ownBlock=some k->¬foot8 pm t k/\k<w.heap.size
 row:W.ownsRow w.heap.size 9 1 kv K.length (kc K)
 rn:∀k,kv.ownBlock=some k->¬foot8 pm t k/\¬(k=b6\/k=b7\/k=b8\/k=b9)
 old:∀i,(i=p\/i=hb\/∃x∈m,(svV x.2).ownBlock=some i)->i<w.heap.size
theorem Lz.on{B p pm hb:Nat}{t0 t:Tr}{m:Mm}{w W W':World}{b6 b7 b8 b9:Nat}{c n sp sl mp ml:Int}{v:Value}{L:List Wr}{C:Kv Cv}{kv:Value}{K:List (List UInt8)}(h:Lz B p pm hb t0 m w b6 b7 b8 b9 c n sp sl mp ml v L C kv K t W)(hb':Below W.heap.size W W'):Lz B p pm hb t0 m w b6 b7 b8 b9 c n sp sl mp ml v L C kv K t W':=
 ⟨h.tx.on hb',h.el,h.sub,h.kp.trans (Kept.of_below (F:=fun _=>False) hb') (fun _ e=>e.elim),by rw[hb'.block _ (gsz h.k6)];exact h.k6,by rw[hb'.block _ (gsz h.k7)];exact h.k7,by rw[hb'.block _ (gsz h.k8)];exact h.k8,by rw[hb'.block _ (gsz h.k9)];exact h.k9,h.bn,RwAt.le (h.ws.on hb') hb'.size,h.wn,own_on h.row hb',h.rn,h.old⟩
theorem ly_set{B p pm hb:Nat}{t0 t:Tr}{m:Mm}{w W:World}{b6 b7 b8 b9:Nat}{c n sp sl mp ml:Int}{v:Value}{L:List Wr}{C:Kv Cv}{kv:Value}{K:List (List UInt8)}(h:Lz B p pm hb t0 m w b6 b7 b8 b9 c n sp sl mp ml v L C kv K t W)(hl:C.length<100000)(x:Wr):Calls Tryz.prog 141 #[pz pm,sd x.key,.agg #[ui c,ui n,sd x.key,sd x.val,.bool x.dead]] W fun e w'=>e=.returned (.tuple #[])/\Kept (foot8 pm t) W w'/\∃t',Lz B p pm hb t0 m w b6 b7 b8 b9 c n sp sl mp ml v L (setF x.key ((c,n),x) C) kv K t' w':=by
 refine(set9 x.key ((c,n),x) h.tx.map (by rw[h.el];exact hl)).mono ?_;rintro e w' ⟨rfl,hp⟩;obtain⟨t',he,ht,hk,hn⟩:=h.tx.claims hp;rw[h.el]at he;have hs:=h.kp.size;have new:∀k,k<W.heap.size->¬foot8 pm t k->¬foot8 pm t' k:=fun k h1 h2 h3=>by
  rcases hn k h3 with e|e
  ·exact h2 e
  ·omega
 have l6:=(gsz h.k6);have l7:=(gsz h.k7);have l8:=(gsz h.k8);have l9:=(gsz h.k9);refine⟨rfl,hk,t',ht,he,fun i hi=>?_,h.kp.trans hk (fun i hi=>?_),?_,?_,?_,?_,fun i e=>?_,?_,fun h0 k e=>?_,own_kept h.row hk (fun k e=>(h.rn k e).1),fun k e=>?_,h.old⟩
 ·rcases hn i hi with e|e
  ·exact h.sub i e
  ·exact .inr (Nat.le_trans hs e)
 ·rcases h.sub i hi with e|e
  ·exact .inl (.inr (.inr (.inl e)))
  ·exact .inr e
 ·rw[hk.block _ l6 (h.bn _ (.inl rfl)).1];exact h.k6
 ·rw[hk.block _ l7 (h.bn _ (.inr (.inl rfl))).1];exact h.k7
 ·rw[hk.block _ l8 (h.bn _ (.inr (.inr (.inl rfl)))).1];exact h.k8
 ·rw[hk.block _ l9 (h.bn _ (.inr (.inr (.inr rfl)))).1];exact h.k9
 ·obtain⟨a1,a2⟩:=h.bn i e;refine⟨new i ?_ a1,a2⟩;rcases e with rfl|rfl|rfl|rfl<;>assumption
 ·exact rw_keep h.ws hk (fun h0 k e=>(h.wn h0 k e).1)
 ·obtain⟨a1,a2⟩:=h.wn h0 k e;exact⟨new k (Nat.lt_of_lt_of_le a2 hs) a1,a2⟩
 ·obtain⟨a1,a2⟩:=h.rn k e;exact⟨new k (World.ownsRow.lt h.row k e).2 a1,a2⟩
theorem ly_row{B p pm hb:Nat}{t0 t:Tr}{m:Mm}{w W W':World}{b6 b7 b8 b9:Nat}{c n sp sl mp ml:Int}{v:Value}{L:List Wr}{C:Kv Cv}{kv:Value}{K:List (List UInt8)}{kv':Value}{K':List (List UInt8)}(h:Lz B p pm hb t0 m w b6 b7 b8 b9 c n sp sl mp ml v L C kv K t W)(ho:W'.ownsRow w.heap.size 9 1 kv' K'.length (kc K'))(hg:W.grownBy W' kv.ownBlock)(hat:kv'.ownBlock=kv.ownBlock\/kv'.ownBlock=some W.heap.size):Lz B p pm hb t0 m w b6 b7 b8 b9 c n sp sl mp ml v L C kv' K' t W':=by
 have hk:=grown_kept hg;have hrl:∀k,kv.ownBlock=some k->w.heap.size<=k/\k<W.heap.size:=fun k e=>World.ownsRow.lt h.row k e;have hs:=h.kp.size;have hft:∀i,footT p pm hb t m i->¬kv.ownBlock=some i:=fun i hi e=>by
  have h3:=(hrl i e).1;rcases hi with e2|e2|e2|e2
  ·have:=h.old i (.inl e2);omega
  ·have:=h.old i (.inr (.inl e2));omega
  ·exact(h.rn i e).1 e2
  ·have:=h.old i (.inr (.inr e2));omega
 have hbx:∀i,(i=b6\/i=b7\/i=b8\/i=b9)->¬kv.ownBlock=some i:=fun i hi e=>(h.rn i e).2 hi;have hfl:∀i,foot8 pm t i->i<W.heap.size:=fun i hi=>(h.tx.lt (.inr (.inr (.inl hi)))).2;have l6:=(gsz h.k6);have l7:=(gsz h.k7);have l8:=(gsz h.k8);have l9:=(gsz h.k9);refine⟨h.tx.kept hk hft,h.el,h.sub,h.kp.trans hk (fun i e=>.inr (hrl i e).1),?_,?_,?_,?_,h.bn,rw_keep h.ws hk (fun h0 k e e2=>?_),h.wn,ho,fun k e=>?_,h.old⟩
 ·rw[hk.block _ l6 (hbx _ (.inl rfl))];exact h.k6
 ·rw[hk.block _ l7 (hbx _ (.inr (.inl rfl)))];exact h.k7
 ·rw[hk.block _ l8 (hbx _ (.inr (.inr (.inl rfl))))];exact h.k8
 ·rw[hk.block _ l9 (hbx _ (.inr (.inr (.inr rfl))))];exact h.k9
 ·have:=(h.wn h0 k e).2;have:=(hrl k e2).1;omega
 ·rcases hat with e2|e2
  ·rw[e2]at e;exact h.rn k e
  ·rw[e2]at e;injection e with e;refine⟨fun e3=>by have:=hfl k e3;omega,fun e3=>?_⟩;rcases e3 with e3|e3|e3|e3<;>omega
theorem lz_start{B p pm hb:Nat}{t:Tr}{m:Mm}{w W:World}{b6 b7 b8 b9:Nat}{c n sp sl mp ml:Int}{v:Value}{L:List Wr}(h0:Tx B p pm hb t m w)(h:L4 B p pm hb t m w b6 b7 b8 b9 c n sp sl mp ml W)(hb4:w.heap.size<=b6/\w.heap.size<=b7/\w.heap.size<=b8/\w.heap.size<=b9)(hv:WsAt w.heap.size v L w)(hn:0<L.length->∀k,v.ownBlock=some k->¬footT p pm hb t m k):
  Lz B p pm hb t m w b6 b7 b8 b9 c n sp sl mp ml v L t.toL sy [] t W:=by
 have hlt:∀i,footT p pm hb t m i->i<w.heap.size:=fun i hi=>(h0.lt hi).2;refine⟨h.tx,rfl,fun i e=>.inl e,Kept.of_below h.bel,h.k6,h.k7,h.k8,h.k9,fun i e=>?_,RwAt.le (hv.on h.bel) h.bel.size,fun hp k e=>?_,own_nil _ _ _ _,fun k e=>(by cases e),fun i e=>hlt i ?_⟩
 ·have hi:w.heap.size<=i:=by rcases e with rfl|rfl|rfl|rfl<;>omega
  exact⟨fun e2=>by have:=hlt i (.inr (.inr (.inl e2)));omega,hi⟩
 ·refine⟨fun e2=>hn hp k e (.inr (.inr (.inl e2))),?_⟩;obtain⟨ao,cap,rfl,_,h2,_,h3⟩:=hv;obtain⟨b,off,rfl,h4,_⟩:=h3 (by omega);injection e with e;simp only at e;rw[<-e];exact h4 hp
 ·rcases e with e|e|e
  ·exact .inl e
  ·exact .inr (.inl e)
  ·exact .inr (.inr (.inr e))
theorem lz_end{B p pm hb:Nat}{t0 t:Tr}{m:Mm}{w W W1:World}{b6 b7 b8 b9:Nat}{c n sp sl mp ml:Int}{v:Value}{L:List Wr}{C:Kv Cv}{g cap nK:Nat}{K:List (List UInt8)}(prim:List UInt8)(hnK:K.length=nK){T':Tb}(h:Lz B p pm hb t0 m w b6 b7 b8 b9 c n sp sl mp ml v L C (.slice (some ⟨g,0,none⟩) nK cap) K t W)(hk:Kept (fun i=>i=g) W W1)(hrow:RwAt W1.heap.size 1 (.slice (some ⟨g,0,none⟩) nK cap) nK (kc (srtK K)) W1)(htg:∃cs,W1.heap[g]?=some (.cells cs 9 (0,0)))(hp:0<nK)(hB:B<=w.heap.size)(hr:Rel C (setM (c,n) ⟨sp,sl,mp,ml,prim,(some ⟨g,0,none⟩,nK,cap),srtK K⟩ m) T'):
  W1.heap[b6]?=some (.cells #[pz p] 84 (0,0))/\W1.heap[b7]?=some (.cells #[ui c,ui n] 26 (0,0))/\W1.heap[b8]?=some (.cells #[uw sp,ui sl] 28 (0,0))/\W1.heap[b9]?=some (.cells #[uw mp,ui ml] 28 (0,0))/\ce W1 p 1 (.map (some hb))/\∃w',(Instr.mapUpdate 124 (.map (some hb)) (.agg #[ui c,ui n]) (.agg #[uw sp,ui sl,uw mp,ui ml,sd prim,.slice (some ⟨g,0,none⟩) nK cap])).run Tryz.prog W1.drew=.ok () w'/\∃M',TabAt B p M' T' w'/\Kept (footT p pm hb t0 m) w w'/\∀i,M' i->footT p pm hb t0 m i\/w.heap.size<=i:=by
 subst hnK;have hgl:=World.ownsRow.lt h.row g rfl;have hrn:=h.rn g rfl;have l6:=(gsz h.k6);have l7:=(gsz h.k7);have l8:=(gsz h.k8);have l9:=(gsz h.k9);have hold:∀i,(i=p\/i=hb\/∃x∈m,(svV x.2).ownBlock=some i)->i≠g:=fun i e e2=>by have:=h.old i e;omega
 have tx1:Tx B p pm hb t m W1:=h.tx.kept hk (fun i hi e=>by
  rcases hi with e2|e2|e2|e2
  ·exact hold i (.inl e2) e
  ·exact hold i (.inr (.inl e2)) e
  ·exact hrn.1 (e▸e2)
  ·exact hold i (.inr (.inr e2)) e)
 have txd:Tx B p pm hb t m W1.drew:=tx1.on (Below.refl _ _).drew;obtain⟨w',hrun,hgm,hku⟩:=run_upd txd.gm (c,n) ⟨sp,sl,mp,ml,prim,(some ⟨g,0,none⟩,K.length,cap),srtK K⟩;refine⟨by rw[hk.block _ l6 (fun e=>hrn.2 (.inl e.symm))];exact h.k6,by rw[hk.block _ l7 (fun e=>hrn.2 (.inr (.inl e.symm)))];exact h.k7,by rw[hk.block _ l8 (fun e=>hrn.2 (.inr (.inr (.inl e.symm))))];exact h.k8,by rw[hk.block _ l9 (fun e=>hrn.2 (.inr (.inr (.inr e.symm))))];exact h.k9,tx1.cells.2,w',hrun,footT p pm hb t (setM (c,n) ⟨sp,sl,mp,ml,prim,(some ⟨g,0,none⟩,K.length,cap),srtK K⟩ m),⟨pm,hb,t,_,txd.terms hgm hku (fun x hx=>?_),by rw[h.el];exact hr,rfl⟩,(h.kp.trans hk (fun i e=>.inr (by rw[e];exact hgl.1))).trans (Kept.trans (F:=fun i=>i=hb) (Kept.of_below (Below.refl W1.heap.size W1).drew) hku (fun i e=>.inl e)) (fun i e=>.inl (.inr (.inl e))),footT_sub h.sub (fun x hx i e=>?_)⟩
 ·rcases mem_setM hx with rfl|e
  ·refine .inr ⟨?_,by show 0<(srtK K).length;rw[srtK_len];exact hp,fun i e=>?_,fun i e=>?_⟩
   ·show RwAt W1.drew.heap.size 1 (.slice (some ⟨g,0,none⟩) K.length cap) (srtK K).length (kc (srtK K)) W1.drew;rw[srtK_len];exact hrow
   ·injection e with e;simp only at e;subst e;exact⟨fun e2=>hold _ (.inl e2) rfl,fun e2=>hrn.1 (.inl e2),fun e2=>hold _ (.inr (.inl e2)) rfl,fun e2=>hrn.1 (.inr e2),Nat.le_trans hB hgl.1,Nat.lt_of_lt_of_le hgl.2 hk.size⟩
   ·injection e with e;simp only at e;subst e;exact htg
  ·exact .inl ⟨x,e,rfl,rfl⟩
 ·rcases mem_setM hx with rfl|e2
  ·injection e with e;simp only at e;exact .inr (by rw[<-e];exact hgl.1)
  ·exact .inl ⟨x,e2,e⟩
end Go.Proofs.YtdplfgcoaddbdaaGreat.Lat
