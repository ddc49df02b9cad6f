import Derived.Laws.Cover3
import Derived.Test.YtnfpfbehebcdpaaGreatUbr
set_option maxHeartbeats 0
set_option maxRecDepth 99999
set_option linter.all false
namespace Go.Proofs.YtnfpfbehebcdpaaGreat.Lat
open Go.RowKit
def aug{a b mp ml:Int}(h:0<=a/\0<=b):maxL [(a,b),(mp,ml)]=if ltT a b mp ml then(mp,ml)else(a,b):=by
 have e1:maxF 0 0 a b=(a,b):=by
  unfold maxF Ar;split
  .rfl
  .rename_i hn;simp only[jc,ug,not_and]at hn;have ha:a=0:=by omega
   have hb:b=0:=by have:=hn.2 ha.symm;omega
   rw[ha,hb]
 simp only[maxL,List.foldl_cons,List.foldl_nil,e1];rw[ajv];rfl
structure Rz(B p pm hb:Nat)(t:Tr)(m:Mm)(w:World)(b4 b5:Nat)(c n mp ml:Int)(W:World):Prop where
 tx:Tx B p pm hb t m W
 bel:Bw w W
 k4:W.heap[b4]?=some (.cells #[ui c,ui n] 36 (0,0))
 k5:W.heap[b5]?=some (.cells #[uw mp,ui ml] 38 (0,0))
def Rz.on{B p pm hb:Nat}{t:Tr}{m:Mm}{w W W':World}{b4 b5:Nat}{c n mp ml:Int}(h:Rz B p pm hb t m w b4 b5 c n mp ml W)(hb':Bw W W'):Rz B p pm hb t m w b4 b5 c n mp ml W':=
 ⟨h.tx.on hb',h.bel.trans (hb'.mono h.bel.size),by rw[hb'.block _ (gsz h.k4)];exact h.k4,by rw[hb'.block _ (gsz h.k5)];exact h.k5⟩
def Rz.own{B p pm hb:Nat}{t:Tr}{m:Mm}{w W W':World}{b4 b5 bt:Nat}{c n mp ml:Int}(h:Rz B p pm hb t m w b4 b5 c n mp ml W)(hk:Kept (λi=>i=bt) W W')(hf:∀i,D5 p pm hb t m i->i≠bt)(h4:b4≠bt)(h5:b5≠bt)(hw:w.heap.size<=bt):Rz B p pm hb t m w b4 b5 c n mp ml W':=
 ⟨h.tx.kept hk hf,h.bel.trans (hk.below h.bel.size (λk e=>by rw[e];exact hw)),by rw[hk.block _ (gsz h.k4) h4];exact h.k4,by rw[hk.block _ (gsz h.k5) h5];exact h.k5⟩
structure Rt(B p pm hb:Nat)(t:Tr)(m:Mm)(w:World)(b4 b5 bt:Nat)(c n mp ml:Int)(tm:Tm)(W:World):Prop where
 rz:Rz B p pm hb t m w b4 b5 c n mp ml W
 bx:W.heap[bt]?=some (.cells #[uw tm.sp,ui tm.sl,uw tm.mp,ui tm.ml,sd tm.prim,.slice tm.sv.1 tm.sv.2.1 tm.sv.2.2] 208 (0,0))
 far:(∀i,D5 p pm hb t m i->i≠bt)/\b4≠bt/\b5≠bt/\w.heap.size<=bt
def Rt.on{B p pm hb:Nat}{t:Tr}{m:Mm}{w W W':World}{b4 b5 bt:Nat}{c n mp ml:Int}{tm:Tm}(h:Rt B p pm hb t m w b4 b5 bt c n mp ml tm W)(hb':Bw W W'):Rt B p pm hb t m w b4 b5 bt c n mp ml tm W':=
 ⟨h.rz.on hb',by rw[hb'.block _ (gsz h.bx)];exact h.bx,h.far⟩
def axz{B p pm hb:Nat}{t:Tr}{m:Mm}{w W2 W3:World}{b4 b5:Nat}{c n mp ml:Int}(tm:Tm)(h:Rz B p pm hb t m w b4 b5 c n mp ml W2)(hz:W2.alloc (.cells #[uw 0,ui 0,uw 0,ui 0,su,sy] 208)=W3):Rt B p pm hb t m w b4 b5 W2.heap.size c n mp ml tm ((((((W3.setCell ⟨W2.heap.size,0,none⟩ (uw tm.sp)).setCell ⟨W2.heap.size,1,none⟩ (ui tm.sl)).setCell ⟨W2.heap.size,2,none⟩ (uw tm.mp)).setCell ⟨W2.heap.size,3,none⟩ (ui tm.ml)).setCell ⟨W2.heap.size,4,none⟩ (sd tm.prim)).setCell ⟨W2.heap.size,5,none⟩ (.slice tm.sv.1 tm.sv.2.1 tm.sv.2.2)).drew:=by
 have h3:Rz B p pm hb t m w b4 b5 c n mp ml W3:=by rw[<-hz];exact h.on (al _)
 have hx:W3.heap[W2.heap.size]?=some (.cells #[uw 0,ui 0,uw 0,ui 0,su,sy] 208 (0,0)):=by rw[<-hz];exact ae W2 _
 have hk:=aey W3 W2.heap.size tm;have e:=bx6 tm hx;have n4:=(gsz h.k4);have n5:=(gsz h.k5);have hfar:(∀i,D5 p pm hb t m i->i≠W2.heap.size)/\b4≠W2.heap.size/\b5≠W2.heap.size/\w.heap.size<=W2.heap.size:=⟨λi hi e=>by have:=(h.tx.lt hi).2;omega,by omega,by omega,h.bel.size⟩;have r:=h3.own hk hfar.1 hfar.2.1 hfar.2.2.1 hfar.2.2.2;generalize ((((((W3.setCell ⟨W2.heap.size,0,none⟩ (uw tm.sp)).setCell ⟨W2.heap.size,1,none⟩ (ui tm.sl)).setCell ⟨W2.heap.size,2,none⟩ (uw tm.mp)).setCell ⟨W2.heap.size,3,none⟩ (ui tm.ml)).setCell ⟨W2.heap.size,4,none⟩ (sd tm.prim)).setCell ⟨W2.heap.size,5,none⟩ (.slice tm.sv.1 tm.sv.2.1 tm.sv.2.2))=X at*;exact⟨r.on (aj _ _).drew,e,hfar⟩
def Rt.put{B p pm hb:Nat}{t:Tr}{m:Mm}{w W:World}{b4 b5 bt:Nat}{c n mp ml:Int}{tm:Tm}(h:Rt B p pm hb t m w b4 b5 bt c n mp ml tm W)(a1 a2:Int):Rt B p pm hb t m w b4 b5 bt c n mp ml {tm with mp:=a1,ml:=a2} ((W.setCell ⟨bt,2,none⟩ (uw a1)).setCell ⟨bt,3,none⟩ (ui a2)):=by have k1:=Ai W bt 2 (uw a1);have k2:=Ai (W.setCell ⟨bt,2,none⟩ (uw a1)) bt 3 (ui a2);have kk:=k1.trans k2 (λi e=>.inl e);have e1:(W.setCell ⟨bt,2,none⟩ (uw a1)).heap[bt]?=some (.cells #[uw tm.sp,ui tm.sl,uw a1,ui tm.ml,sd tm.prim,.slice tm.sv.1 tm.sv.2.1 tm.sv.2.2] 208 (0,0)):=Af _ h.bx;exact⟨h.rz.own kk h.far.1 h.far.2.1 h.far.2.2.1 h.far.2.2.2,Af _ e1,h.far⟩
def axy{B p pm hb:Nat}{t:Tr}{m:Mm}{w W:World}{b4 b5 bt:Nat}{c n mp ml:Int}{tm tm':Tm}(h:Rt B p pm hb t m w b4 b5 bt c n mp ml tm' W)(hg:getM (c,n) m=some tm)(hsv:tm'.sv=tm.sv)(hkl:tm'.kl=tm.kl){T':Tb}(hr:Rel t.toL (setM (c,n) tm' m) T'):
  ∃w',(Instr.mapUpdate 124 (.map (some hb)) (.agg #[ui c,ui n]) (tmV tm')).run Tryz.prog W=.ok () w'/\(∃M',TabAt B p M' T' w'/\Kept (D5 p pm hb t m) w w'/\∀i,M' i->D5 p pm hb t m i\/w.heap.size<=i):=by
 obtain⟨w',hrun,hgm,hk⟩:=ai9 h.rz.tx.gm (c,n) tm';refine⟨w',hrun,D5 p pm hb t (setM (c,n) tm' m),⟨pm,hb,t,_,h.rz.tx.terms hgm hk (λx hx=>?_),hr,rfl⟩,(Kept.of_below h.rz.bel).trans hk (λi e=>.inl (.inr (.inl e))),Xl (λi e=>.inl e) (λx hx i e=>.inl ?_)⟩
 .rcases Q4 hx with rfl|e
  .exact .inl ⟨((c,n),tm),get_mem hg,by unfold svV;rw[hsv],hkl.symm⟩
  .exact .inl ⟨x,e,rfl,rfl⟩
 .rcases Q4 hx with rfl|e2
  .refine⟨((c,n),tm),get_mem hg,?_⟩;unfold svV at e|-;rw[<-hsv];exact e
  .exact⟨x,e2,e⟩
def atl{B p pm hb:Nat}{t:Tr}{m:Mm}{T:Tb}{w:World}(c n mp ml:Int)(h:Tx B p pm hb t m w)(hr:Rel t.toL m T)(h0:0<=mp/\0<=ml):cpr 59 #[pz p,.agg #[ui c,ui n],.agg #[uw mp,ui ml]] w λe w'=>e=.returned (.bool (Wj c n mp ml T))/\∃M',TabAt B p M' (rseF c n mp ml T) w'/\Kept (D5 p pm hb t m) w w'/\∀i,M' i->D5 p pm hb t m i\/w.heap.size<=i:=by
 have hsome:=hr.isSome c n;obtain⟨W0,hW0⟩:=xj (w.alloc (.cells #[ui c,ui n] 36));obtain⟨W1,hW1⟩:=xj (W0.alloc (.cells #[uw mp,ui ml] 38));have hz1:Rz B p pm hb t m w w.heap.size W0.heap.size c n mp ml W1:=by
  have hb0:Bw w W0:=by rw[<-hW0];exact al _
  have hb1:Bw W0 W1:=by rw[<-hW1];exact al _
  have hx0:W0.heap[w.heap.size]?=some (.cells #[ui c,ui n] 36 (0,0)):=by rw[<-hW0];exact ae w _
  have hx1:W1.heap[W0.heap.size]?=some (.cells #[uw mp,ui ml] 38 (0,0)):=by rw[<-hW1];exact ae W0 _
  exact⟨(h.on hb0).on hb1,hb0.trans (hb1.mono hb0.size),by rw[hb1.block _ (gsz hx0)];exact hx0,hx1⟩
 obtain⟨b4,hb4⟩:=xj w.heap.size;obtain⟨b5,hb5⟩:=xj W0.heap.size;rw[hb4,hb5]at hz1;have HZ:Hid (Rz B p pm hb t m w b4 b5 c n mp ml W1):=hz1;have HB4:Hid (w.heap.size=b4):=hb4;have HSt:Hid (∀W,Rz B p pm hb t m w b4 b5 c n mp ml W->rseF c n mp ml T=T->∃M',TabAt B p M' (rseF c n mp ml T) W/\Kept (D5 p pm hb t m) w W/\∀i,M' i->D5 p pm hb t m i\/w.heap.size<=i):=λW hW e=>by rw[e];exact⟨_,⟨pm,hb,t,m,hW.tx,hr,rfl⟩,Kept.of_below hW.bel,λi hi=>.inl hi⟩
 have CH:Hid (1=1->cpr 111 #[pz p,.agg #[ui c,ui n]] W1 λe w'=>e=.returned (.bool (getM (c,n) m).isSome)/\Hid (Rz B p pm hb t m w b4 b5 c n mp ml w')):=λ_=>by refine(aww c n HZ.out.tx).mono ?_;rintro e w' ⟨rfl,hb'⟩;exact⟨rfl,HZ.out.on hb'⟩
 have CR:Hid (∀W,Hid (Rz B p pm hb t m w b4 b5 c n mp ml W)->cpr 109 #[.agg #[uw mp,ui ml]] W λe w'=>e=.returned (.bool (Ag mp ml))/\Hid (Rz B p pm hb t m w b4 b5 c n mp ml w')):=λW hW=>by refine(Jb mp ml W).mono ?_;rintro e w' ⟨rfl,hb'⟩;exact⟨rfl,hW.out.on hb'⟩
 obtain⟨z0,z1⟩:=bk2 hz1.k4;cases hg:getM (c,n) m with
 |none=>
  rw[hg]at hsome CH;have hB:Wj c n mp ml T=false:=by unfold Wj;rw[<-hsome];rfl
  have hF:rseF c n mp ml T=T:=by unfold rseF;rw[hB];rfl
  rw[hB];have HS2:Hid (∀W,Rz B p pm hb t m w b4 b5 c n mp ml W->_):=λW hW=>HSt.out W hW hF;simp only[Option.isSome_none]at CH;clear h hr hz1 hsome hg hB hF HZ HSt;generalize rseF c n mp ml T=T' at*;generalize D5 p pm hb t m=F at*;go_enter Tryz.func59,Tryz.ntmps59;go_wp2_with fail;refine(CH.out (by trivial)).mono ?_;rintro e w1 ⟨rfl,HZ⟩;clear CH z0 z1 hW0 hW1 hb4 hb5;go_wp2_with fail;go_ret;exact⟨rfl,HS2.out _ HZ.out⟩
 |some tm=>
  rw[hg]at hsome CH;simp only[Option.isSome_some]at CH hsome;obtain⟨hkl1,hkl2,hnn⟩:=hr.ks _ _ hg;cases hrb:Ag mp ml with
  |false=>
   rw[hrb]at CR;have hB:Wj c n mp ml T=false:=by unfold Wj;rw[hrb,Bool.and_false]
   have hF:rseF c n mp ml T=T:=by unfold rseF;rw[hB];rfl
   rw[hB];have HS2:Hid (∀W,Rz B p pm hb t m w b4 b5 c n mp ml W->_):=λW hW=>HSt.out W hW hF;clear h hr hz1 hsome hg hB hF HZ HSt;generalize rseF c n mp ml T=T' at*;generalize D5 p pm hb t m=F at*;go_enter Tryz.func59,Tryz.ntmps59;go_wp2_with fail;refine(CH.out (by trivial)).mono ?_;rintro e w1 ⟨rfl,HZ⟩;obtain⟨y0,y1⟩:=bk2 HZ.out.k5;clear CH z0 z1 hW0 hW1 hb4 hb5;go_wp2_with fail;refine(CR.out _ HZ).mono ?_;rintro e w2 ⟨rfl,HZ2⟩;clear CR y0 y1 HZ;go_wp2_with fail;go_ret;exact⟨rfl,HS2.out _ HZ2.out⟩
  |true=>
   rw[hrb]at CR;have hB:Wj c n mp ml T=true:=by unfold Wj;rw[hrb,<-hsome];rfl
   have hF:rseF c n mp ml T=Jv c n mp ml T:=by unfold rseF;rw[hB];rfl
   rw[hB,hF];obtain⟨a1,ha1⟩:=xj (maxL [(tm.mp,tm.ml),(mp,ml)]).1;obtain⟨a2,ha2⟩:=xj (maxL [(tm.mp,tm.ml),(mp,ml)]).2;have hrr:=hr.raise hg h0;have htm:(if ltT tm.mp tm.ml mp ml then{tm with mp:=mp,ml:=ml}else tm)={tm with mp:=a1,ml:=a2}:=by rw[<-ha1,<-ha2,aug hnn];split<;>rfl
   rw[htm]at hrr;have HQ:Hid (∀W,Tx B p pm hb t m W->(Instr.lookup 124 (.map (some hb)) (.agg #[ui c,ui n]) false).run Tryz.prog W=.ok (.agg #[uw tm.sp,ui tm.sl,uw tm.mp,ui tm.ml,sd tm.prim,.slice tm.sv.1 tm.sv.2.1 tm.sv.2.2]) W):=λW hW=>by have:=Zm hW.gm (c,n);rw[hg]at this;exact this
   have HU:Hid (∀W,Rt B p pm hb t m w b4 b5 0 c n mp ml tm W->True):=λ_ _=>trivial;clear HU;have HU:Hid (∀bt W,Rt B p pm hb t m w b4 b5 bt c n mp ml {tm with mp:=a1,ml:=a2} W->∃w',(Instr.mapUpdate 124 (.map (some hb)) (.agg #[ui c,ui n]) (.agg #[uw tm.sp,ui tm.sl,uw a1,ui a2,sd tm.prim,.slice tm.sv.1 tm.sv.2.1 tm.sv.2.2])).run Tryz.prog W=.ok () w'/\Hid (∃M',TabAt B p M' (Jv c n mp ml T) w'/\Kept (D5 p pm hb t m) w w'/\∀i,M' i->D5 p pm hb t m i\/w.heap.size<=i)):=λbt W hW=>axy hW hg rfl rfl hrr;have CM:Hid (∀bk W bt,bk<W.heap.size->Hid (Rt B p pm hb t m w b4 b5 bt c n mp ml tm W)->W.heap[bk]?=some (.cells #[uw tm.mp,ui tm.ml,uw mp,ui ml] 38 (0,0))->cpr 132 #[.slice (some ⟨bk,0,none⟩) 2 2] W λe w'=>e=.returned (.agg #[uw a1,ui a2])/\Hid (Rt B p pm hb t m w b4 b5 bt c n mp ml tm w')):=λbk W bt hbk hW hx=>by
    have:=alz bk W hbk 2 [(tm.mp,tm.ml),(mp,ml)] rfl (by omega) (λi hi=>by
     rcases(by omega:i=0\/i=1)with rfl|rfl
     .exact⟨Aa hx rfl,Aa hx rfl⟩
     .exact⟨Aa hx rfl,Aa hx rfl⟩)
    rw[ha1,ha2]at this;refine Calls.mono this ?_;rintro e w' ⟨rfl,hb'⟩;exact⟨rfl,hW.out.on hb'⟩
   clear h hr hz1 hsome hg hB hF HZ HSt hrr htm ha1 ha2 hkl1 hkl2 hnn h0 hrb;generalize Jv c n mp ml T=T' at*;generalize hFF:D5 p pm hb t m=F at*;clear hFF;go_enter Tryz.func59,Tryz.ntmps59;go_wp2_with fail;refine(CH.out (by trivial)).mono ?_;rintro e w1 ⟨rfl,HZ⟩;obtain⟨y0,y1⟩:=bk2 HZ.out.k5;clear CH z0 z1 hW0 hW1 hb4 hb5;go_wp2_with fail;refine(CR.out _ HZ).mono ?_;rintro e w2 ⟨rfl,HZ2⟩;clear CR y0 y1 HZ;obtain⟨W3,hW3⟩:=xj (w2.alloc (.cells #[uw 0,ui 0,uw 0,ui 0,su,sy] 208));have HZ3:Hid (Rz B p pm hb t m w b4 b5 c n mp ml W3):=by rw[<-hW3];exact HZ2.out.on (al _)
   have hx3:W3.heap[w2.heap.size]?=some (.cells #[uw 0,ui 0,uw 0,ui 0,su,sy] 208 (0,0)):=by rw[<-hW3];exact ae w2 _
   have HRt:Hid _:=axz tm HZ2.out hW3;have q0:=HQ.out w2 HZ2.out.tx;have q1:=HQ.out w2.drew (HZ2.out.tx.on ((aj _ _).drew));have q2:=HQ.out W3 HZ3.out.tx;have q3:=HQ.out W3.drew (HZ3.out.tx.on ((aj _ _).drew));obtain⟨u0,u1⟩:=bk2 HZ2.out.k4;obtain⟨v0,v1⟩:=bk2 HZ3.out.k4;have s0:ce W3 w2.heap.size 0 (uw 0):=Aa hx3 rfl;have s1:ce W3 w2.heap.size 1 (ui 0):=Aa hx3 rfl;have s2:ce W3 w2.heap.size 2 (uw 0):=Aa hx3 rfl;have s3:ce W3 w2.heap.size 3 (ui 0):=Aa hx3 rfl;have s4:ce W3 w2.heap.size 4 su:=Aa hx3 rfl;have s5:ce W3 w2.heap.size 5 sy:=Aa hx3 rfl;have sf0:W3.frozen? ⟨w2.heap.size,0,none⟩=false:=Ad hx3 0;have sf1:W3.frozen? ⟨w2.heap.size,1,none⟩=false:=Ad hx3 1;have sf2:W3.frozen? ⟨w2.heap.size,2,none⟩=false:=Ad hx3 2;have sf3:W3.frozen? ⟨w2.heap.size,3,none⟩=false:=Ad hx3 3;have sf4:W3.frozen? ⟨w2.heap.size,4,none⟩=false:=Ad hx3 4;have sf5:W3.frozen? ⟨w2.heap.size,5,none⟩=false:=Ad hx3 5;have d1:=HZ2.out.tx.cells.2;have d2:=HZ3.out.tx.cells.2;clear hx3 HQ HZ2 HZ3;obtain⟨bt,hbt⟩:=xj w2.heap.size;rw[hbt]at HRt s0 sf0 s1 sf1 s2 sf2 s3 sf3 s4 sf4 s5 sf5;go_wp2_with fail;go_region;obtain⟨W4,hW4⟩:=xj ((((((W3.setCell ⟨bt,0,none⟩ (uw tm.sp)).setCell ⟨bt,1,none⟩ (ui tm.sl)).setCell ⟨bt,2,none⟩ (uw tm.mp)).setCell ⟨bt,3,none⟩ (ui tm.ml)).setCell ⟨bt,4,none⟩ (sd tm.prim)).setCell ⟨bt,5,none⟩ (.slice tm.sv.1 tm.sv.2.1 tm.sv.2.2)).drew;rw[hW4]at HRt|-;clear hW4 hW3 hbt d1 d2 q0 q1 q2 q3 u0 u1 v0 v1 s0 sf0 s1 sf1 s2 sf2 s3 sf3 s4 sf4 s5 sf5;have s2:ce W4 bt 2 (uw tm.mp):=Aa HRt.out.bx rfl;have s3:ce W4 bt 3 (ui tm.ml):=Aa HRt.out.bx rfl;obtain⟨y0,y1⟩:=bk2 HRt.out.rz.k5;obtain⟨W5,hW5⟩:=xj (W4.alloc (.cells #[uw tm.mp,ui tm.ml,uw mp,ui ml] 38));have HR5:Hid (Rt B p pm hb t m w b4 b5 bt c n mp ml tm W5):=by rw[<-hW5];exact HRt.out.on (al _)
   have hx5:W5.heap[W4.heap.size]?=some (.cells #[uw tm.mp,ui tm.ml,uw mp,ui ml] 38 (0,0)):=by rw[<-hW5];exact ae W4 _
   have CX:Hid (1=1->_):=λ_=>CM.out W4.heap.size W5 bt (gsz hx5) HR5 hx5;clear hx5 CM HRt HR5;go_wp2_with fail;refine(CX.out (by trivial)).mono ?_;rintro e w6 ⟨rfl,HR6⟩;have x2:ce w6 bt 2 (uw tm.mp):=Aa HR6.out.bx rfl;have x3:ce w6 bt 3 (ui tm.ml):=Aa HR6.out.bx rfl;have f2:=Ad HR6.out.bx 2;have f3:=Ad HR6.out.bx 3;have HR7:Hid _:=HR6.out.put a1 a2;obtain⟨W7,hW7⟩:=xj ((w6.setCell ⟨bt,2,none⟩ (uw a1)).setCell ⟨bt,3,none⟩ (ui a2));rw[hW7]at HR7;obtain⟨w8,hrun,HEnd⟩:=HU.out bt W7.drew (HR7.out.on (aj _ _).drew);have zt0:=bk6 HR7.out.bx;obtain⟨u0,u1⟩:=bk2 HR7.out.rz.k4;have d1:=HR7.out.rz.tx.cells.2;clear CX s2 s3 y0 y1 hW5 HR6 HR7 HU;go_wp2_with fail;go_region;go_wp2_with fail;go_ret;exact⟨rfl,HEnd.out⟩
structure L4(B p pm hb:Nat)(t:Tr)(m:Mm)(w:World)(b6 b7 b8 b9:Nat)(c n sp sl mp ml:Int)(W:World):Prop where
 tx:Tx B p pm hb t m W
 bel:Bw w W
 k6:W.heap[b6]?=some (.cells #[pz p] 85 (0,0))
 k7:W.heap[b7]?=some (.cells #[ui c,ui n] 36 (0,0))
 k8:W.heap[b8]?=some (.cells #[uw sp,ui sl] 38 (0,0))
 k9:W.heap[b9]?=some (.cells #[uw mp,ui ml] 38 (0,0))
def L4.on{B p pm hb:Nat}{t:Tr}{m:Mm}{w W W':World}{b6 b7 b8 b9:Nat}{c n sp sl mp ml:Int}(h:L4 B p pm hb t m w b6 b7 b8 b9 c n sp sl mp ml W)(hb':Bw W W'):L4 B p pm hb t m w b6 b7 b8 b9 c n sp sl mp ml W':=
 ⟨h.tx.on hb',h.bel.trans (hb'.mono h.bel.size),by rw[hb'.block _ (gsz h.k6)];exact h.k6,by rw[hb'.block _ (gsz h.k7)];exact h.k7,by rw[hb'.block _ (gsz h.k8)];exact h.k8,by rw[hb'.block _ (gsz h.k9)];exact h.k9⟩
structure Lz(B p pm hb:Nat)(t0:Tr)(m:Mm)(w:World)(b6 b7 b8 b9:Nat)(c n sp sl mp ml:Int)(v:Value)(L:List Wr)(C:Kv Cv)(kv:Value)(K:List Bi)(t:Tr)(W:World):Prop where
 tx:Tx B p pm hb t m W
 el:t.toL=C
 sub:∀i,C9 pm t i->C9 pm t0 i\/w.heap.size<=i
 kp:Kept (D5 p pm hb t0 m) w W
 k6:W.heap[b6]?=some (.cells #[pz p] 85 (0,0))
 k7:W.heap[b7]?=some (.cells #[ui c,ui n] 36 (0,0))
 k8:W.heap[b8]?=some (.cells #[uw sp,ui sl] 38 (0,0))
 k9:W.heap[b9]?=some (.cells #[uw mp,ui ml] 38 (0,0))
 bn:∀i,(i=b6\/i=b7\/i=b8\/i=b9)->¬C9 pm t i/\w.heap.size<=i
 ws:WsAt W.heap.size v L W
 wn:0<L.length->∀k,v.ownBlock=some k->¬C9 pm t k/\k<w.heap.size
 row:W.ownsRow w.heap.size 9 1 kv K.length (kc K)
 rn:∀k,kv.ownBlock=some k->¬C9 pm t k/\¬(k=b6\/k=b7\/k=b8\/k=b9)
 old:∀i,(i=p\/i=hb\/∃x∈m,(svV x.2).ownBlock=some i)->i<w.heap.size
def Lz.on{B p pm hb:Nat}{t0 t:Tr}{m:Mm}{w W W':World}{b6 b7 b8 b9:Nat}{c n sp sl mp ml:Int}{v:Value}{L:List Wr}{C:Kv Cv}{kv:Value}{K:List Bi}(h:Lz B p pm hb t0 m w b6 b7 b8 b9 c n sp sl mp ml v L C kv K t W)(hb':Bw W W'):Lz B p pm hb t0 m w b6 b7 b8 b9 c n sp sl mp ml v L C kv K t W':=
 ⟨h.tx.on hb',h.el,h.sub,h.kp.trans (Kept.of_below (F:=λ_=>False) hb') (λ_ e=>e.elim),by rw[hb'.block _ (gsz h.k6)];exact h.k6,by rw[hb'.block _ (gsz h.k7)];exact h.k7,by rw[hb'.block _ (gsz h.k8)];exact h.k8,by rw[hb'.block _ (gsz h.k9)];exact h.k9,h.bn,RwAt.le (h.ws.on hb') hb'.size,h.wn,Jy h.row hb',h.rn,h.old⟩
def ayp{B p pm hb:Nat}{t0 t:Tr}{m:Mm}{w W:World}{b6 b7 b8 b9:Nat}{c n sp sl mp ml:Int}{v:Value}{L:List Wr}{C:Kv Cv}{kv:Value}{K:List Bi}(h:Lz B p pm hb t0 m w b6 b7 b8 b9 c n sp sl mp ml v L C kv K t W)(hl:C.length<100000)(x:Wr):cpr 115 #[pz pm,sd x.key,.agg #[ui c,ui n,sd x.key,sd x.val,.bool x.dead]] W λe w'=>e=.returned (.tuple #[])/\Kept (C9 pm t) W w'/\∃t',Lz B p pm hb t0 m w b6 b7 b8 b9 c n sp sl mp ml v L (setF x.key ((c,n),x) C) kv K t' w':=by
 refine(aof x.key ((c,n),x) h.tx.map (by rw[h.el];exact hl)).mono ?_;rintro e w' ⟨rfl,hp⟩;obtain⟨t',he,ht,hk,hn⟩:=h.tx.claims hp;rw[h.el]at he;have hs:=h.kp.size;have new:∀k,k<W.heap.size->¬C9 pm t k->¬C9 pm t' k:=λk h1 h2 h3=>by
  rcases hn k h3 with e|e
  .exact h2 e
  .omega
 have l6:=(gsz h.k6);have l7:=(gsz h.k7);have l8:=(gsz h.k8);have l9:=(gsz h.k9);refine⟨rfl,hk,t',ht,he,λi hi=>?_,h.kp.trans hk (λi hi=>?_),?_,?_,?_,?_,λi e=>?_,?_,λh0 k e=>?_,Gt h.row hk (λk e=>(h.rn k e).1),λk e=>?_,h.old⟩
 .rcases hn i hi with e|e
  .exact h.sub i e
  .exact .inr (ak hs e)
 .rcases h.sub i hi with e|e
  .exact .inl (.inr (.inr (.inl e)))
  .exact .inr e
 .rw[hk.block _ l6 (h.bn _ (.inl rfl)).1];exact h.k6
 .rw[hk.block _ l7 (h.bn _ (.inr (.inl rfl))).1];exact h.k7
 .rw[hk.block _ l8 (h.bn _ (.inr (.inr (.inl rfl)))).1];exact h.k8
 .rw[hk.block _ l9 (h.bn _ (.inr (.inr (.inr rfl)))).1];exact h.k9
 .obtain⟨a1,a2⟩:=h.bn i e;refine⟨new i ?_ a1,a2⟩;rcases e with rfl|rfl|rfl|rfl<;>assumption
 .exact J5 h.ws hk (λh0 k e=>(h.wn h0 k e).1)
 .obtain⟨a1,a2⟩:=h.wn h0 k e;exact⟨new k (iy a2 hs) a1,a2⟩
 .obtain⟨a1,a2⟩:=h.rn k e;exact⟨new k (jm h.row k e).2 a1,a2⟩
def ayq{B p pm hb:Nat}{t0 t:Tr}{m:Mm}{w W W':World}{b6 b7 b8 b9:Nat}{c n sp sl mp ml:Int}{v:Value}{L:List Wr}{C:Kv Cv}{kv:Value}{K:List Bi}{kv':Value}{K':List Bi}(h:Lz B p pm hb t0 m w b6 b7 b8 b9 c n sp sl mp ml v L C kv K t W)(ho:W'.ownsRow w.heap.size 9 1 kv' K'.length (kc K'))(hg:W.grownBy W' kv.ownBlock)(hat:kv'.ownBlock=kv.ownBlock\/kv'.ownBlock=some W.heap.size):Lz B p pm hb t0 m w b6 b7 b8 b9 c n sp sl mp ml v L C kv' K' t W':=by
 have hk:=Ny hg;have hrl:∀k,kv.ownBlock=some k->w.heap.size<=k/\k<W.heap.size:=λk e=>jm h.row k e;have hs:=h.kp.size;have hft:∀i,D5 p pm hb t m i->¬kv.ownBlock=some i:=λi hi e=>by
  have h3:=(hrl i e).1;rcases hi with e2|e2|e2|e2
  .have:=h.old i (.inl e2);omega
  .have:=h.old i (.inr (.inl e2));omega
  .exact(h.rn i e).1 e2
  .have:=h.old i (.inr (.inr e2));omega
 have hbx:∀i,(i=b6\/i=b7\/i=b8\/i=b9)->¬kv.ownBlock=some i:=λi hi e=>(h.rn i e).2 hi;have hfl:∀i,C9 pm t i->i<W.heap.size:=λi hi=>(h.tx.lt (.inr (.inr (.inl hi)))).2;have l6:=(gsz h.k6);have l7:=(gsz h.k7);have l8:=(gsz h.k8);have l9:=(gsz h.k9);refine⟨h.tx.kept hk hft,h.el,h.sub,h.kp.trans hk (λi e=>.inr (hrl i e).1),?_,?_,?_,?_,h.bn,J5 h.ws hk (λh0 k e e2=>?_),h.wn,ho,λk e=>?_,h.old⟩
 .rw[hk.block _ l6 (hbx _ (.inl rfl))];exact h.k6
 .rw[hk.block _ l7 (hbx _ (.inr (.inl rfl)))];exact h.k7
 .rw[hk.block _ l8 (hbx _ (.inr (.inr (.inl rfl))))];exact h.k8
 .rw[hk.block _ l9 (hbx _ (.inr (.inr (.inr rfl))))];exact h.k9
 .have:=(h.wn h0 k e).2;have:=(hrl k e2).1;omega
 .rcases hat with e2|e2
  .rw[e2]at e;exact h.rn k e
  .rw[e2]at e;injection e with e;refine⟨λe3=>by have:=hfl k e3;omega,λe3=>?_⟩;rcases e3 with e3|e3|e3|e3<;>omega
def apw{B p pm hb:Nat}{t:Tr}{m:Mm}{w W:World}{b6 b7 b8 b9:Nat}{c n sp sl mp ml:Int}{v:Value}{L:List Wr}(h0:Tx B p pm hb t m w)(h:L4 B p pm hb t m w b6 b7 b8 b9 c n sp sl mp ml W)(hb4:w.heap.size<=b6/\w.heap.size<=b7/\w.heap.size<=b8/\w.heap.size<=b9)(hv:WsAt w.heap.size v L w)(hn:0<L.length->∀k,v.ownBlock=some k->¬D5 p pm hb t m k):
  Lz B p pm hb t m w b6 b7 b8 b9 c n sp sl mp ml v L t.toL sy [] t W:=by
 have hlt:∀i,D5 p pm hb t m i->i<w.heap.size:=λi hi=>(h0.lt hi).2;refine⟨h.tx,rfl,λi e=>.inl e,Kept.of_below h.bel,h.k6,h.k7,h.k8,h.k9,λi e=>?_,RwAt.le (hv.on h.bel) h.bel.size,λhp k e=>?_,Ip _ _ _ _,λk e=>(by cases e),λi e=>hlt i ?_⟩
 .have hi:w.heap.size<=i:=by rcases e with rfl|rfl|rfl|rfl<;>omega
  exact⟨λe2=>by have:=hlt i (.inr (.inr (.inl e2)));omega,hi⟩
 .refine⟨λe2=>hn hp k e (.inr (.inr (.inl e2))),?_⟩;obtain⟨ao,cap,rfl,_,h2,_,h3⟩:=hv;obtain⟨b,off,rfl,h4,_⟩:=h3 (by omega);injection e with e;simp only at e;rw[<-e];exact h4 hp
 .rcases e with e|e|e
  .exact .inl e
  .exact .inr (.inl e)
  .exact .inr (.inr (.inr e))
def ayo{B p pm hb:Nat}{t0 t:Tr}{m:Mm}{w W W1:World}{b6 b7 b8 b9:Nat}{c n sp sl mp ml:Int}{v:Value}{L:List Wr}{C:Kv Cv}{g cap nK:Nat}{K:List Bi}(prim:Bi)(hnK:K.length=nK){T':Tb}(h:Lz B p pm hb t0 m w b6 b7 b8 b9 c n sp sl mp ml v L C (.slice (some ⟨g,0,none⟩) nK cap) K t W)(hk:Kept (λi=>i=g) W W1)(hrow:RwAt W1.heap.size 1 (.slice (some ⟨g,0,none⟩) nK cap) nK (kc (srtK K)) W1)(htg:∃cs,W1.heap[g]?=some (.cells cs 9 (0,0)))(hp:0<nK)(hB:B<=w.heap.size)(hr:Rel C (setM (c,n) ⟨sp,sl,mp,ml,prim,(some ⟨g,0,none⟩,nK,cap),srtK K⟩ m) T'):
  W1.heap[b6]?=some (.cells #[pz p] 85 (0,0))/\W1.heap[b7]?=some (.cells #[ui c,ui n] 36 (0,0))/\W1.heap[b8]?=some (.cells #[uw sp,ui sl] 38 (0,0))/\W1.heap[b9]?=some (.cells #[uw mp,ui ml] 38 (0,0))/\ce W1 p 1 (.map (some hb))/\∃w',(Instr.mapUpdate 124 (.map (some hb)) (.agg #[ui c,ui n]) (.agg #[uw sp,ui sl,uw mp,ui ml,sd prim,.slice (some ⟨g,0,none⟩) nK cap])).run Tryz.prog W1.drew=.ok () w'/\∃M',TabAt B p M' T' w'/\Kept (D5 p pm hb t0 m) w w'/\∀i,M' i->D5 p pm hb t0 m i\/w.heap.size<=i:=by
 subst hnK;have hgl:=jm h.row g rfl;have hrn:=h.rn g rfl;have l6:=(gsz h.k6);have l7:=(gsz h.k7);have l8:=(gsz h.k8);have l9:=(gsz h.k9);have hold:∀i,(i=p\/i=hb\/∃x∈m,(svV x.2).ownBlock=some i)->i≠g:=λi e e2=>by have:=h.old i e;omega
 have tx1:Tx B p pm hb t m W1:=h.tx.kept hk (λi hi e=>by
  rcases hi with e2|e2|e2|e2
  .exact hold i (.inl e2) e
  .exact hold i (.inr (.inl e2)) e
  .exact hrn.1 (e▸e2)
  .exact hold i (.inr (.inr e2)) e)
 have txd:Tx B p pm hb t m W1.drew:=tx1.on (aj _ _).drew;obtain⟨w',hrun,hgm,hku⟩:=ai9 txd.gm (c,n) ⟨sp,sl,mp,ml,prim,(some ⟨g,0,none⟩,K.length,cap),srtK K⟩;refine⟨by rw[hk.block _ l6 (λe=>hrn.2 (.inl e.symm))];exact h.k6,by rw[hk.block _ l7 (λe=>hrn.2 (.inr (.inl e.symm)))];exact h.k7,by rw[hk.block _ l8 (λe=>hrn.2 (.inr (.inr (.inl e.symm))))];exact h.k8,by rw[hk.block _ l9 (λe=>hrn.2 (.inr (.inr (.inr e.symm))))];exact h.k9,tx1.cells.2,w',hrun,D5 p pm hb t (setM (c,n) ⟨sp,sl,mp,ml,prim,(some ⟨g,0,none⟩,K.length,cap),srtK K⟩ m),⟨pm,hb,t,_,txd.terms hgm hku (λx hx=>?_),by rw[h.el];exact hr,rfl⟩,(h.kp.trans hk (λi e=>.inr (by rw[e];exact hgl.1))).trans (Kept.trans (F:=λi=>i=hb) (Kept.of_below (aj W1.heap.size W1).drew) hku (λi e=>.inl e)) (λi e=>.inl (.inr (.inl e))),Xl h.sub (λx hx i e=>?_)⟩
 .rcases Q4 hx with rfl|e
  .refine .inr ⟨?_,by show 0<(srtK K).length;rw[U0];exact hp,λi e=>?_,λi e=>?_⟩
   .show RwAt W1.drew.heap.size 1 (.slice (some ⟨g,0,none⟩) K.length cap) (srtK K).length (kc (srtK K)) W1.drew;rw[U0];exact hrow
   .injection e with e;simp only at e;subst e;exact⟨λe2=>hold _ (.inl e2) rfl,λe2=>hrn.1 (.inl e2),λe2=>hold _ (.inr (.inl e2)) rfl,λe2=>hrn.1 (.inr e2),ak hB hgl.1,iy hgl.2 hk.size⟩
   .injection e with e;simp only at e;subst e;exact htg
  .exact .inl ⟨x,e,rfl,rfl⟩
 .rcases Q4 hx with rfl|e2
  .injection e with e;simp only at e;exact .inr (by rw[<-e];exact hgl.1)
  .exact .inl ⟨x,e2,e⟩
def L4.cs{B p pm hb:Nat}{t:Tr}{m:Mm}{w W:World}{b6 b7 b8 b9:Nat}{c n sp sl mp ml:Int}(h:L4 B p pm hb t m w b6 b7 b8 b9 c n sp sl mp ml W):ce W b6 0 (pz p)/\ce W b7 0 (ui c)/\ce W b7 1 (ui n)/\ce W b8 0 (uw sp)/\ce W b8 1 (ui sl)/\ce W b9 0 (uw mp)/\ce W b9 1 (ui ml):=⟨Aa h.k6 rfl,Aa h.k7 rfl,Aa h.k7 rfl,Aa h.k8 rfl,Aa h.k8 rfl,Aa h.k9 rfl,Aa h.k9 rfl⟩
def Va{r:Bool}{c n sp sl mp ml:Int}{prim:Bi}{L:List Wr}{T:Tb}(h:(Bf L&&r)=false):layF r c n sp sl mp ml prim L T=(T,1):=by unfold layF;rw[h];rfl
def ab5{r:Bool}{c n sp sl mp ml:Int}{prim:Bi}{L:List Wr}{T:Tb}(h:(Bf L&&r)=true)(h2:((byF c n T).isEmpty&&L.all (λw=>(getF w.key T).isNone))=false):layF r c n sp sl mp ml prim L T=(T,40):=by unfold layF;rw[h,h2];rfl
def al2{r:Bool}{c n sp sl mp ml:Int}{prim:Bi}{L:List Wr}{T:Tb}(h:(Bf L&&r)=true)(h2:((byF c n T).isEmpty&&L.all (λw=>(getF w.key T).isNone))=true):layF r c n sp sl mp ml prim L T=(Gj (mkI c n sp sl mp ml prim) L T,0):=by unfold layF;rw[h,h2];rfl
def Ud(b:Nat)(w:World):(binOp .eql 124 (.map (some b)) (.map none)).run Tryz.prog w=.ok (.bool false) w:=by have e:=run_equal_map_nil (P:=Tryz.prog) w 124 36 208 (some b) Tryz.underlying124;simp[binOp,e,Result.andThen]
def akp{L:List Wr}{q:Nat}(h:q<L.length):L.take (q+1)=L.take q++[L.getD q dw]:=by rw[jk h];simp[List.getD,h]
def lyT{P:Prop}(z:P:=by
 rw[hF];have HS2:Hid (∀W,L4 B p pm hb t m w b6 b7 b8 b9 c n sp sl mp ml W->∃M',TabAt B p M' T W/\Kept (D5 p pm hb t m) w W/\∀i,M' i->D5 p pm hb t m i\/w.heap.size<=i):=HSt;clear hF HSt HS0;generalize D5 p pm hb t m=F at*;go_enter Tryz.func48,Tryz.ntmps48;go_wp2_with fail;refine(CR.out _ HZ).mono ?_;rintro e w1 ⟨rfl,HZ1⟩;clear hW1 hW2 hW3 hW4 hb6 hb7 hb8 hb9 d1;clear y6;have y6:=HZ1.out.cs;clear HZ CR;go_wp2_with fail;first
 |(go_ret;exact⟨rfl,HS2.out _ HZ1.out⟩)
 |(
    refine(CS.out _ HZ1).mono ?_;rintro e w2 ⟨rfl,HZ2⟩;clear y6;have y6:=HZ2.out.cs;clear HZ1 CS;go_wp2_with fail;first
    |(go_ret;exact⟨rfl,HS2.out _ HZ2.out⟩)
    |(
    refine(CM.out _ HZ2).mono ?_;rintro e w3 ⟨rfl,HZ3⟩;clear y6;have y6:=HZ3.out.cs;clear HZ2 CM;go_wp2_with fail;first
    |(go_ret;exact⟨rfl,HS2.out _ HZ3.out⟩)
    |(
       refine(CK.out _ HZ3).mono ?_;rintro e w4 ⟨rfl,HZ4⟩;clear y6;have y6:=HZ4.out.cs;clear HZ3 CK;go_wp2_with fail;first
       |(go_ret;exact⟨rfl,HS2.out _ HZ4.out⟩)
       |(
       refine(CH.out _ HZ4).mono ?_;rintro e w5 ⟨rfl,HZ5⟩;clear y6;have y6:=HZ5.out.cs;clear HZ4 CH;go_wp2_with fail;first
       |(go_ret;exact⟨rfl,HS2.out _ HZ5.out⟩)
       |(
          refine(CC.out _ HZ5).mono ?_;rintro e w6 ⟨rfl,HZ6⟩;clear y6;have y6:=HZ6.out.cs;clear HZ5 CC;go_wp2_with fail;go_ret;exact⟨rfl,HS2.out _ HZ6.out⟩)))))):P:=z
def lay10{B p pm hb:Nat}{t:Tr}{m:Mm}{T:Tb}{w:World}(c n sp sl mp ml:Int)(prim:Bi)(L:List Wr)(v:Value)(h:Tx B p pm hb t m w)(hr:Rel t.toL m T)(hl:T.length<10000)(hv:WsAt w.heap.size v L w)(hn:0<L.length->∀k,v.ownBlock=some k->¬D5 p pm hb t m k)(hst:0<=mp/\0<=ml):
  cpr 48 #[pz p,.agg #[ui c,ui n],.agg #[uw sp,ui sl],.agg #[uw mp,ui ml],sd prim,v] w λe w'=>e=.returned (iw (layF (Ag sp sl&&Ag mp ml&&kOk prim) c n sp sl mp ml prim L T).2)/\∃M',TabAt B p M' (layF (Ag sp sl&&Ag mp ml&&kOk prim) c n sp sl mp ml prim L T).1 w'/\Kept (D5 p pm hb t m) w w'/\∀i,M' i->D5 p pm hb t m i\/w.heap.size<=i:=by
 obtain⟨W1,hW1⟩:=xj (w.alloc (.cells #[pz p] 85));obtain⟨W2,hW2⟩:=xj (W1.alloc (.cells #[ui c,ui n] 36));obtain⟨W3,hW3⟩:=xj (W2.alloc (.cells #[uw sp,ui sl] 38));obtain⟨W4,hW4⟩:=xj (W3.alloc (.cells #[uw mp,ui ml] 38));obtain⟨b6,hb6⟩:=xj w.heap.size;obtain⟨b7,hb7⟩:=xj W1.heap.size;obtain⟨b8,hb8⟩:=xj W2.heap.size;obtain⟨b9,hb9⟩:=xj W3.heap.size;have HZ:Hid (L4 B p pm hb t m w b6 b7 b8 b9 c n sp sl mp ml W4):=by
  have c1:Bw w W1:=by rw[<-hW1];exact al _
  have c2:Bw W1 W2:=by rw[<-hW2];exact al _
  have c3:Bw W2 W3:=by rw[<-hW3];exact al _
  have c4:Bw W3 W4:=by rw[<-hW4];exact al _
  have x1:W1.heap[w.heap.size]?=some (.cells #[pz p] 85 (0,0)):=by rw[<-hW1];exact ae w _
  have x2:W2.heap[W1.heap.size]?=some (.cells #[ui c,ui n] 36 (0,0)):=by rw[<-hW2];exact ae W1 _
  have x3:W3.heap[W2.heap.size]?=some (.cells #[uw sp,ui sl] 38 (0,0)):=by rw[<-hW3];exact ae W2 _
  have x4:W4.heap[W3.heap.size]?=some (.cells #[uw mp,ui ml] 38 (0,0)):=by rw[<-hW4];exact ae W3 _
  have on:∀{U V:World} {b:Nat} {o:Obj},Bw U V->U.heap[b]?=some o->V.heap[b]?=some o:=λhb' e=>by rw[hb'.block _ (gsz e)];exact e
  have tx4:=(((h.on c1).on c2).on c3).on c4;have d2:=c1.trans (c2.mono c1.size);have d3:=d2.trans (c3.mono d2.size);have d4:=d3.trans (c4.mono d3.size);rw[hb6]at x1;rw[hb7]at x2;rw[hb8]at x3;rw[hb9]at x4;exact⟨tx4,d4,on c4 (on c3 (on c2 x1)),on c4 (on c3 x2),on c4 x3,x4⟩
 have HLow:Hid (w.heap.size<=b6/\w.heap.size<=b7/\w.heap.size<=b8/\w.heap.size<=b9):=by
  have c1:Bw w W1:=by rw[<-hW1];exact al _
  have c2:Bw W1 W2:=by rw[<-hW2];exact al _
  have c3:Bw W2 W3:=by rw[<-hW3];exact al _
  have:=c1.size;have:=c2.size;have:=c3.size;exact⟨by omega,by omega,by omega,by omega⟩
 have d1:=HZ.out.tx.cells.2;have qn:=Ud hb;have y6:=HZ.out.cs;have HSt:Hid (∀W,L4 B p pm hb t m w b6 b7 b8 b9 c n sp sl mp ml W->∃M',TabAt B p M' T W/\Kept (D5 p pm hb t m) w W/\∀i,M' i->D5 p pm hb t m i\/w.heap.size<=i):=λW hW=>⟨_,⟨pm,hb,t,m,hW.tx,hr,rfl⟩,Kept.of_below hW.bel,λi hi=>.inl hi⟩;have HS0:Hid (∀W,L4 B p pm hb t m w b6 b7 b8 b9 c n sp sl mp ml W->Lz B p pm hb t m w b6 b7 b8 b9 c n sp sl mp ml v L t.toL sy [] t W):=λW hW=>apw h hW HLow.out hv hn;have CR:Hid (∀W,Hid (L4 B p pm hb t m w b6 b7 b8 b9 c n sp sl mp ml W)->cpr 108 #[v] W λe w'=>e=.returned (.bool (Bf L))/\Hid (L4 B p pm hb t m w b6 b7 b8 b9 c n sp sl mp ml w')):=λW hW=>by refine(Sm w.heap.size L v W (hv.on hW.out.bel) hW.out.bel.size).mono ?_;rintro e w' ⟨rfl,hb'⟩;exact⟨rfl,hW.out.on hb'⟩
 have CS:Hid (∀W,Hid (L4 B p pm hb t m w b6 b7 b8 b9 c n sp sl mp ml W)->cpr 109 #[.agg #[uw sp,ui sl]] W λe w'=>e=.returned (.bool (Ag sp sl))/\Hid (L4 B p pm hb t m w b6 b7 b8 b9 c n sp sl mp ml w')):=λW hW=>by refine(Jb sp sl W).mono ?_;rintro e w' ⟨rfl,hb'⟩;exact⟨rfl,hW.out.on hb'⟩
 have CM:Hid (∀W,Hid (L4 B p pm hb t m w b6 b7 b8 b9 c n sp sl mp ml W)->cpr 109 #[.agg #[uw mp,ui ml]] W λe w'=>e=.returned (.bool (Ag mp ml))/\Hid (L4 B p pm hb t m w b6 b7 b8 b9 c n sp sl mp ml w')):=λW hW=>by refine(Jb mp ml W).mono ?_;rintro e w' ⟨rfl,hb'⟩;exact⟨rfl,hW.out.on hb'⟩
 have CK:Hid (∀W,Hid (L4 B p pm hb t m w b6 b7 b8 b9 c n sp sl mp ml W)->cpr 110 #[sd prim] W λe w'=>e=.returned (.bool (kOk prim))/\Hid (L4 B p pm hb t m w b6 b7 b8 b9 c n sp sl mp ml w')):=λW hW=>by refine(aj2 prim W).mono ?_;rintro e w' ⟨rfl,rfl⟩;exact⟨rfl,hW⟩
 have CH:Hid (∀W,Hid (L4 B p pm hb t m w b6 b7 b8 b9 c n sp sl mp ml W)->cpr 111 #[pz p,.agg #[ui c,ui n]] W λe w'=>e=.returned (.bool (getM (c,n) m).isSome)/\Hid (L4 B p pm hb t m w b6 b7 b8 b9 c n sp sl mp ml w')):=λW hW=>by refine(aww c n hW.out.tx).mono ?_;rintro e w' ⟨rfl,hb'⟩;exact⟨rfl,hW.out.on hb'⟩
 have CC:Hid (∀W,Hid (L4 B p pm hb t m w b6 b7 b8 b9 c n sp sl mp ml W)->cpr 112 #[v,.func (.func 113) #[] #[pz b6]] W λe w'=>e=.returned (.bool (L.any λx=>(getF x.key T).isSome))/\Hid (L4 B p pm hb t m w b6 b7 b8 b9 c n sp sl mp ml w')):=λW hW=>by
  refine(aee 113 #[pz b6] (λx=>(getF x.key T).isSome) L v W (RwAt.le (hv.on hW.out.bel) hW.out.bel.size) ent31 (λx W2 hb2=>?_)).mono ?_
  .exact lay31 x b6 (hW.out.tx.on hb2) hr (Aa (by rw[hb2.block _ (gsz hW.out.k6)];exact hW.out.k6) rfl)
  .rintro e w' ⟨rfl,hb'⟩;exact⟨rfl,hW.out.on hb'⟩
 obtain⟨va,vc,hve,hvl,hvm⟩:=hv.shape;obtain⟨r,hrr⟩:=xj (Ag sp sl&&Ag mp ml&&kOk prim);rw[hrr];have HB0:Hid (B<=w.heap.size):=by have:=h.lt (i:=p) (.inl rfl);exact ak this.1 (og this.2)
 clear h hv hn;cases h1:Bf L with
 |false=>
  rw[h1]at CR;subst hve;have hF:layF r c n sp sl mp ml prim L T=(T,1):=by exact Va (by rw[h1];rfl)
  exact lyT
 |true=>
  rw[h1]at CR;cases h2:Ag sp sl with
  |false=>
   rw[h2]at CS;subst hve;have hF:layF r c n sp sl mp ml prim L T=(T,1):=by exact Va (by rw[<-hrr,h1,h2];rfl)
   exact lyT
  |true=>
   rw[h2]at CS;cases h3:Ag mp ml with
   |false=>
    rw[h3]at CM;subst hve;have hF:layF r c n sp sl mp ml prim L T=(T,1):=by exact Va (by rw[<-hrr,h1,h2,h3];rfl)
    exact lyT
   |true=>
    rw[h3]at CM;cases h4:kOk prim with
    |false=>
     rw[h4]at CK;subst hve;have hF:layF r c n sp sl mp ml prim L T=(T,1):=by exact Va (by rw[<-hrr,h1,h2,h3,h4];rfl)
     exact lyT
    |true=>
     rw[h4]at CK;have hrt:(Bf L&&r)=true:=by rw[<-hrr,h1,h2,h3,h4];rfl
     have hsome:=hr.isSome c n;cases hg:getM (c,n) m with
     |some tm=>
      rw[hg]at CH hsome;have hne:(byF c n T).isEmpty=false:=by
       cases hb:byF c n T with
       |nil=>rw[hb]at hsome;simp at hsome
       |cons x y=>rfl
      simp only[Option.isSome_some]at CH;subst hve;have hF:layF r c n sp sl mp ml prim L T=(T,40):=by exact ab5 hrt (by rw[hne];rfl)
      exact lyT
     |none=>
      rw[hg]at CH hsome;have hne:byF c n T=[]:=by
       cases hb:byF c n T with
       |nil=>rfl
       |cons x y=>rw[hb]at hsome;simp at hsome
      simp only[Option.isSome_none]at CH;cases h6:L.any λx=>(getF x.key T).isSome with
      |true=>
       rw[h6]at CC;have hal:(L.all λw=>(getF w.key T).isNone)=false:=by
        cases hh:L.all λw=>(getF w.key T).isNone with
        |false=>rfl
        |true=>
         rw[List.any_eq_true]at h6;obtain⟨x,hx,hs⟩:=h6;rw[xg]at hh;have:=hh x hx;rw[Option.isNone_iff_eq_none]at this;rw[this]at hs;cases hs
       subst hve;have hF:layF r c n sp sl mp ml prim L T=(T,40):=by exact ab5 hrt (by rw[hal,Bool.and_false])
       exact lyT
      |false=>
       rw[h6]at CC;have hnew:NewK L T:=λx hx=>by
        rw[List.any_eq_false]at h6;have:=h6 x hx;cases hx2:getF x.key T with
        |none=>rfl
        |some u=>rw[hx2]at this;simp at this
       have hal:(L.all λw=>(getF w.key T).isNone)=true:=by rw[xg];intro x hx;rw[hnew x hx];rfl
       have hF:layF r c n sp sl mp ml prim L T=(Gj (mkI c n sp sl mp ml prim) L T,0):=al2 hrt (by rw[hne,hal];rfl);rw[hF];obtain⟨-,-,hL1,hL16⟩:=Jc h1;have HRel:Hid (∀sv,Rel (Jk (c,n) L t.toL) (setM (c,n) ⟨sp,sl,mp,ml,prim,sv,srtK (L.map (·.key))⟩ m) (Gj (mkI c n sp sl mp ml prim) L T)):=λsv=>hr.lay hg h1 hnew hst;have HCl:Hid (∀q,q<=L.length->(Jk (c,n) (L.take q) t.toL).length<100000):=λq hq=>by have h5:=ab8 (k:=(c,n)) (l:=L.take q) hr.srt;have h7:=hr.len;rw[ig]at h5;omega
       have HSn:Hid (∀q,q<L.length->Jk (c,n) (L.take (q+1)) t.toL=setF (L.getD q dw).key ((c,n),L.getD q dw) (Jk (c,n) (L.take q) t.toL)/\(L.take (q+1)).map (·.key)=(L.take q).map (·.key)++[(L.getD q dw).key]):=λq hq=>by rw[akp hq];exact⟨aal _ _ _ _,by simp⟩
       have HBw:Hid (B<=w.heap.size):=HB0.out;obtain⟨i0,hin9,hi0,hi1,hi2⟩:=qc info9;subst hve;clear hF hal hnew h6 hne hsome hg hrt h1 h2 h3 h4 hrr HSt hr hl hst;generalize Gj (mkI c n sp sl mp ml prim) L T=T' at*;generalize hLL:t.toL=L0 at*;clear hLL;go_enter Tryz.func48,Tryz.ntmps48;go_wp2_with fail;refine(CR.out _ HZ).mono ?_;rintro e w1 ⟨rfl,HZ1⟩;clear hW1 hW2 hW3 hW4 hb6 hb7 hb8 hb9 d1;clear y6;have y6:=HZ1.out.cs;clear HZ CR;go_wp2_with fail;refine(CS.out _ HZ1).mono ?_;rintro e w2 ⟨rfl,HZ2⟩;clear y6;have y6:=HZ2.out.cs;clear HZ1 CS;go_wp2_with fail;refine(CM.out _ HZ2).mono ?_;rintro e w3 ⟨rfl,HZ3⟩;clear y6;have y6:=HZ3.out.cs;clear HZ2 CM;go_wp2_with fail;refine(CK.out _ HZ3).mono ?_;rintro e w4 ⟨rfl,HZ4⟩;clear y6;have y6:=HZ4.out.cs;clear HZ3 CK;go_wp2_with fail;refine(CH.out _ HZ4).mono ?_;rintro e w5 ⟨rfl,HZ5⟩;clear y6;have y6:=HZ5.out.cs;clear HZ4 CH;go_wp2_with fail;refine(CC.out _ HZ5).mono ?_;rintro e w6 ⟨rfl,HZ6⟩;clear y6;have y6:=HZ6.out.cs;clear HZ5 CC;go_wp2_with fail;clear y6 qn;go_loopw [13,53] (λkv i wr=>∃q:Nat,q<=L.length/\i=iw q/\∃t',Lz B p pm hb t m w b6 b7 b8 b9 c n sp sl mp ml (.slice va L.length vc) L (Jk (c,n) (L.take q) L0) kv ((L.take q).map (·.key)) t' wr) (λ_ i _=>L.length-(intOf i).toNat)
       case atStart=>exact⟨0,eu _,rfl,t,HS0.out _ HZ6.out⟩
       case round=>
        obtain⟨q,hq,rfl,t',hlz⟩:=hrel;obtain⟨sa,sc,hkv,-,-,-,-⟩:=Bl hlz.row;have hKq:((L.take q).map (·.key)).length=q:=by rw[mr,ig];omega
        rw[hKq]at hkv;subst hkv;have HL:Hid _:=hlz;clear hlz HZ6 HS0;by_cases hql:q<L.length
        .obtain⟨b,off,rfl,e0,e1,e2⟩:=WsAt.el HL.out.ws hql;have hql':(q:Int)<L.length:=by omega
         have HQ:Hid (q+1<=L.length):=hql;obtain⟨hs1,hs2⟩:=HSn.out q hql;have HS1:Hid _:=hs1;have HS2:Hid _:=hs2;have hq16:q<16:=by omega
         clear hs1 hs2 hq HSn;generalize L.getD q dw=x at*;obtain⟨K,hK⟩:=xj ((L.take q).map (·.key));obtain⟨K1,hK1⟩:=xj ((L.take (q+1)).map (·.key));rw[hK]at HL HS2 hKq;rw[hK1]at HS2;have HKq:Hid (K.length=q):=hKq;have HK1:Hid ((L.take (q+1)).map (·.key)=K1):=hK1;clear hK hK1 hKq;obtain⟨Wa,hWa⟩:=xj (wr.alloc (.cells #[sd x.key,sd x.val,.bool x.dead] 106));have hxa:Wa.heap[wr.heap.size]?=some (.cells #[sd x.key,sd x.val,.bool x.dead] 106 (0,0)):=by rw[<-hWa];exact ae wr _
         have hba:Bw wr Wa:=by rw[<-hWa];exact al _
         have HLa:Hid (Lz B p pm hb t m w b6 b7 b8 b9 c n sp sl mp ml (.slice (some ⟨b,off,none⟩) L.length vc) L (Jk (c,n) (L.take q) L0) (.slice sa q sc) K t' Wa):=HL.out.on hba;have a0:ce Wa wr.heap.size 0 (sd x.key):=Aa hxa rfl;have a1:ce Wa wr.heap.size 1 (sd x.val):=Aa hxa rfl;have a2:ce Wa wr.heap.size 2 (.bool x.dead):=Aa hxa rfl;have y6:ce Wa b6 0 (pz p):=Aa HLa.out.k6 rfl;obtain⟨y70,y71⟩:=bk2 HLa.out.k7;have d0:=HLa.out.tx.cells.1;have CT:Hid (∀W,Sw Wa W->cpr 115 #[pz pm,sd x.key,.agg #[ui c,ui n,sd x.key,sd x.val,.bool x.dead]] W λe w'=>e=.returned (.tuple #[])/\Hid (ce w' b6 0 (pz p)/\ce w' b7 0 (ui c)/\ce w' b7 1 (ui n)/\ce w' p 0 (pz pm)/\ce w' wr.heap.size 0 (sd x.key)/\ce w' wr.heap.size 1 (sd x.val)/\ce w' wr.heap.size 2 (.bool x.dead))/\Hid (∃t',Lz B p pm hb t m w b6 b7 b8 b9 c n sp sl mp ml (.slice (some ⟨b,off,none⟩) L.length vc) L (Jk (c,n) (L.take (q+1)) L0) (.slice sa q sc) K t' w')):=λW hs=>by
          have hLW:=HLa.out.on (hs.below _);refine(ayp hLW (HCl.out q (by omega)) x).mono ?_;rintro e w' ⟨rfl,hk,t2,h2⟩;have hnb:¬C9 pm t' wr.heap.size:=λe=>by have:=(HL.out.tx.lt (.inr (.inr (.inl e)))).2;omega
          exact⟨rfl,⟨Aa h2.k6 rfl,Aa h2.k7 rfl,Aa h2.k7 rfl,h2.tx.cells.1,hk.cell ((hs.cell _).trans a0) hnb,hk.cell ((hs.cell _).trans a1) hnb,hk.cell ((hs.cell _).trans a2) hnb⟩,t2,by rw[HS1.out];exact h2⟩
         obtain⟨ba,hbaq⟩:=xj wr.heap.size;rw[hbaq]at a0 a1 a2 CT;have HSa:Hid (ce Wa b6 0 (pz p)/\ce Wa b7 0 (ui c)/\ce Wa b7 1 (ui n)/\ce Wa p 0 (pz pm)/\ce Wa ba 0 (sd x.key)/\ce Wa ba 1 (sd x.val)/\ce Wa ba 2 (.bool x.dead)):=⟨y6,y70,y71,d0,a0,a1,a2⟩;have HSd:Hid (ce Wa.drew b6 0 (pz p)/\ce Wa.drew b7 0 (ui c)/\ce Wa.drew b7 1 (ui n)/\ce Wa.drew p 0 (pz pm)/\ce Wa.drew ba 0 (sd x.key)/\ce Wa.drew ba 1 (sd x.val)/\ce Wa.drew ba 2 (.bool x.dead)):=HSa.out;clear hxa hba HL HLa HS1;go_wp2_with fail;go_region_held3 (λW=>ce W b6 0 (pz p)/\ce W b7 0 (ui c)/\ce W b7 1 (ui n)/\ce W p 0 (pz pm)/\ce W ba 0 (sd x.key)/\ce W ba 1 (sd x.val)/\ce W ba 2 (.bool x.dead)) (with_reducible first|exact HSa.out|exact HSd.out|exact HS7.out) (first
          |(go_at_call 115;refine(CT.out _ (Sw.drew (Sw.refl _))).mono ?_;rintro e w7 ⟨rfl,HS7,HL7⟩))
         rename_i hHeld;clear hHeld;have x0:=HS7.out.2.2.2.2.1;clear CT a0 a1 a2 y6 y70 y71 d0 hWa hbaq e0 e1 e2 HSa HSd HS7;obtain⟨t7,hl7⟩:=HL7.out;have HM:Hid _:=hl7;have HOw:Hid (Ow w.heap.size 9 1 (.slice sa q sc) q (kc K) (w7.heap.size+1) (.slice (some ⟨w7.heap.size,0,none⟩) 1 1) 1 (kc [x.key]) (w7.alloc (.cells #[sd x.key] 9))):=⟨o6 (by have:=hl7.row;rw[HKq.out]at this;exact this) _,adu w7 x.key,ady _,ak hl7.kp.size (by simp),by omega⟩;clear hl7 HL7;go_wp2_with (at_builtin;refine Ea HOw.out Tryz.underlying80 hin9 hi0 hi1 hi2 rfl (by decide) (by decide) (.tmp 67) (.tmp 70) rfl rfl rfl rfl ?_);intro v' w8 hown hgr hat;obtain⟨sa8,sc8,rfl,-,-,-,-⟩:=Bl hown;have HN:Hid (Lz B p pm hb t m w b6 b7 b8 b9 c n sp sl mp ml (.slice (some ⟨b,off,none⟩) L.length vc) L (Jk (c,n) (L.take (q+1)) L0) (.slice sa8 (q+1) sc8) K1 t7 w8):=by
          have hlen:K1.length=q+1:=by rw[HS2.out,af,HKq.out];rfl
          refine ayq (HM.out.on (al _)) ?_ hgr (by rw[Lt];exact hat);rw[hlen,HS2.out,Sz];exact hown
         clear hown hgr hat HOw HM x0;go_wp2_with fail;go_roundw
         case rel=>exact⟨q+1,HQ.out,by go_num,t7,by rw[HK1.out];exact HN.out⟩
         case measure=>simp[intOf];omega
        .have hql':¬(q:Int)<L.length:=by omega
         have hqL:L.take q=L:=ay (by omega);rw[hqL]at HL;rw[hqL]at hKq;obtain⟨K,hK⟩:=xj (L.map (·.key));rw[hK]at HL HRel hKq;have HKq:Hid (K.length=q):=hKq;have hq1:0<q:=by omega
         have hq17:q<17:=by omega
         clear hqL hq hK HSn HCl hKq;obtain⟨g,hg⟩:∃g,sa=some ⟨g,0,none⟩:=by
          rcases HL.out.row.2 with⟨e,e2⟩|⟨g,cap',cur,e,_⟩
          .rw[HKq.out]at e2;omega
          .simp only[ku]at e;exact⟨g,e.1⟩
         subst hg;have CSo:Hid (1=1->cpr 116 #[.slice (some ⟨g,0,none⟩) q sc] wr λe w'=>e=.returned (.tuple #[])/\Hid (RwAt w'.heap.size 1 (.slice (some ⟨g,0,none⟩) q sc) q (kc (srtK K)) w'/\Kept (λi=>i=g) wr w'/\∃cs,w'.heap[g]?=some (.cells cs 9 (0,0)))):=λ_=>by have hrow:=HL.out.row;have hso:=axn w.heap.size g sc K wr (by rw[HKq.out]at hrow|-;exact hrow) (by rw[HKq.out];omega);rw[HKq.out]at hso;refine Calls.mono hso ?_;rintro e w' ⟨rfl,h8,h9⟩;exact⟨rfl,h8,h9⟩
         go_wp2_with fail;refine(CSo.out (by trivial)).mono ?_;rintro e w7 ⟨rfl,HS7⟩;obtain⟨x6,x7,x8,x9,d1,w8,hrun,hend⟩:=ayo prim HKq.out HL.out HS7.out.2.1 HS7.out.1 HS7.out.2.2 hq1 HBw.out (HRel.out _);have HEnd:Hid _:=hend;have y6:ce w7 b6 0 (pz p):=Aa x6 rfl;obtain⟨y70,y71⟩:=bk2 x7;obtain⟨y80,y81⟩:=bk2 x8;obtain⟨y90,y91⟩:=bk2 x9;clear hend x6 x7 x8 x9 CSo HL HS7 HRel;go_wp2_with fail;go_region;go_wp2_with fail;go_ret;exact⟨rfl,HEnd.out⟩
def adg{w:World}{base e size n k:Nat}{v:Value}{cs:List Value}(h:w.ownsRow base e size v n cs)(hk:v.ownBlock=some k):∃c,w.heap[k]?=some (.cells c e (0,0)):=by
 exact bbp
def anu:Ifl TabAt where
 lt:=by rintro B p M T w ⟨pm,hb,t,m,h,_,rfl⟩ k hk;exact h.lt hk
 keep:=by rintro B p M G T w w' ⟨pm,hb,t,m,h,hr,rfl⟩ hk hM;exact⟨pm,hb,t,m,h.kept hk hM,hr,rfl⟩
 ok:=by rintro B p M T w ⟨pm,hb,t,m,_,hr,_⟩;exact hr.ok
 new:=new9
 right:=Sm
 lay:=by rintro B p M T w c n sp sl mp ml prim L v ⟨pm,hb,t,m,h,hr,rfl⟩ hl hv hn hst;exact lay10 c n sp sl mp ml prim L v h hr hl hv hn hst
 cut:=by rintro B p M T w c n ⟨pm,hb,t,m,h,hr,rfl⟩ hl;refine(cut13 c n h hr hl).mono ?_;rintro e w' ⟨v',rfl,h1,h2,M',h3,h4,h5⟩;exact⟨v',M',rfl,h1,h2,h3,h4,h5⟩
 raise:=by rintro B p M T w c n mp ml ⟨pm,hb,t,m,h,hr,rfl⟩ _ hst;exact atl c n mp ml h hr hst
 first:=by rintro B p M T w lo hi ap aq but v ⟨pm,hb,t,m,h,hr,rfl⟩ hl hv;exact ava lo hi ap aq but v h hr hl hv
 of:=by rintro B p M T w k ⟨pm,hb,t,m,h,hr,rfl⟩ _;exact of19 k h hr
 by_:=by rintro B p M T w c n ⟨pm,hb,t,m,h,hr,rfl⟩ hl;refine(by21 c n h hr hl).mono ?_;rintro e w' ⟨v',rfl,ho,hb'⟩;exact⟨v',rfl,Bl ho,λk hk=>(jm ho k hk).1,hb'⟩
 all:=by rintro B p M T w ⟨pm,hb,t,m,h,hr,rfl⟩ hl;refine(all23 h hr hl).mono ?_;rintro e w' ⟨v',rfl,ho,hb'⟩;exact⟨v',rfl,Bl ho,λk hk=>⟨(jm ho k hk).1,adg ho hk⟩,hb'⟩
