import Derived.Deep.Trees
import Derived.Test.YtdplfgcoaddbdaaGreatXae
set_option maxHeartbeats 4000000
set_option maxRecDepth 100000
set_option linter.unusedVariables false
set_option linter.unusedSimpArgs false
namespace Go.Proofs.YtdplfgcoaddbdaaGreat.Sto
open Go.RowKit Go.Sort
theorem VsAt.el{B:Nat}{ao:Option Addr}{cap:Nat}{C:List Ve}{w:World}{k:Nat}(h:VsAt B (.slice ao C.length cap) C w)(hk:k<C.length):∃b off,ao=some ⟨b,off,none⟩/\b<B/\VeAt w b (off+k*6) (C.getD k dv):=by obtain⟨ao',cap',e,hl,hm,h⟩:=h;simp only[Value.slice.injEq]at e;obtain⟨rfl,_,rfl⟩:=e;obtain⟨b,off,rfl,hb,hc⟩:=h (by omega);exact⟨b,off,rfl,hb (by omega),hc k hk⟩
theorem VsAt.take{B:Nat}{ao:Option Addr}{cap:Nat}{C:List Ve}{w:World}(h:VsAt B (.slice ao C.length cap) C w){k:Nat}(hk:k<=C.length):VsAt B (.slice ao k cap) (C.take k) w:=by
 obtain⟨ao',cap',e,hl,hm,h⟩:=h;simp only[Value.slice.injEq]at e;obtain⟨rfl,_,rfl⟩:=e;have hlen:(C.take k).length=k:=by simp;omega
 refine⟨ao,cap,by rw[hlen],by omega,hm,fun h0=>?_⟩;obtain⟨b,off,rfl,hb,hc⟩:=h h0;refine⟨b,off,rfl,fun h1=>hb (by omega),fun i hi=>?_⟩;have e:(C.take k).getD i dv=C.getD i dv:=by simp[List.getD,show i<k by omega]
 rw[e];exact hc i (by omega)
theorem VsAt.drop{B:Nat}{ao:Option Addr}{cap:Nat}{C:List Ve}{w:World}(h:VsAt B (.slice ao C.length cap) C w){k:Nat}(hk:k<=C.length):VsAt B (.slice (if cap=k then ao else ao.map (·.add (k*6))) (C.length-k) (cap-k)) (C.drop k) w:=by
 obtain⟨ao',cap',e,hl,hm,h⟩:=h;simp only[Value.slice.injEq]at e;obtain⟨rfl,_,rfl⟩:=e;have hlen:(C.drop k).length=C.length-k:=by simp
 refine⟨_,cap-k,by rw[hlen],by omega,by omega,fun h0=>?_⟩;obtain⟨b,off,rfl,hb,hc⟩:=h (by omega);clear h;refine⟨b,off+k*6,?_,fun h1=>hb (by omega),fun i hi=>?_⟩
 ·rw[if_neg (by omega)];simp[Addr.add]
 ·have e:(C.drop k).getD i dv=C.getD (k+i) dv:=by simp[List.getD]
  rw[e];have:=hc (k+i) (by omega);rw[show off+k*6+i*6=off+(k+i)*6 from by omega];exact this
theorem putF_bad{C:List Ve}{x:Ve}(h:(rightC C&&vOk x)=false):putF C x=([],1):=by unfold putF;rw[h];rfl
theorem putF_has{C:List Ve}{x u:Ve}(h:(rightC C&&vOk x)=true)(hu:C[seenN x.p x.l C]?=some u)(ha:atB u x=true)(he:eqV u x=true):putF C x=(C,0):=by unfold putF;rw[h,if_pos rfl,insF_seen,hu];simp[ha,he]
theorem putF_busy{C:List Ve}{x u:Ve}(h:(rightC C&&vOk x)=true)(hu:C[seenN x.p x.l C]?=some u)(ha:atB u x=true)(he:eqV u x=false):putF C x=([],40):=by unfold putF;rw[h,if_pos rfl,insF_seen,hu];simp[ha,he]
theorem putF_else{C:List Ve}{x:Ve}(h:(rightC C&&vOk x)=true)(hu:∀u,C[seenN x.p x.l C]?=some u->atB u x=false):putF C x=if 1000<=C.length then([],3)else(C.take (seenN x.p x.l C)++x::C.drop (seenN x.p x.l C),0):=by
 unfold putF;rw[h,if_pos rfl,insF_seen];cases hc:C[seenN x.p x.l C]?with
 |none=>
  have hk:=List.getElem?_eq_none_iff.1 hc;rw[List.take_of_length_le hk,List.drop_eq_nil_of_le hk];simp
 |some u=>
  have hk:=seenN_le x.p x.l C;have hl:C.length<(C.take (seenN x.p x.l C)++x::C.drop (seenN x.p x.l C)).length:=by simp;omega
  simp only[hu u hc,Bool.false_eq_true,if_false];by_cases h2:1000<=C.length
  ·rw[if_pos ⟨hl,h2⟩,if_pos h2]
  ·rw[if_neg (fun h=>h2 h.2),if_neg h2]
theorem again22(B:Nat)(C:List Ve)(v:Value)(k:Nat)(x:Ve)(w:World)(hv:VsAt B v C w)(hB:B<=w.heap.size)(hk:k<C.length)(hl:C.length<=1048576):
  Calls Tryz.prog 240 #[v,iw k,veV x] w fun e w'=>∃v',e=.returned (.tuple #[v',iw (if eqV (C.getD k dv) x then 0 else 40)])/\VsAt w'.heap.size v' (if eqV (C.getD k dv) x then C else[]) w'/\Below w.heap.size w w':=by
 have hv':=hv;obtain⟨ao,cap,rfl,hlc,hcm,-⟩:=hv;obtain⟨b,off,rfl,hb,hck⟩:=hv'.el hk;have H:Hid (VsAt B (.slice (some ⟨b,off,none⟩) C.length cap) C w):=hv';have HL:Hid _:=hl;have HB:Hid _:=hB;have hbw:b<w.heap.size:=by omega
 clear hv' hl hB hlc hcm hb;generalize C.getD k dv=y at hck|-;obtain⟨xp,xl,xc,xn,xs,xd⟩:=x;obtain⟨yp,yl,yc,yn,ys,yd⟩:=y;obtain⟨e0,e1,e2,e3,e4,e5⟩:=hck;dsimp only at e0 e1 e2 e3 e4 e5;unfold veV;dsimp only;have hrun:=run_neq30 yp yl yc yn ys yd xp xl xc xn xs xd;obtain⟨z,hz⟩:=xj (eqV ⟨yp,yl,yc,yn,ys,yd⟩ ⟨xp,xl,xc,xn,xs,xd⟩);rw[hz]at hrun|-;clear hz;have hkl:(k:Int)<C.length:=by omega
 cases z
 ·go_enter Tryz.func240,Tryz.ntmps240;go_wp2_with fail
  go_quiet (fail)
  go_wp2;refine bodyPost_ret (v:=.tuple #[sy,iw 40]) (by simp[results,Tryz.results240,go_sem]) rfl ?_;exact⟨_,rfl,vs_nil _ _,below_drewN ((Below.refl _ _).alloc (Nat.le_refl _) _) _⟩
 ·go_enter Tryz.func240,Tryz.ntmps240;go_wp2_with fail
  go_quiet (fail)
  rename_i nq;have HW:Hid (Below w.heap.size w ((w.alloc (.cells #[uw xp,ui xl,ui xc,ui xn,sd xs,.bool xd] 120)).drewN nq)):=below_drewN ((Below.refl _ _).alloc (Nat.le_refl _) _) _;go_wp2_with fail;refine(clone27 w.heap.size C _ _ ((H.out.le HB.out).on HW.out) HW.out.size HL.out).mono ?_;rintro e w2 ⟨v',rfl,hv2,hb2⟩;have H2:Hid (VsAt w2.heap.size v' C w2/\Below w.heap.size w w2):=⟨hv2,HW.out.trans (hb2.mono HW.out.size)⟩;clear hv2 hb2;go_wp2;refine bodyPost_ret (v:=.tuple #[v',iw 0]) (by simp[results,Tryz.results240,go_sem]) rfl ?_;exact⟨_,rfl,H2.out.1,H2.out.2⟩
theorem VeAt.six{w:World}{b:Nat}{p l c n:Int}{s:List UInt8}{d:Bool}(h:VeAt w b 0 ⟨p,l,c,n,s,d⟩):w.cell? ⟨b,0,none⟩=some (uw p)/\w.cell? ⟨b,1,none⟩=some (ui l)/\w.cell? ⟨b,2,none⟩=some (ui c)/\w.cell? ⟨b,3,none⟩=some (ui n)/\w.cell? ⟨b,4,none⟩=some (sd s)/\w.cell? ⟨b,5,none⟩=some (.bool d):=by obtain⟨e0,e1,e2,e3,e4,e5⟩:=h;dsimp only at e0 e1 e2 e3 e4 e5;simp only[Nat.zero_add]at e1 e2 e3 e4 e5;exact⟨e0,e1,e2,e3,e4,e5⟩
theorem ve_new(w:World)(p l c n:Int)(s:List UInt8)(d:Bool):VeAt (w.alloc (.cells #[uw p,ui l,ui c,ui n,sd s,.bool d] 120)) w.heap.size 0 ⟨p,l,c,n,s,d⟩:=
 ⟨by simp[go_sem],by simp[go_sem],by simp[go_sem],by simp[go_sem],by simp[go_sem],by simp[go_sem],_,_,heap_alloc_new w _⟩
structure Bx(w:World)(bx:Nat)(x:Ve)(W:World):Prop where
 box:VeAt W bx 0 x
 bel:Below w.heap.size w W
theorem Bx.on{w W W':World}{bx:Nat}{x:Ve}(h:Bx w bx x W)(hb:Below W.heap.size W W'):Bx w bx x W':=
 ⟨h.box.on hb (World.block_lt_of_cell? _ _ h.box.c0),h.bel.trans (hb.mono h.bel.size)⟩
theorem Bx.dr{w W:World}{bx:Nat}{x:Ve}(h:Bx w bx x W):Bx w bx x W.drew:=h.on (Below.refl _ _).drew
theorem Bx.s7{w W:World}{bx:Nat}{p l c n:Int}{s:List UInt8}{d:Bool}(h:Bx w bx ⟨p,l,c,n,s,d⟩ W):W.cell? ⟨bx,0,none⟩=some (uw p)/\W.cell? ⟨bx,1,none⟩=some (ui l)/\W.cell? ⟨bx,2,none⟩=some (ui c)/\W.cell? ⟨bx,3,none⟩=some (ui n)/\W.cell? ⟨bx,4,none⟩=some (sd s)/\W.cell? ⟨bx,5,none⟩=some (.bool d)/\Hid (Bx w bx ⟨p,l,c,n,s,d⟩ W):=
 ⟨h.box.six.1,h.box.six.2.1,h.box.six.2.2.1,h.box.six.2.2.2.1,h.box.six.2.2.2.2.1,h.box.six.2.2.2.2.2,h⟩
theorem vs_one(w:World)(p l c n:Int)(s:List UInt8)(d:Bool):VsAt (w.heap.size+1) (.slice (some ⟨w.heap.size,0,none⟩) 1 1) [⟨p,l,c,n,s,d⟩] (w.alloc (.cells #[uw p,ui l,ui c,ui n,sd s,.bool d] 120)):=by
 refine⟨_,1,rfl,Nat.le_refl _,by omega,fun _=>⟨w.heap.size,0,rfl,fun _=>Nat.lt_succ_self _,fun i hi=>?_⟩⟩;have hi0:i=0:=by simpa using hi
 subst hi0;exact ve_new w p l c n s d
theorem cat3(w W:World)(bx:Nat)(p l c n:Int)(s:List UInt8)(d:Bool)(C:List Ve)(ao:Option Addr)(vg:Value)(cap k:Nat)(hW:Bx w bx ⟨p,l,c,n,s,d⟩ W)(hv:VsAt w.heap.size (.slice ao C.length cap) C w)(hg:VsAt w.heap.size vg (C.drop k) w)(hk:k<=C.length)(hl:C.length<=1000):
  Calls Tryz.prog 241 #[.slice (some ⟨W.heap.size+1,0,none⟩) 3 3] ((W.alloc (.cells #[uw p,ui l,ui c,ui n,sd s,.bool d] 120)).alloc (.cells #[.slice ao k cap,.slice (some ⟨W.heap.size,0,none⟩) 1 1,vg] 63)).drew fun e w'=>∃v',e=.returned v'/\VsAt w'.heap.size v' (C.take k++⟨p,l,c,n,s,d⟩::C.drop k) w'/\Bx w bx ⟨p,l,c,n,s,d⟩ w':=by
 have b1:Below W.heap.size W (W.alloc (.cells #[uw p,ui l,ui c,ui n,sd s,.bool d] 120)):=(Below.refl _ _).alloc (Nat.le_refl _) _;have hone:=vs_one W p l c n s d;obtain⟨W1,hW1⟩:∃W1,W1=W.alloc (.cells #[uw p,ui l,ui c,ui n,sd s,.bool d] 120):=⟨_,rfl⟩;rw[<-hW1]at b1 hone|-;have hs1:W1.heap.size=W.heap.size+1:=by rw[hW1];simp
 clear hW1;obtain⟨W2,hW2⟩:∃W2,W2=(W1.alloc (.cells #[.slice ao k cap,.slice (some ⟨W.heap.size,0,none⟩) 1 1,vg] 63)).drew:=⟨_,rfl⟩;have b2:Below W1.heap.size W1 W2:=by rw[hW2];exact((Below.refl _ _).alloc (Nat.le_refl _) _).drew
 have hc0:W2.cell? ⟨W.heap.size+1,0,none⟩=some (.slice ao k cap):=by rw[hW2,<-hs1];simp[go_sem]
 have hc1:W2.cell? ⟨W.heap.size+1,1,none⟩=some (.slice (some ⟨W.heap.size,0,none⟩) 1 1):=by rw[hW2,<-hs1];simp[go_sem]
 have hc2:W2.cell? ⟨W.heap.size+1,2,none⟩=some vg:=by rw[hW2,<-hs1];simp[go_sem]
 rw[<-hW2];clear hW2;have hs:=hW.bel.size;have b3:Below W.heap.size W W2:=b1.trans (b2.mono (by omega));have h0:VsAt (W.heap.size+1) (.slice ao k cap) (C.take k) W2:=(((hv.on hW.bel).take hk).le hs |>.on b3).le (by omega);have h1:VsAt (W.heap.size+1) (.slice (some ⟨W.heap.size,0,none⟩) 1 1) [⟨p,l,c,n,s,d⟩] W2:=hone.on (b2.mono (by omega));have h2:VsAt (W.heap.size+1) vg (C.drop k) W2:=((hg.on hW.bel).le hs |>.on b3).le (by omega);have hcat:cat [(.slice ao k cap,C.take k),(.slice (some ⟨W.heap.size,0,none⟩) 1 1,[⟨p,l,c,n,s,d⟩]),(vg,C.drop k)]=C.take k++⟨p,l,c,n,s,d⟩::C.drop k:=by simp[cat]
 refine(concat23 (W.heap.size+1) (W.heap.size+1) [(.slice ao k cap,C.take k),(.slice (some ⟨W.heap.size,0,none⟩) 1 1,[⟨p,l,c,n,s,d⟩]),(vg,C.drop k)] W2 ?_ ?_ (World.block_lt_of_cell? _ _ hc0) (by have:=b2.size;omega) (by rw[hcat];simp;omega) (by simp)).mono ?_
 ·intro i hi;match i,hi with
  |0,_=>exact hc0
  |1,_=>exact hc1
  |2,_=>exact hc2
 ·intro i hi;match i,hi with
  |0,_=>exact h0
  |1,_=>exact h1
  |2,_=>exact h2
 ·rintro e w' ⟨v',rfl,hv',hb'⟩;rw[hcat]at hv';exact⟨v',rfl,hv',(hW.on b3).on hb'⟩
theorem put8(B:Nat)(C:List Ve)(v:Value)(x:Ve)(w:World)(hv:VsAt B v C w)(hB:B<=w.heap.size):
  Calls Tryz.prog 201 #[v,veV x] w fun e w'=>∃v',e=.returned (.tuple #[v',iw (putF C x).2])/\VsAt w'.heap.size v' (putF C x).1 w'/\Below w.heap.size w w':=by
 have hv':=hv;obtain⟨ao,cap,rfl,hlc,hcm,-⟩:=hv;have H:Hid (VsAt w.heap.size (.slice ao C.length cap) C w):=hv'.le hB;clear hv' hB;have HSn:Hid (seenN x.p x.l C<=C.length):=seenN_le _ _ _;have HP1:Hid ((rightC C&&vOk x)=false->putF C x=([],1)):=putF_bad;have HP2:Hid (∀u,(rightC C&&vOk x)=true->C[seenN x.p x.l C]?=some u->atB u x=true->eqV u x=true->putF C x=(C,0)):=fun u h1 h2 h3 h4=>putF_has h1 h2 h3 h4;have HP3:Hid (∀u,(rightC C&&vOk x)=true->C[seenN x.p x.l C]?=some u->atB u x=true->eqV u x=false->putF C x=([],40)):=fun u h1 h2 h3 h4=>putF_busy h1 h2 h3 h4;have HP4:Hid ((rightC C&&vOk x)=true->(∀u,C[seenN x.p x.l C]?=some u->atB u x=false)->putF C x=if 1000<=C.length then([],3)else(C.take (seenN x.p x.l C)++x::C.drop (seenN x.p x.l C),0)):=putF_else;have HRl:Hid (rightC C=true->C.length<=1000):=fun h=>(rightC_iff.1 h).len;have CR:Hid (∀W,Below w.heap.size w W->Calls Tryz.prog 196 #[.slice ao C.length cap] W fun e w'=>e=.returned (.bool (rightC C))/\Below W.heap.size W w'):=fun W hW=>right12 w.heap.size C _ W (H.out.on hW) hW.size;have CS:Hid (∀W,Below w.heap.size w W->Calls Tryz.prog 197 #[.slice ao C.length cap,.agg #[uw x.p,ui x.l]] W fun e w'=>e=.returned (iw (seenN x.p x.l C))/\Below W.heap.size W w'):=fun W hW=>seen21 w.heap.size C _ _ _ W (H.out.on hW) hW.size;have CF:Hid (∀W,1=1->Calls Tryz.prog 237 #[veV x] W fun e w'=>e=.returned (.bool (vOk x))/\Below W.heap.size W w'):=fun W _=>fits20 x W;have CA:Hid (∀W k,Below w.heap.size w W->k<C.length->C.length<=1000->Calls Tryz.prog 240 #[.slice ao C.length cap,iw (k:Nat),veV x] W fun e w'=>∃v',e=.returned (.tuple #[v',iw (if eqV (C.getD k dv) x then 0 else 40)])/\VsAt w'.heap.size v' (if eqV (C.getD k dv) x then C else[]) w'/\Below W.heap.size W w'):=fun W k hW hk hl=>again22 w.heap.size C _ k x W (H.out.on hW) hW.size hk (by omega);generalize putF C x=y at*;generalize rightC C=r1 at*;generalize vOk x=r2 at*;generalize seenN x.p x.l C=k at*;obtain⟨D,er⟩:=y;obtain⟨xp,xl,xc,xn,xs,xd⟩:=x;unfold veV at*;dsimp only at*;have HB0:Hid (Bx w w.heap.size ⟨xp,xl,xc,xn,xs,xd⟩ (w.alloc (.cells #[uw xp,ui xl,ui xc,ui xn,sd xs,.bool xd] 120))):=⟨ve_new _ _ _ _ _ _ _,(Below.refl _ _).alloc (Nat.le_refl _) _⟩;go_enter Tryz.func201,Tryz.ntmps201;go_wp2_with fail;refine(CR.out _ HB0.out.bel).mono ?_;rintro e w1 ⟨rfl,hb1⟩;have HB1:Hid (Bx w w.heap.size ⟨xp,xl,xc,xn,xs,xd⟩ w1):=HB0.out.on hb1;clear hb1 HB0;cases r1
 ·have HE:Hid _:=HP1.out rfl;go_wp2_with fail;have he:=HE.out;injection he with he1 he2;subst he1 he2;refine bodyPost_ret (v:=.tuple #[sy,iw 1]) (by simp[results,Tryz.results201,go_sem]) rfl ?_;exact⟨_,rfl,vs_nil _ _,HB1.out.bel⟩
 ·have zc0:=HB1.out.box.six;go_wp2_with fail;refine(CF.out _ (by trivial)).mono ?_;rintro e w2 ⟨rfl,hb2⟩;have HB2:Hid (Bx w w.heap.size ⟨xp,xl,xc,xn,xs,xd⟩ w2):=HB1.out.on hb2;clear hb2 HB1 zc0;cases r2
  ·have HE:Hid _:=HP1.out rfl;go_wp2_with fail;have he:=HE.out;injection he with he1 he2;subst he1 he2;refine bodyPost_ret (v:=.tuple #[sy,iw 1]) (by simp[results,Tryz.results201,go_sem]) rfl ?_;exact⟨_,rfl,vs_nil _ _,HB2.out.bel⟩
  ·have hl1000:C.length<=1000:=HRl.out (by trivial);have zc0:=HB2.out.box.six;go_wp2_with fail;refine(CS.out _ HB2.out.bel).mono ?_;rintro e w3 ⟨rfl,hb3⟩;have HB3:Hid (Bx w w.heap.size ⟨xp,xl,xc,xn,xs,xd⟩ w3):=HB2.out.on hb3;clear hb3 HB2 zc0;have hk:=HSn.out;by_cases hkl:k<C.length
   ·obtain⟨b,off,rfl,hb,hck⟩:=(H.out.on HB3.out.bel).el hkl;have HG:Hid (C[k]?=some (C.getD k dv)):=getD_some hkl;have CA':Hid (∀W,Below w.heap.size w W->1=1->_):=fun W hW _=>CA.out W k hW hkl hl1000;clear CA CR CS CF HP1 hb;generalize C.getD k dv=y at hck HG CA';obtain⟨yp,yl,yc,yn,ys,yd⟩:=y;obtain⟨m0,m1,-,-,-,-⟩:=hck;dsimp only at m0 m1;have hrun:=run_eql26 yp yl xp xl;have HAt:Hid (atB ⟨yp,yl,yc,yn,ys,yd⟩ ⟨xp,xl,xc,xn,xs,xd⟩=eqB yp yl xp xl):=rfl;obtain⟨z,hz⟩:=xj (eqB yp yl xp xl);rw[hz]at hrun HAt;clear hz;have hkl':(k:Int)<C.length:=by omega
    have zc0:=HB3.out.box.six;cases z
    ·have HNo:Hid (∀u,C[k]?=some u->atB u ⟨xp,xl,xc,xn,xs,xd⟩=false):=fun u hu=>by rw[HG.out]at hu;injection hu with hu;subst hu;exact HAt.out
     clear HG HAt HP2 HP3 CA';have hne:¬cap=k:=by omega
     have hdr:=H.out.drop hk;rw[if_neg hne]at hdr;simp only[Option.map_some,Addr.add_lit]at hdr;have HDr:Hid _:=hdr;clear hdr;go_wp2_with fail
     go_quiet (fail)
     rename_i nq;clear m0 m1;have HB4:Hid (Bx w w.heap.size ⟨xp,xl,xc,xn,xs,xd⟩ (w3.drewN nq)):=HB3.out.on (below_drewN (Below.refl _ _) _);clear HB3 zc0;generalize w3.drewN nq=w4 at*;have HP5:Hid _:=HP4.out (by trivial) HNo.out;clear HP4 HNo;by_cases hfull:C.length=1000
     ·have hfull':((C.length:Int)==1000)=true:=by simp;omega
      have HE:Hid ((D,er)=([],3)):=by rw[HP5.out,if_pos (by omega)];exact rfl
      clear HP5 hfull;go_wp2_with fail;have he:=HE.out;injection he with he1 he2;subst he1 he2;refine bodyPost_ret (v:=.tuple #[sy,iw 3]) (by simp[results,Tryz.results201,go_sem]) rfl ?_;exact⟨_,rfl,vs_nil _ _,HB4.out.bel⟩
     ·have hfull':((C.length:Int)==1000)=false:=by simp;omega
      have HE:Hid ((D,er)=(C.take k++⟨xp,xl,xc,xn,xs,xd⟩::C.drop k,0)):=by rw[HP5.out,if_neg (by omega)];exact rfl
      clear HP5 hfull;have hkc:k<=cap:=by omega
      have HCt:Hid (∀W,Bx w w.heap.size ⟨xp,xl,xc,xn,xs,xd⟩ W->_):=fun W hW=>cat3 w W _ _ _ _ _ _ _ C _ _ cap k hW H.out HDr.out hk hl1000;go_wp2_with fail;go_region_held3 (fun w'=>w'.cell? ⟨w.heap.size,0,none⟩=some (uw xp)/\w'.cell? ⟨w.heap.size,1,none⟩=some (ui xl)/\w'.cell? ⟨w.heap.size,2,none⟩=some (ui xc)/\w'.cell? ⟨w.heap.size,3,none⟩=some (ui xn)/\w'.cell? ⟨w.heap.size,4,none⟩=some (sd xs)/\w'.cell? ⟨w.heap.size,5,none⟩=some (.bool xd)/\Hid (Bx w w.heap.size ⟨xp,xl,xc,xn,xs,xd⟩ w')) (first|exact HB4.out.dr.s7|exact(HB4.out.on (((Below.refl _ _).alloc (Nat.le_refl _) _).drew)).s7|exact(HB4.out.on ((((Below.refl _ _).alloc (Nat.le_refl _) _).alloc (by simp) _).drew)).s7|exact HB5.out.s7) (first
       |(go_at_call 241;refine(HCt.out _ HB4.out).mono ?_;rintro e w5 ⟨v5,rfl,hv5,hb5⟩;have H5:Hid (VsAt w5.heap.size v5 (C.take k++⟨xp,xl,xc,xn,xs,xd⟩::C.drop k) w5):=hv5;have HB5:Hid (Bx w w.heap.size ⟨xp,xl,xc,xn,xs,xd⟩ w5):=hb5;clear hv5 hb5))
      go_wp2_with fail;have he:=HE.out;injection he with he1 he2;subst he1 he2;refine bodyPost_ret (v:=.tuple #[v5,iw 0]) (by simp[results,Tryz.results201,go_sem]) rfl ?_;exact⟨_,rfl,H5.out,HB5.out.bel⟩
    ·go_wp2_with fail
     go_quiet (fail)
     rename_i nq;have HB4:Hid (Bx w w.heap.size ⟨xp,xl,xc,xn,xs,xd⟩ (w3.drewN nq)):=HB3.out.on (below_drewN (Below.refl _ _) _);clear HB3 zc0;generalize w3.drewN nq=w4 at*;have zc0:=HB4.out.box.six;go_wp2_with fail;refine(CA'.out _ HB4.out.bel (by trivial)).mono ?_;rintro e w5 ⟨v',rfl,hv5,hb5⟩;obtain⟨q,hq⟩:=xj (eqV ⟨yp,yl,yc,yn,ys,yd⟩ ⟨xp,xl,xc,xn,xs,xd⟩);rw[hq]at hv5|-;have H5:Hid (VsAt w5.heap.size v' (if q then C else[]) w5/\Below w.heap.size w w5):=⟨hv5,HB4.out.bel.trans (hb5.mono HB4.out.bel.size)⟩;clear hv5 hb5;cases q
     ·have HE:Hid _:=HP3.out _ (by trivial) HG.out HAt.out hq;clear hq;go_wp2_with fail;have he:=HE.out;injection he with he1 he2;subst he1 he2;refine bodyPost_ret (v:=.tuple #[v',iw 40]) (by simp[results,Tryz.results201,go_sem]) rfl ?_;exact⟨_,rfl,H5.out.1,H5.out.2⟩
     ·have HE:Hid _:=HP2.out _ (by trivial) HG.out HAt.out hq;clear hq;go_wp2_with fail;have he:=HE.out;injection he with he1 he2;subst he1 he2;refine bodyPost_ret (v:=.tuple #[v',iw 0]) (by simp[results,Tryz.results201,go_sem]) rfl ?_;exact⟨_,rfl,H5.out.1,H5.out.2⟩
   ·have HNo:Hid (∀u,C[k]?=some u->atB u ⟨xp,xl,xc,xn,xs,xd⟩=false):=fun u hu=>by rw[List.getElem?_eq_none (by omega)]at hu;cases hu
    have hkl':¬(k:Int)<C.length:=by omega
    clear CA CR CS CF HP1 HP2 HP3;have hdr:=H.out.drop hk;by_cases hne:cap=k
    ·rw[if_pos hne]at hdr;subst hne;rw[Nat.sub_self,Nat.sub_eq_zero_of_le hlc]at hdr;have HDr:Hid _:=hdr;clear hdr;have zc0:=HB3.out.box.six;go_wp2_with fail
     go_quiet (fail)
     rename_i nq;have HB4:Hid (Bx w w.heap.size ⟨xp,xl,xc,xn,xs,xd⟩ (w3.drewN nq)):=HB3.out.on (below_drewN (Below.refl _ _) _);clear HB3 zc0;generalize w3.drewN nq=w4 at*;have HP5:Hid _:=HP4.out (by trivial) HNo.out;clear HP4 HNo;by_cases hfull:C.length=1000
     ·have hfull':((C.length:Int)==1000)=true:=by simp;omega
      have HE:Hid ((D,er)=([],3)):=by rw[HP5.out,if_pos (by omega)];exact rfl
      clear HP5 hfull;go_wp2_with fail;have he:=HE.out;injection he with he1 he2;subst he1 he2;refine bodyPost_ret (v:=.tuple #[sy,iw 3]) (by simp[results,Tryz.results201,go_sem]) rfl ?_;exact⟨_,rfl,vs_nil _ _,HB4.out.bel⟩
     ·have hfull':((C.length:Int)==1000)=false:=by simp;omega
      have HE:Hid ((D,er)=(C.take cap++⟨xp,xl,xc,xn,xs,xd⟩::C.drop cap,0)):=by rw[HP5.out,if_neg (by omega)];exact rfl
      clear HP5 hfull;have HCt:Hid (∀W,Bx w w.heap.size ⟨xp,xl,xc,xn,xs,xd⟩ W->_):=fun W hW=>cat3 w W _ _ _ _ _ _ _ C _ _ cap cap hW H.out HDr.out hk hl1000;go_wp2_with fail;go_region_held3 (fun w'=>w'.cell? ⟨w.heap.size,0,none⟩=some (uw xp)/\w'.cell? ⟨w.heap.size,1,none⟩=some (ui xl)/\w'.cell? ⟨w.heap.size,2,none⟩=some (ui xc)/\w'.cell? ⟨w.heap.size,3,none⟩=some (ui xn)/\w'.cell? ⟨w.heap.size,4,none⟩=some (sd xs)/\w'.cell? ⟨w.heap.size,5,none⟩=some (.bool xd)/\Hid (Bx w w.heap.size ⟨xp,xl,xc,xn,xs,xd⟩ w')) (first|exact HB4.out.dr.s7|exact(HB4.out.on (((Below.refl _ _).alloc (Nat.le_refl _) _).drew)).s7|exact(HB4.out.on ((((Below.refl _ _).alloc (Nat.le_refl _) _).alloc (by simp) _).drew)).s7|exact HB5.out.s7) (first
       |(go_at_call 241;refine(HCt.out _ HB4.out).mono ?_;rintro e w5 ⟨v5,rfl,hv5,hb5⟩;have H5:Hid (VsAt w5.heap.size v5 (C.take cap++⟨xp,xl,xc,xn,xs,xd⟩::C.drop cap) w5):=hv5;have HB5:Hid (Bx w w.heap.size ⟨xp,xl,xc,xn,xs,xd⟩ w5):=hb5;clear hv5 hb5))
      go_wp2_with fail;have he:=HE.out;injection he with he1 he2;subst he1 he2;refine bodyPost_ret (v:=.tuple #[v5,iw 0]) (by simp[results,Tryz.results201,go_sem]) rfl ?_;exact⟨_,rfl,H5.out,HB5.out.bel⟩
    ·rw[if_neg hne]at hdr;obtain⟨b,off,rfl⟩:∃b off,ao=some ⟨b,off,none⟩:=by obtain⟨ao',cap',e,_,_,h⟩:=H.out;simp only[Value.slice.injEq]at e;obtain⟨rfl,_,rfl⟩:=e;obtain⟨b,off,rfl,_⟩:=h (by omega);exact⟨b,off,rfl⟩
     simp only[Option.map_some,Addr.add_lit]at hdr;have HDr:Hid _:=hdr;clear hdr;have zc0:=HB3.out.box.six;go_wp2_with fail
     go_quiet (fail)
     rename_i nq;have HB4:Hid (Bx w w.heap.size ⟨xp,xl,xc,xn,xs,xd⟩ (w3.drewN nq)):=HB3.out.on (below_drewN (Below.refl _ _) _);clear HB3 zc0;generalize w3.drewN nq=w4 at*;have HP5:Hid _:=HP4.out (by trivial) HNo.out;clear HP4 HNo;by_cases hfull:C.length=1000
     ·have hfull':((C.length:Int)==1000)=true:=by simp;omega
      have HE:Hid ((D,er)=([],3)):=by rw[HP5.out,if_pos (by omega)];exact rfl
      clear HP5 hfull;go_wp2_with fail;have he:=HE.out;injection he with he1 he2;subst he1 he2;refine bodyPost_ret (v:=.tuple #[sy,iw 3]) (by simp[results,Tryz.results201,go_sem]) rfl ?_;exact⟨_,rfl,vs_nil _ _,HB4.out.bel⟩
     ·have hfull':((C.length:Int)==1000)=false:=by simp;omega
      have HE:Hid ((D,er)=(C.take k++⟨xp,xl,xc,xn,xs,xd⟩::C.drop k,0)):=by rw[HP5.out,if_neg (by omega)];exact rfl
      clear HP5 hfull;have hkc:k<=cap:=by omega
      have HCt:Hid (∀W,Bx w w.heap.size ⟨xp,xl,xc,xn,xs,xd⟩ W->_):=fun W hW=>cat3 w W _ _ _ _ _ _ _ C _ _ cap k hW H.out HDr.out hk hl1000;go_wp2_with fail;go_region_held3 (fun w'=>w'.cell? ⟨w.heap.size,0,none⟩=some (uw xp)/\w'.cell? ⟨w.heap.size,1,none⟩=some (ui xl)/\w'.cell? ⟨w.heap.size,2,none⟩=some (ui xc)/\w'.cell? ⟨w.heap.size,3,none⟩=some (ui xn)/\w'.cell? ⟨w.heap.size,4,none⟩=some (sd xs)/\w'.cell? ⟨w.heap.size,5,none⟩=some (.bool xd)/\Hid (Bx w w.heap.size ⟨xp,xl,xc,xn,xs,xd⟩ w')) (first|exact HB4.out.dr.s7|exact(HB4.out.on (((Below.refl _ _).alloc (Nat.le_refl _) _).drew)).s7|exact(HB4.out.on ((((Below.refl _ _).alloc (Nat.le_refl _) _).alloc (by simp) _).drew)).s7|exact HB5.out.s7) (first
       |(go_at_call 241;refine(HCt.out _ HB4.out).mono ?_;rintro e w5 ⟨v5,rfl,hv5,hb5⟩;have H5:Hid (VsAt w5.heap.size v5 (C.take k++⟨xp,xl,xc,xn,xs,xd⟩::C.drop k) w5):=hv5;have HB5:Hid (Bx w w.heap.size ⟨xp,xl,xc,xn,xs,xd⟩ w5):=hb5;clear hv5 hb5))
      go_wp2_with fail;have he:=HE.out;injection he with he1 he2;subst he1 he2;refine bodyPost_ret (v:=.tuple #[v5,iw 0]) (by simp[results,Tryz.results201,go_sem]) rfl ?_;exact⟨_,rfl,H5.out,HB5.out.bel⟩
theorem atF_bad{C:List Ve}{p l:Int}(h:rightC C=false):atF C p l=none:=by unfold atF;rw[h];rfl
theorem atF_good{C:List Ve}{p l:Int}(h:rightC C=true):atF C p l=C[seenN p l C]?:=by unfold atF;rw[if_pos h,atR_seen]
theorem at10(B:Nat)(C:List Ve)(v:Value)(p l:Int)(w:World)(hv:VsAt B v C w)(hB:B<=w.heap.size):
  Calls Tryz.prog 160 #[v,.agg #[uw p,ui l]] w fun e w'=>e=.returned (.tuple #[veV ((atF C p l).getD dv),.bool (atF C p l).isSome])/\Below w.heap.size w w':=by
 have hv':=hv;obtain⟨ao,cap,rfl,hlc,hcm,-⟩:=hv;have H:Hid (VsAt w.heap.size (.slice ao C.length cap) C w):=hv'.le hB;clear hv' hB;have HSn:Hid (seenN p l C<=C.length):=seenN_le _ _ _;have HP1:Hid (rightC C=false->atF C p l=none):=atF_bad;have HP2:Hid (rightC C=true->atF C p l=C[seenN p l C]?):=atF_good;have CR:Hid (∀W,Below w.heap.size w W->Calls Tryz.prog 196 #[.slice ao C.length cap] W fun e w'=>e=.returned (.bool (rightC C))/\Below W.heap.size W w'):=fun W hW=>right12 w.heap.size C _ W (H.out.on hW) hW.size;have CS:Hid (∀W,Below w.heap.size w W->Calls Tryz.prog 197 #[.slice ao C.length cap,.agg #[uw p,ui l]] W fun e w'=>e=.returned (iw (seenN p l C))/\Below W.heap.size W w'):=fun W hW=>seen21 w.heap.size C _ _ _ W (H.out.on hW) hW.size;generalize atF C p l=y at*;generalize rightC C=r1 at*;generalize seenN p l C=k at*;have HB0:Hid (Below w.heap.size w ((w.alloc (.cells #[uw p,ui l] 28)).alloc (.cells #[uw 0,ui 0,ui 0,ui 0,su,.bool false] 120))):=((Below.refl _ _).alloc (Nat.le_refl _) _).alloc (by simp) _;go_enter Tryz.func160,Tryz.ntmps160;go_wp2_with fail;refine(CR.out _ HB0.out).mono ?_;rintro e w1 ⟨rfl,hb1⟩;have HB1:Hid (Below w.heap.size w w1):=HB0.out.trans (hb1.mono HB0.out.size);obtain⟨hc,hf⟩:=bcell hb1;have hz1:w.heap.size+1<w1.heap.size:=by have:=hb1.size;simp at this;omega
 have hz0:w.heap.size<w1.heap.size:=by omega
 cases r1
 ·have HE:Hid _:=HP1.out rfl;go_wp2_with fail;rw[HE.out];refine bodyPost_ret (v:=.tuple #[veV dv,.bool false]) (by simp[results,Tryz.results160,go_sem,hc,veV,dv,bs]) rfl ?_;refine⟨rfl,?_⟩;exact((((((HB1.out.setCell (by simp) _).setCell (by simp) _).setCell (by simp) _).setCell (by simp) _).setCell (by simp) _).setCell (by simp) _)
 ·go_wp2_with fail;refine(CS.out _ HB1.out).mono ?_;rintro e w2 ⟨rfl,hb2⟩;have HB2:Hid (Below w.heap.size w w2):=HB1.out.trans (hb2.mono HB1.out.size);obtain⟨hc2,hf2⟩:=bcell hb2;have hy2:w.heap.size+1<w2.heap.size:=by have:=hb2.size;omega
  have hy0:w.heap.size<w2.heap.size:=by omega
  have HE:Hid _:=HP2.out (by trivial);have hk:=HSn.out;by_cases hkl:k<C.length
  ·obtain⟨b,off,rfl,hb,hck⟩:=H.out.el hkl;have hck2:=hck.on HB2.out hb;have HG:Hid (y=some (C.getD k dv)):=by rw[HE.out];exact getD_some hkl
   clear hck HE CS CR HP2 HP1 hb;generalize C.getD k dv=u at hck2 HG;obtain⟨yp,yl,yc,yn,ys,yd⟩:=u;obtain⟨m0,m1,m2,m3,m4,m5⟩:=hck2;dsimp only at m0 m1 m2 m3 m4 m5;have hkl':((k:Int)==C.length)=false:=by simp;omega
   have hkl2:(k:Int)<C.length:=by omega
   go_wp2_with fail;rw[HG.out];refine bodyPost_ret (v:=.tuple #[veV ⟨yp,yl,yc,yn,ys,yd⟩,.bool true]) (by simp[results,Tryz.results160,go_sem,hc2,hc,hz1,veV]) rfl ?_;refine⟨rfl,?_⟩;exact((((((HB2.out.setCell (by simp) _).setCell (by simp) _).setCell (by simp) _).setCell (by simp) _).setCell (by simp) _).setCell (by simp) _)
  ·have HG:Hid (y=none):=by rw[HE.out];exact List.getElem?_eq_none (by omega)
   have hkl':((k:Int)==C.length)=true:=by simp;omega
   clear HE CS CR HP2 HP1;go_wp2_with fail;rw[HG.out];refine bodyPost_ret (v:=.tuple #[veV dv,.bool false]) (by simp[results,Tryz.results160,go_sem,hc2,hc,hz1,veV,dv,bs]) rfl ?_;refine⟨rfl,?_⟩;exact((((((HB2.out.setCell (by simp) _).setCell (by simp) _).setCell (by simp) _).setCell (by simp) _).setCell (by simp) _).setCell (by simp) _)
def newF(C:List Ve):Int×Int:=if rightC C then((C.getD 0 dv).p,(C.getD 0 dv).l)else(0,0)
theorem newF_nil:newF []=(0,0):=by simp[newF,dv]
theorem newest15(B:Nat)(C:List Ve)(v:Value)(w:World)(hv:VsAt B v C w)(hB:B<=w.heap.size):
  Calls Tryz.prog 205 #[v] w fun e w'=>e=.returned (.agg #[uw (newF C).1,ui (newF C).2])/\Below w.heap.size w w':=by
 have hv':=hv;obtain⟨ao,cap,rfl,hlc,hcm,-⟩:=hv;have H:Hid (VsAt w.heap.size (.slice ao C.length cap) C w):=hv'.le hB;clear hv' hB;have HB0:Hid (Below w.heap.size w (w.alloc (.cells #[uw 0,ui 0] 28))):=(Below.refl _ _).alloc (Nat.le_refl _) _;by_cases h0:C.length=0
 ·have:C=[]:=List.eq_nil_of_length_eq_zero h0;subst this;rw[newF_nil];clear h0;go_enter Tryz.func205,Tryz.ntmps205;go_wp2_with fail;refine bodyPost_ret (v:=.agg #[uw 0,ui 0]) (by simp[results,Tryz.results205,go_sem]) rfl ?_;exact⟨rfl,HB0.out⟩
 ·obtain⟨b,off,rfl,hb,hck⟩:=H.out.el (k:=0) (by omega);have CR:Hid (∀W,Below w.heap.size w W->Calls Tryz.prog 196 #[.slice (some ⟨b,off,none⟩) C.length cap] W fun e w'=>e=.returned (.bool (rightC C))/\Below W.heap.size W w'):=fun W hW=>right12 w.heap.size C _ W (H.out.on hW) hW.size;have HN:Hid (newF C=if rightC C then((C.getD 0 dv).p,(C.getD 0 dv).l)else(0,0)):=rfl;generalize newF C=y at*;generalize C.getD 0 dv=u at*;generalize rightC C=r1 at*;have h0':((C.length:Int)==0)=false:=by rw[beq_eq_false_iff_ne];omega
  have h00:(0:Int)<C.length:=by omega
  have HCk:Hid _:=hck;clear hck h0;go_enter Tryz.func205,Tryz.ntmps205;go_wp2_with fail;refine(CR.out _ HB0.out).mono ?_;rintro e w1 ⟨rfl,hb1⟩;have HB1:Hid (Below w.heap.size w w1):=HB0.out.trans (hb1.mono HB0.out.size);obtain⟨hc,hf⟩:=bcell hb1;have hz0:w.heap.size<w1.heap.size:=by have:=hb1.size;simp at this;omega
  have hck:=HCk.out.on HB1.out hb;clear HCk CR hb;obtain⟨yp,yl,yc,yn,ys,yd⟩:=u;obtain⟨m0,m1,-,-,-,-⟩:=hck;dsimp only at m0 m1;simp only[Nat.zero_mul,Nat.add_zero]at m0 m1;cases r1
  ·go_wp2_with fail;rw[HN.out];refine bodyPost_ret (v:=.agg #[uw 0,ui 0]) (by simp[results,Tryz.results205,go_sem,hc]) rfl ?_;exact⟨rfl,(HB1.out.setCell (by simp) _).setCell (by simp) _⟩
  ·go_wp2_with fail;rw[HN.out];refine bodyPost_ret (v:=.agg #[uw yp,ui yl]) (by simp[results,Tryz.results205,go_sem,hc]) rfl ?_;exact⟨rfl,(HB1.out.setCell (by simp) _).setCell (by simp) _⟩
theorem pruneF_bad{C:List Ve}{p l:Int}(h:rightC C=false):pruneF C p l=[]:=by unfold pruneF;rw[h];rfl
theorem pruneF_good{C:List Ve}{p l:Int}(h:rightC C=true):pruneF C p l=match C[seenN p l C]?with
  |some u=>if u.dead then C.take (seenN p l C)else C.take (seenN p l C+1)
  |none=>C:=by unfold pruneF;rw[if_pos h,pruneR_seen];cases C[seenN p l C]?<;>rfl
theorem prune17(B:Nat)(C:List Ve)(v:Value)(p l:Int)(w:World)(hv:VsAt B v C w)(hB:B<=w.heap.size):
  Calls Tryz.prog 146 #[v,.agg #[uw p,ui l]] w fun e w'=>∃v',e=.returned v'/\VsAt w'.heap.size v' (pruneF C p l) w'/\Below w.heap.size w w':=by
 have hv':=hv;obtain⟨ao,cap,rfl,hlc,hcm,-⟩:=hv;have H:Hid (VsAt w.heap.size (.slice ao C.length cap) C w):=hv'.le hB;clear hv' hB;have HSn:Hid (seenN p l C<=C.length):=seenN_le _ _ _;have HP1:Hid (rightC C=false->pruneF C p l=[]):=pruneF_bad;have HP2:Hid (rightC C=true->pruneF C p l=match C[seenN p l C]?with
  |some u=>if u.dead then C.take (seenN p l C)else C.take (seenN p l C+1)
  |none=>C):=pruneF_good
 have HRl:Hid (rightC C=true->C.length<=1000):=fun h=>(rightC_iff.1 h).len;have CR:Hid (∀W,Below w.heap.size w W->Calls Tryz.prog 196 #[.slice ao C.length cap] W fun e w'=>e=.returned (.bool (rightC C))/\Below W.heap.size W w'):=fun W hW=>right12 w.heap.size C _ W (H.out.on hW) hW.size;have CS:Hid (∀W,Below w.heap.size w W->Calls Tryz.prog 197 #[.slice ao C.length cap,.agg #[uw p,ui l]] W fun e w'=>e=.returned (iw (seenN p l C))/\Below W.heap.size W w'):=fun W hW=>seen21 w.heap.size C _ _ _ W (H.out.on hW) hW.size;have CC:Hid (∀W n,Below w.heap.size w W->n<=C.length->C.length<=1000->Calls Tryz.prog 47 #[.slice ao n cap] W fun e w'=>∃v',e=.returned v'/\VsAt w'.heap.size v' (C.take n) w'/\Below W.heap.size W w'):=fun W n hW hn hl=>clone27 w.heap.size (C.take n) _ W ((H.out.on hW).take hn) hW.size (by simp;omega);generalize pruneF C p l=y at*;generalize rightC C=r1 at*;generalize seenN p l C=k at*;have HB0:Hid (Below w.heap.size w (w.alloc (.cells #[uw p,ui l] 28))):=(Below.refl _ _).alloc (Nat.le_refl _) _;go_enter Tryz.func146,Tryz.ntmps146;go_wp2_with fail;refine(CR.out _ HB0.out).mono ?_;rintro e w1 ⟨rfl,hb1⟩;have HB1:Hid (Below w.heap.size w w1):=HB0.out.trans (hb1.mono HB0.out.size);obtain⟨hc,-⟩:=bcell hb1;have hz0:w.heap.size<w1.heap.size:=by have:=hb1.size;simp at this;omega
 cases r1
 ·have HE:Hid _:=HP1.out rfl;go_wp2_with fail;rw[HE.out];go_ret;exact⟨_,rfl,vs_nil _ _,HB1.out⟩
 ·have hl1000:C.length<=1000:=HRl.out (by trivial);go_wp2_with fail;refine(CS.out _ HB1.out).mono ?_;rintro e w2 ⟨rfl,hb2⟩;have HB2:Hid (Below w.heap.size w w2):=HB1.out.trans (hb2.mono HB1.out.size);have HE:Hid _:=HP2.out (by trivial);clear hc hb1 hb2;have hk:=HSn.out;by_cases hkl:k<C.length
  ·obtain⟨b,off,rfl,hb,hck⟩:=H.out.el hkl;have hck2:=hck.on HB2.out hb;have HG:Hid (y=if(C.getD k dv).dead then C.take k else C.take (k+1)):=by have:=HE.out;rw[getD_some hkl]at this;exact this
   clear hck HE CS CR HP2 HP1 hb;generalize C.getD k dv=u at hck2 HG;obtain⟨yp,yl,yc,yn,ys,yd⟩:=u;obtain⟨-,-,-,-,-,m5⟩:=hck2;dsimp only at m5;have hkl2:(k:Int)<C.length:=by omega
   cases yd
   ·have hkc:(k:Int)+1<=cap:=by omega
    have hkc0:0<=(k:Int)+1:=by omega
    have hwr:IntKind.i64.wrap ((k:Int)+1)=((k+1:Nat):Int):=by simp[IntKind.wrap,IntKind.signed,IntKind.bits];omega
    have hkc2:k+1<=cap:=by omega
    go_wp2_with fail;refine(CC.out _ (k+1) HB2.out (by omega) hl1000).mono ?_;rintro e w3 ⟨v',rfl,hv3,hb3⟩;have H3:Hid (VsAt w3.heap.size v' (C.take (k+1)) w3/\Below w.heap.size w w3):=⟨hv3,HB2.out.trans (hb3.mono HB2.out.size)⟩;clear hv3 hb3;go_wp2_with fail;rw[HG.out];go_ret;exact⟨_,rfl,H3.out.1,H3.out.2⟩
   ·have hkc:(k:Int)<=cap:=by omega
    go_wp2_with fail;refine(CC.out _ k HB2.out (by omega) hl1000).mono ?_;rintro e w3 ⟨v',rfl,hv3,hb3⟩;have H3:Hid (VsAt w3.heap.size v' (C.take k) w3/\Below w.heap.size w w3):=⟨hv3,HB2.out.trans (hb3.mono HB2.out.size)⟩;clear hv3 hb3;go_wp2_with fail;rw[HG.out];go_ret;exact⟨_,rfl,H3.out.1,H3.out.2⟩
  ·have HG:Hid (y=C.take k):=by have:=HE.out;rw[List.getElem?_eq_none (by omega)]at this;rw[this,List.take_of_length_le (by omega)];exact rfl
   have hkl':¬(k:Int)<C.length:=by omega
   have hkc:(k:Int)<=cap:=by omega
   clear HE CS CR HP2 HP1;go_wp2_with fail;refine(CC.out _ k HB2.out (by omega) hl1000).mono ?_;rintro e w3 ⟨v',rfl,hv3,hb3⟩;have H3:Hid (VsAt w3.heap.size v' (C.take k) w3/\Below w.heap.size w w3):=⟨hv3,HB2.out.trans (hb3.mono HB2.out.size)⟩;clear hv3 hb3;go_wp2_with fail;rw[HG.out];go_ret;exact⟨_,rfl,H3.out.1,H3.out.2⟩
open Go.RowKit
abbrev Sv:=Option Addr×Nat×Nat
abbrev Tr:=Go.Deep.BT (List UInt8×Sv)
abbrev Tr.nil:Tr:=Go.Deep.BT.nil
abbrev Tr.node(b:Nat)(l:Tr)(k:List UInt8)(v:Sv)(x:Nat)(r:Tr):Tr:=Go.Deep.BT.node b x (k,v) l r
theorem Tr.ind{motive:Tr->Prop}(nil:motive .nil)(node:∀(b:Nat) (l:Tr) (k:List UInt8) (v:Sv) (x:Nat) (r:Tr),motive l->motive r->motive (.node b l k v x r))(t:Tr):motive t:=by
 induction t with
 |nil=>exact nil
 |node b x a l r ihl ihr=>
  obtain⟨k,v⟩:=a;exact node b l k v x r ihl ihr
theorem Tr.cas{motive:Tr->Prop}(nil:motive .nil)(node:∀(b:Nat) (l:Tr) (k:List UInt8) (v:Sv) (x:Nat) (r:Tr),motive (.node b l k v x r))(t:Tr):motive t:=Tr.ind nil (fun b l k v x r _ _=>node b l k v x r) t
def Tr.toL:Tr->Kv Sv
 |Go.Deep.BT.nil=>[]
 |Go.Deep.BT.node _ _ (k,v) l r=>Tr.toL l++(k,v)::Tr.toL r
def Tr.ptr:Tr->Value
 |Go.Deep.BT.nil=>.pointer none
 |Go.Deep.BT.node b _ _ _ _=>.pointer (some ⟨b,0,none⟩)
def Tr.blocks:Tr->List Nat
 |Go.Deep.BT.nil=>[]
 |Go.Deep.BT.node b _ _ l r=>b::(Tr.blocks l++Tr.blocks r)
structure Lay where
 ty:TypeId
 cells:List UInt8->Sv->Nat->Value->Value->Array Value
def TrAt(Y:Lay):Tr->World->Prop
 |Go.Deep.BT.nil,_=>True
 |Go.Deep.BT.node b x (k,v) l r,w=>w.heap[b]?=some (.cells (Y.cells k v x (Tr.ptr l) (Tr.ptr r)) Y.ty (0,0))/\TrAt Y l w/\TrAt Y r w
theorem TrAt.lt{Y:Lay}{w:World}{t:Tr}:TrAt Y t w->∀b∈t.blocks,b<w.heap.size:=by
 induction t using Tr.ind with
 |nil=>
  intro _ b hb;simp[Tr.blocks]at hb
 |node c l k v x r ihl ihr=>
  intro h b hb;obtain⟨h1,h2,h3⟩:=h;simp only[Tr.blocks,List.mem_cons,List.mem_append]at hb;rcases hb with rfl|hb|hb
  ·exact(Array.getElem?_eq_some_iff.1 h1).1
  ·exact ihl h2 b hb
  ·exact ihr h3 b hb
theorem TrAt.kept{Y:Lay}{F:Nat->Prop}{w w':World}(hk:Kept F w w'){t:Tr}:TrAt Y t w->(∀b∈t.blocks,¬F b)->TrAt Y t w':=by
 induction t using Tr.ind with
 |nil=>exact fun _ _=>trivial
 |node c l k v x r ihl ihr=>
  intro h hF;obtain⟨h1,h2,h3⟩:=h;refine⟨?_,ihl h2 (fun b hb=>hF b (by simp[Tr.blocks,hb])),ihr h3 (fun b hb=>hF b (by simp[Tr.blocks,hb]))⟩;rw[hk.block c (Array.getElem?_eq_some_iff.1 h1).1 (hF c (by simp[Tr.blocks]))];exact h1
theorem TrAt.on{Y:Lay}{w w':World}{t:Tr}(h:TrAt Y t w)(hb:Below w.heap.size w w'):TrAt Y t w':=TrAt.kept (F:=fun _=>False) (Kept.of_below hb) h (fun _ _ h=>h)
theorem TrAt.new{Y:Lay}{w:World}{l r:Tr}(hl:TrAt Y l w)(hr:TrAt Y r w)(k:List UInt8)(v:Sv)(x:Nat):TrAt Y (.node w.heap.size l k v x r) (w.alloc (.cells (Y.cells k v x l.ptr r.ptr) Y.ty)):=
 ⟨heap_alloc_new w _,hl.on (al _),hr.on (al _)⟩
theorem TrAt.write{Y:Lay}{w w':World}{b:Nat}{l r:Tr}{k:List UInt8}{v:Sv}{x:Nat}(hk:Kept (fun c=>c=b) w w')(hb:w'.heap[b]?=some (.cells (Y.cells k v x l.ptr r.ptr) Y.ty (0,0)))(hl:TrAt Y l w)(hr:TrAt Y r w)(hnl:b∉l.blocks)(hnr:b∉r.blocks):TrAt Y (.node b l k v x r) w':=
 ⟨hb,TrAt.kept hk hl (fun _ hc e=>hnl (e▸hc)),TrAt.kept hk hr (fun _ hc e=>hnr (e▸hc))⟩
theorem block_set{w:World}{b j:Nat}{cs:Array Value}{ty:TypeId}(u:Value)(h:w.heap[b]?=some (.cells cs ty (0,0))):(w.setCell ⟨b,j,none⟩ u).heap[b]?=some (.cells (cs.setIfInBounds j u) ty (0,0)):=by show(w.heap.modify b _)[b]?=_;rw[Array.getElem?_modify,if_pos rfl,h];rfl
theorem set_kept'(w:World)(b j:Nat)(u:Value):Kept (fun c=>c=b) w (w.setCell ⟨b,j,none⟩ u):=by have hb:Below b w (w.setCell ⟨b,j,none⟩ u):=(Below.refl b w).setCell (p:=⟨b,j,none⟩) (Nat.le_refl b) u;exact⟨hb.os,hb.tape,hb.output,hb.size,fun k _ hF=>Below.heap_setCell w ⟨b,j,none⟩ u k hF⟩
theorem block_cell{w:World}{b j:Nat}{cs:Array Value}{ty:TypeId}{u:Value}(h:w.heap[b]?=some (.cells cs ty (0,0)))(hj:cs[j]?=some u):w.cell? ⟨b,j,none⟩=some u:=by unfold World.cell?;rw[h];exact hj
theorem block_frozen{w:World}{b:Nat}{cs:Array Value}{ty:TypeId}(h:w.heap[b]?=some (.cells cs ty (0,0)))(j:Nat):w.frozen? ⟨b,j,none⟩=false:=by unfold World.frozen?;rw[h];simp
def kc(K:List (List UInt8)):List Value:=K.map fun k=>sd k
theorem kc_length(K:List (List UInt8)):(kc K).length=K.length:=by simp[kc]
theorem kc_append(K R:List (List UInt8)):kc (K++R)=kc K++kc R:=by simp[kc]
theorem kc_one(K:List (List UInt8)):∀u∈kc K,u.oneCell'=true:=by intro u hu;obtain⟨_,_,rfl⟩:=List.mem_map.1 hu;rfl
theorem own_nil(base e size:Nat)(w:World):w.ownsRow base e size sy 0 []:=World.ownsRow_nil w base e size
theorem below_own{base e size:Nat}{v:Value}{n:Nat}{cs:List Value}{a w w':World}(hb:Below base a w)(hs:base<=w.heap.size)(hI:w.ownsRow base e size v n cs)(hg:w.grownBy w' v.ownBlock):Below base a w':=
 hb.grown hg hs fun k hk=>(World.ownsRow.lt hI k hk).1
theorem bl(a b:List UInt8):Op.bytesLess (bs a).toList (bs b).toList=ltK a b:=by rw[bs_list,bs_list];rfl
theorem info9:(Tryz.prog.info? 9).map (fun i=>(i.zero,i.size,i.bytes))=some (some su,1,16):=by kernel_rfl
theorem ks_one(w:World)(k:List UInt8):RwAt (w.heap.size+1) 1 (.slice (some ⟨w.heap.size,0,none⟩) 1 1) 1 (kc [k]) (w.alloc (.cells #[sd k] 9)):=by
 refine⟨_,1,rfl,rfl,Nat.le_refl _,by omega,fun _=>⟨w.heap.size,0,rfl,fun _=>Nat.lt_succ_self _,fun j u hj=>?_⟩⟩;match j,hj with
 |0,hj=>simp[kc]at hj;subst hj;simp[go_sem]
 |j+1,hj=>simp[kc]at hj
end Go.Proofs.YtdplfgcoaddbdaaGreat.Sto
