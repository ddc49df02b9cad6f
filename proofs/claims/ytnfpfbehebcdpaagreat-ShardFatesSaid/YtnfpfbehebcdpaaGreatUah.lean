import Derived.Deep.Trees
import Derived.Test.YtnfpfbehebcdpaaGreatUag
set_option maxHeartbeats 0
set_option maxRecDepth 99999
set_option linter.all false
namespace Go.Proofs.YtnfpfbehebcdpaaGreat.Sto
open Go.RowKit Go.Sort
def VeAt.six{w:World}{b:Nat}{p l c n:Int}{s:Bi}{d:Bool}(h:VeAt w b 0 ⟨p,l,c,n,s,d⟩):w.cell? ⟨b,0,none⟩=some (uw p)/\w.cell? ⟨b,1,none⟩=some (ui l)/\w.cell? ⟨b,2,none⟩=some (ui c)/\w.cell? ⟨b,3,none⟩=some (ui n)/\w.cell? ⟨b,4,none⟩=some (sd s)/\w.cell? ⟨b,5,none⟩=some (.bool d):=by obtain⟨e0,e1,e2,e3,e4,e5⟩:=h;dsimp only at e0 e1 e2 e3 e4 e5;simp only[ni]at e1 e2 e3 e4 e5;exact⟨e0,e1,e2,e3,e4,e5⟩
def acs(w:World)(p l c n:Int)(s:Bi)(d:Bool):VeAt (w.alloc (.cells #[uw p,ui l,ui c,ui n,sd s,.bool d] 63)) w.heap.size 0 ⟨p,l,c,n,s,d⟩:=
 ⟨by simp[go_sem],by simp[go_sem],by simp[go_sem],by simp[go_sem],by simp[go_sem],by simp[go_sem],_,_,ae w _⟩
structure Bx(w:World)(bx:Nat)(x:Ve)(W:World):Prop where
 box:VeAt W bx 0 x
 bel:Bw w W
def Bx.on{w W W':World}{bx:Nat}{x:Ve}(h:Bx w bx x W)(hb:Bw W W'):Bx w bx x W':=
 ⟨h.box.on hb (ed _ _ h.box.c0),h.bel.trans (hb.mono h.bel.size)⟩
def Bx.dr{w W:World}{bx:Nat}{x:Ve}(h:Bx w bx x W):Bx w bx x W.drew:=h.on (aj _ _).drew
def Bx.s7{w W:World}{bx:Nat}{p l c n:Int}{s:Bi}{d:Bool}(h:Bx w bx ⟨p,l,c,n,s,d⟩ W):W.cell? ⟨bx,0,none⟩=some (uw p)/\W.cell? ⟨bx,1,none⟩=some (ui l)/\W.cell? ⟨bx,2,none⟩=some (ui c)/\W.cell? ⟨bx,3,none⟩=some (ui n)/\W.cell? ⟨bx,4,none⟩=some (sd s)/\W.cell? ⟨bx,5,none⟩=some (.bool d)/\Hid (Bx w bx ⟨p,l,c,n,s,d⟩ W):=
 ⟨h.box.six.1,h.box.six.2.1,h.box.six.2.2.1,h.box.six.2.2.2.1,h.box.six.2.2.2.2.1,h.box.six.2.2.2.2.2,h⟩
def aw8(w:World)(p l c n:Int)(s:Bi)(d:Bool):VsAt (w.heap.size+1) (.slice (some ⟨w.heap.size,0,none⟩) 1 1) [⟨p,l,c,n,s,d⟩] (w.alloc (.cells #[uw p,ui l,ui c,ui n,sd s,.bool d] 63)):=by
 refine⟨_,1,rfl,ai _,by omega,λ_=>⟨w.heap.size,0,rfl,λ_=>kw _,λi hi=>?_⟩⟩;have hi0:i=0:=by simpa using hi
 subst hi0;exact acs w p l c n s d
def cat3(w W:World)(bx:Nat)(p l c n:Int)(s:Bi)(d:Bool)(C:List Ve)(ao:Option Addr)(vg:Value)(cap k:Nat)(hW:Bx w bx ⟨p,l,c,n,s,d⟩ W)(hv:VsAt w.heap.size (.slice ao C.length cap) C w)(hg:VsAt w.heap.size vg (C.drop k) w)(hk:k<=C.length)(hl:C.length<=1000):
  cpr 229 #[.slice (some ⟨W.heap.size+1,0,none⟩) 3 3] ((W.alloc (.cells #[uw p,ui l,ui c,ui n,sd s,.bool d] 63)).alloc (.cells #[.slice ao k cap,.slice (some ⟨W.heap.size,0,none⟩) 1 1,vg] 59)).drew λe w'=>∃v',e=.returned v'/\VsAt w'.heap.size v' (C.take k++⟨p,l,c,n,s,d⟩::C.drop k) w'/\Bx w bx ⟨p,l,c,n,s,d⟩ w':=by
 have b1:Bw W (W.alloc (.cells #[uw p,ui l,ui c,ui n,sd s,.bool d] 63)):=al _;have hone:=aw8 W p l c n s d;obtain⟨W1,hW1⟩:∃W1,W1=W.alloc (.cells #[uw p,ui l,ui c,ui n,sd s,.bool d] 63):=⟨_,rfl⟩;rw[<-hW1]at b1 hone|-;have hs1:W1.heap.size=W.heap.size+1:=by rw[hW1];simp
 clear hW1;obtain⟨W2,hW2⟩:∃W2,W2=(W1.alloc (.cells #[.slice ao k cap,.slice (some ⟨W.heap.size,0,none⟩) 1 1,vg] 59)).drew:=⟨_,rfl⟩;have b2:Bw W1 W2:=by rw[hW2];exact(al _).drew
 have hc0:W2.cell? ⟨W.heap.size+1,0,none⟩=some (.slice ao k cap):=by rw[hW2,<-hs1];simp[go_sem]
 have hc1:W2.cell? ⟨W.heap.size+1,1,none⟩=some (.slice (some ⟨W.heap.size,0,none⟩) 1 1):=by rw[hW2,<-hs1];simp[go_sem]
 have hc2:W2.cell? ⟨W.heap.size+1,2,none⟩=some vg:=by rw[hW2,<-hs1];simp[go_sem]
 rw[<-hW2];clear hW2;have hs:=hW.bel.size;have b3:Bw W W2:=b1.trans (b2.mono (by omega));have h0:VsAt (W.heap.size+1) (.slice ao k cap) (C.take k) W2:=(((hv.on hW.bel).take hk).le hs |>.on b3).le (by omega);have h1:VsAt (W.heap.size+1) (.slice (some ⟨W.heap.size,0,none⟩) 1 1) [⟨p,l,c,n,s,d⟩] W2:=hone.on (b2.mono (by omega));have h2:VsAt (W.heap.size+1) vg (C.drop k) W2:=((hg.on hW.bel).le hs |>.on b3).le (by omega);have hcat:cat [(.slice ao k cap,C.take k),(.slice (some ⟨W.heap.size,0,none⟩) 1 1,[⟨p,l,c,n,s,d⟩]),(vg,C.drop k)]=C.take k++⟨p,l,c,n,s,d⟩::C.drop k:=by simp[cat]
 refine(arj (W.heap.size+1) (W.heap.size+1) [(.slice ao k cap,C.take k),(.slice (some ⟨W.heap.size,0,none⟩) 1 1,[⟨p,l,c,n,s,d⟩]),(vg,C.drop k)] W2 ?_ ?_ (ed _ _ hc0) (by have:=b2.size;omega) (by rw[hcat];simp;omega) (by simp)).mono ?_
 .intro i hi;match i,hi with
  |0,_=>exact hc0
  |1,_=>exact hc1
  |2,_=>exact hc2
 .intro i hi;match i,hi with
  |0,_=>exact h0
  |1,_=>exact h1
  |2,_=>exact h2
 .rintro e w' ⟨v',rfl,hv',hb'⟩;rw[hcat]at hv';exact⟨v',rfl,hv',(hW.on b3).on hb'⟩
def put8(B:Nat)(C:List Ve)(v:Value)(x:Ve)(w:World)(hv:VsAt B v C w)(hB:B<=w.heap.size):
  cpr 186 #[v,veV x] w λe w'=>∃v',e=.returned (.tuple #[v',iw (putF C x).2])/\VsAt w'.heap.size v' (putF C x).1 w'/\Bw w w':=by
 have hv':=hv;obtain⟨ao,cap,rfl,hlc,hcm,-⟩:=hv;have H:Hid (VsAt w.heap.size (.slice ao C.length cap) C w):=hv'.le hB;clear hv' hB;have HSn:Hid (Dt x.p x.l C<=C.length):=Qu _ _ _;have HP1:Hid ((Dl C&&vOk x)=false->putF C x=([],1)):=aox;have HP2:Hid (∀u,(Dl C&&vOk x)=true->C[Dt x.p x.l C]?=some u->atB u x=true->eqV u x=true->putF C x=(C,0)):=λu h1 h2 h3 h4=>aow h1 h2 h3 h4;have HP3:Hid (∀u,(Dl C&&vOk x)=true->C[Dt x.p x.l C]?=some u->atB u x=true->eqV u x=false->putF C x=([],40)):=λu h1 h2 h3 h4=>alg h1 h2 h3 h4;have HP4:Hid ((Dl C&&vOk x)=true->(∀u,C[Dt x.p x.l C]?=some u->atB u x=false)->putF C x=if 1000<=C.length then([],3)else(C.take (Dt x.p x.l C)++x::C.drop (Dt x.p x.l C),0)):=alf;have HRl:Hid (Dl C=true->C.length<=1000):=λh=>(O8.1 h).len;have CR:Hid (∀W,Bw w W->cpr 33 #[.slice ao C.length cap] W λe w'=>e=.returned (.bool (Dl C))/\Bw W w'):=λW hW=>Yo w.heap.size C _ W (H.out.on hW) hW.size;have CS:Hid (∀W,Bw w W->cpr 34 #[.slice ao C.length cap,.agg #[uw x.p,ui x.l]] W λe w'=>e=.returned (iw (Dt x.p x.l C))/\Bw W w'):=λW hW=>agz w.heap.size C _ _ _ W (H.out.on hW) hW.size;have CF:Hid (∀W,1=1->cpr 83 #[veV x] W λe w'=>e=.returned (.bool (vOk x))/\Bw W w'):=λW _=>ah3 x W;have CA:Hid (∀W k,Bw w W->k<C.length->C.length<=1000->cpr 228 #[.slice ao C.length cap,iw (k:Nat),veV x] W λe w'=>∃v',e=.returned (.tuple #[v',iw (if eqV (C.getD k dv) x then 0 else 40)])/\VsAt w'.heap.size v' (if eqV (C.getD k dv) x then C else[]) w'/\Bw W w'):=λW k hW hk hl=>awg w.heap.size C _ k x W (H.out.on hW) hW.size hk (by omega);generalize putF C x=y at*;generalize Dl C=r1 at*;generalize vOk x=r2 at*;generalize Dt x.p x.l C=k at*;obtain⟨D,er⟩:=y;obtain⟨xp,xl,xc,xn,xs,xd⟩:=x;unfold veV at*;dsimp only at*;have HB0:Hid (Bx w w.heap.size ⟨xp,xl,xc,xn,xs,xd⟩ (w.alloc (.cells #[uw xp,ui xl,ui xc,ui xn,sd xs,.bool xd] 63))):=⟨acs _ _ _ _ _ _ _,al _⟩;go_enter Tryz.func186,Tryz.ntmps186;go_wp2_with fail;refine(CR.out _ HB0.out.bel).mono ?_;rintro e w1 ⟨rfl,hb1⟩;have HB1:Hid (Bx w w.heap.size ⟨xp,xl,xc,xn,xs,xd⟩ w1):=HB0.out.on hb1;clear hb1 HB0;cases r1
 .have HE:Hid _:=HP1.out rfl;go_wp2_with fail;have he:=HE.out;injection he with he1 he2;subst he1 he2;refine az (v:=.tuple #[sy,iw 1]) (by simp[results,Tryz.results186,go_sem]) rfl ?_;exact⟨_,rfl,Og _ _,HB1.out.bel⟩
 .have zc0:=HB1.out.box.six;go_wp2_with fail;refine(CF.out _ (by trivial)).mono ?_;rintro e w2 ⟨rfl,hb2⟩;have HB2:Hid (Bx w w.heap.size ⟨xp,xl,xc,xn,xs,xd⟩ w2):=HB1.out.on hb2;clear hb2 HB1 zc0;cases r2
  .have HE:Hid _:=HP1.out rfl;go_wp2_with fail;have he:=HE.out;injection he with he1 he2;subst he1 he2;refine az (v:=.tuple #[sy,iw 1]) (by simp[results,Tryz.results186,go_sem]) rfl ?_;exact⟨_,rfl,Og _ _,HB2.out.bel⟩
  .have hl1000:C.length<=1000:=HRl.out (by trivial);have zc0:=HB2.out.box.six;go_wp2_with fail;refine(CS.out _ HB2.out.bel).mono ?_;rintro e w3 ⟨rfl,hb3⟩;have HB3:Hid (Bx w w.heap.size ⟨xp,xl,xc,xn,xs,xd⟩ w3):=HB2.out.on hb3;clear hb3 HB2 zc0;have hk:=HSn.out;by_cases hkl:k<C.length
   .obtain⟨b,off,rfl,hb,hck⟩:=(H.out.on HB3.out.bel).el hkl;have HG:Hid (C[k]?=some (C.getD k dv)):=getD_some hkl;have CA':Hid (∀W,Bw w W->1=1->_):=λW hW _=>CA.out W k hW hkl hl1000;clear CA CR CS CF HP1 hb;generalize C.getD k dv=y at hck HG CA';obtain⟨yp,yl,yc,yn,ys,yd⟩:=y;obtain⟨m0,m1,-,-,-,-⟩:=hck;dsimp only at m0 m1;have hrun:=ak6 yp yl xp xl;have HAt:Hid (atB ⟨yp,yl,yc,yn,ys,yd⟩ ⟨xp,xl,xc,xn,xs,xd⟩=eqB yp yl xp xl):=rfl;obtain⟨z,hz⟩:=xj (eqB yp yl xp xl);rw[hz]at hrun HAt;clear hz;have hkl':(k:Int)<C.length:=by omega
    have zc0:=HB3.out.box.six;cases z
    .have HNo:Hid (∀u,C[k]?=some u->atB u ⟨xp,xl,xc,xn,xs,xd⟩=false):=λu hu=>by rw[HG.out]at hu;injection hu with hu;subst hu;exact HAt.out
     clear HG HAt HP2 HP3 CA';have hne:¬cap=k:=by omega
     have hdr:=H.out.drop hk;rw[ag hne]at hdr;simp only[yg,uo]at hdr;have HDr:Hid _:=hdr;clear hdr;go_wp2_with fail
     go_quiet (fail)
     rename_i nq;clear m0 m1;exact amb
    .go_wp2_with fail
     go_quiet (fail)
     rename_i nq;have HB4:Hid (Bx w w.heap.size ⟨xp,xl,xc,xn,xs,xd⟩ (w3.drewN nq)):=HB3.out.on (below_drewN (aj _ _) _);clear HB3 zc0;generalize w3.drewN nq=w4 at*;have zc0:=HB4.out.box.six;go_wp2_with fail;refine(CA'.out _ HB4.out.bel (by trivial)).mono ?_;rintro e w5 ⟨v',rfl,hv5,hb5⟩;obtain⟨q,hq⟩:=xj (eqV ⟨yp,yl,yc,yn,ys,yd⟩ ⟨xp,xl,xc,xn,xs,xd⟩);rw[hq]at hv5|-;have H5:Hid (VsAt w5.heap.size v' (if q then C else[]) w5/\Bw w w5):=⟨hv5,HB4.out.bel.trans (hb5.mono HB4.out.bel.size)⟩;clear hv5 hb5;cases q
     .have HE:Hid _:=HP3.out _ (by trivial) HG.out HAt.out hq;clear hq;go_wp2_with fail;have he:=HE.out;injection he with he1 he2;subst he1 he2;refine az (v:=.tuple #[v',iw 40]) (by simp[results,Tryz.results186,go_sem]) rfl ?_;exact⟨_,rfl,H5.out.1,H5.out.2⟩
     .have HE:Hid _:=HP2.out _ (by trivial) HG.out HAt.out hq;clear hq;go_wp2_with fail;have he:=HE.out;injection he with he1 he2;subst he1 he2;refine az (v:=.tuple #[v',iw 0]) (by simp[results,Tryz.results186,go_sem]) rfl ?_;exact⟨_,rfl,H5.out.1,H5.out.2⟩
   .have HNo:Hid (∀u,C[k]?=some u->atB u ⟨xp,xl,xc,xn,xs,xd⟩=false):=λu hu=>by rw[tu (by omega)]at hu;cases hu
    have hkl':¬(k:Int)<C.length:=by omega
    clear CA CR CS CF HP1 HP2 HP3;have hdr:=H.out.drop hk;by_cases hne:cap=k
    .rw[ah hne]at hdr;subst hne;rw[Nat.sub_self,Nat.sub_eq_zero_of_le hlc]at hdr;have HDr:Hid _:=hdr;clear hdr;have zc0:=HB3.out.box.six;go_wp2_with fail
     go_quiet (fail)
     rename_i nq;have HB4:Hid (Bx w w.heap.size ⟨xp,xl,xc,xn,xs,xd⟩ (w3.drewN nq)):=HB3.out.on (below_drewN (aj _ _) _);clear HB3 zc0;generalize w3.drewN nq=w4 at*;have HP5:Hid _:=HP4.out (by trivial) HNo.out;clear HP4 HNo;by_cases hfull:C.length=1000
     .have hfull':((C.length:Int)==1000)=true:=by simp;omega
      have HE:Hid ((D,er)=([],3)):=by rw[HP5.out,ah (by omega)];exact rfl
      clear HP5 hfull;go_wp2_with fail;have he:=HE.out;injection he with he1 he2;subst he1 he2;refine az (v:=.tuple #[sy,iw 3]) (by simp[results,Tryz.results186,go_sem]) rfl ?_;exact⟨_,rfl,Og _ _,HB4.out.bel⟩
     .have hfull':((C.length:Int)==1000)=false:=by simp;omega
      have HE:Hid ((D,er)=(C.take cap++⟨xp,xl,xc,xn,xs,xd⟩::C.drop cap,0)):=by rw[HP5.out,ag (by omega)];exact rfl
      clear HP5 hfull;have HCt:Hid (∀W,Bx w w.heap.size ⟨xp,xl,xc,xn,xs,xd⟩ W->_):=λW hW=>cat3 w W _ _ _ _ _ _ _ C _ _ cap cap hW H.out HDr.out hk hl1000;go_wp2_with fail;go_region_held3 (λw'=>w'.cell? ⟨w.heap.size,0,none⟩=some (uw xp)/\w'.cell? ⟨w.heap.size,1,none⟩=some (ui xl)/\w'.cell? ⟨w.heap.size,2,none⟩=some (ui xc)/\w'.cell? ⟨w.heap.size,3,none⟩=some (ui xn)/\w'.cell? ⟨w.heap.size,4,none⟩=some (sd xs)/\w'.cell? ⟨w.heap.size,5,none⟩=some (.bool xd)/\Hid (Bx w w.heap.size ⟨xp,xl,xc,xn,xs,xd⟩ w')) (first|exact HB4.out.dr.s7|exact(HB4.out.on ((al _).drew)).s7|exact(HB4.out.on (((al _).alloc (by simp) _).drew)).s7|exact HB5.out.s7) (first
       |(go_at_call 229;refine(HCt.out _ HB4.out).mono ?_;rintro e w5 ⟨v5,rfl,hv5,hb5⟩;have H5:Hid (VsAt w5.heap.size v5 (C.take cap++⟨xp,xl,xc,xn,xs,xd⟩::C.drop cap) w5):=hv5;have HB5:Hid (Bx w w.heap.size ⟨xp,xl,xc,xn,xs,xd⟩ w5):=hb5;clear hv5 hb5))
      go_wp2_with fail;have he:=HE.out;injection he with he1 he2;subst he1 he2;refine az (v:=.tuple #[v5,iw 0]) (by simp[results,Tryz.results186,go_sem]) rfl ?_;exact⟨_,rfl,H5.out,HB5.out.bel⟩
    .rw[ag hne]at hdr;obtain⟨b,off,rfl⟩:∃b off,ao=some ⟨b,off,none⟩:=by obtain⟨ao',cap',e,_,_,h⟩:=H.out;simp only[ku]at e;obtain⟨rfl,_,rfl⟩:=e;obtain⟨b,off,rfl,_⟩:=h (by omega);exact⟨b,off,rfl⟩
     simp only[yg,uo]at hdr;have HDr:Hid _:=hdr;clear hdr;have zc0:=HB3.out.box.six;go_wp2_with fail
     go_quiet (fail)
     rename_i nq;exact amb
def avz{C:List Ve}{p l:Int}(h:Dl C=false):atF C p l=none:=by unfold atF;rw[h];rfl
def art{C:List Ve}{p l:Int}(h:Dl C=true):atF C p l=C[Dt p l C]?:=by unfold atF;rw[ah h,agf]
def at10(B:Nat)(C:List Ve)(v:Value)(p l:Int)(w:World)(hv:VsAt B v C w)(hB:B<=w.heap.size):
  cpr 17 #[v,.agg #[uw p,ui l]] w λe w'=>e=.returned (.tuple #[veV ((atF C p l).getD dv),.bool (atF C p l).isSome])/\Bw w w':=by
 have hv':=hv;obtain⟨ao,cap,rfl,hlc,hcm,-⟩:=hv;have H:Hid (VsAt w.heap.size (.slice ao C.length cap) C w):=hv'.le hB;clear hv' hB;have HSn:Hid (Dt p l C<=C.length):=Qu _ _ _;have HP1:Hid (Dl C=false->atF C p l=none):=avz;have HP2:Hid (Dl C=true->atF C p l=C[Dt p l C]?):=art;have CR:Hid (∀W,Bw w W->cpr 33 #[.slice ao C.length cap] W λe w'=>e=.returned (.bool (Dl C))/\Bw W w'):=λW hW=>Yo w.heap.size C _ W (H.out.on hW) hW.size;have CS:Hid (∀W,Bw w W->cpr 34 #[.slice ao C.length cap,.agg #[uw p,ui l]] W λe w'=>e=.returned (iw (Dt p l C))/\Bw W w'):=λW hW=>agz w.heap.size C _ _ _ W (H.out.on hW) hW.size;generalize atF C p l=y at*;generalize Dl C=r1 at*;generalize Dt p l C=k at*;have HB0:Hid (Bw w ((w.alloc (.cells #[uw p,ui l] 38)).alloc (.cells #[uw 0,ui 0,ui 0,ui 0,su,.bool false] 63))):=(al _).alloc (by simp) _;go_enter Tryz.func17,Tryz.ntmps17;go_wp2_with fail;refine(CR.out _ HB0.out).mono ?_;rintro e w1 ⟨rfl,hb1⟩;have HB1:Hid (Bw w w1):=HB0.out.trans (hb1.mono HB0.out.size);obtain⟨hc,hf⟩:=Fe hb1;have hz1:w.heap.size+1<w1.heap.size:=by have:=hb1.size;simp at this;omega
 have hz0:w.heap.size<w1.heap.size:=by omega
 cases r1
 .have HE:Hid _:=HP1.out rfl;go_wp2_with fail;rw[HE.out];refine az (v:=.tuple #[veV dv,.bool false]) (by simp[results,Tryz.results17,go_sem,hc,veV,dv,bs]) rfl ?_;refine⟨rfl,?_⟩;exact((((((HB1.out.setCell (by simp) _).setCell (by simp) _).setCell (by simp) _).setCell (by simp) _).setCell (by simp) _).setCell (by simp) _)
 .go_wp2_with fail;refine(CS.out _ HB1.out).mono ?_;rintro e w2 ⟨rfl,hb2⟩;have HB2:Hid (Bw w w2):=HB1.out.trans (hb2.mono HB1.out.size);obtain⟨hc2,hf2⟩:=Fe hb2;have hy2:w.heap.size+1<w2.heap.size:=by have:=hb2.size;omega
  have hy0:w.heap.size<w2.heap.size:=by omega
  have HE:Hid _:=HP2.out (by trivial);have hk:=HSn.out;by_cases hkl:k<C.length
  .obtain⟨b,off,rfl,hb,hck⟩:=H.out.el hkl;have hck2:=hck.on HB2.out hb;have HG:Hid (y=some (C.getD k dv)):=by rw[HE.out];exact getD_some hkl
   clear hck HE CS CR HP2 HP1 hb;generalize C.getD k dv=u at hck2 HG;obtain⟨yp,yl,yc,yn,ys,yd⟩:=u;obtain⟨m0,m1,m2,m3,m4,m5⟩:=hck2;dsimp only at m0 m1 m2 m3 m4 m5;have hkl':((k:Int)==C.length)=false:=by simp;omega
   have hkl2:(k:Int)<C.length:=by omega
   go_wp2_with fail;rw[HG.out];refine az (v:=.tuple #[veV ⟨yp,yl,yc,yn,ys,yd⟩,.bool true]) (by simp[results,Tryz.results17,go_sem,hc2,hc,hz1,veV]) rfl ?_;exact bb4
  .have HG:Hid (y=none):=by rw[HE.out];exact tu (by omega)
   have hkl':((k:Int)==C.length)=true:=by simp;omega
   clear HE CS CR HP2 HP1;go_wp2_with fail;rw[HG.out];refine az (v:=.tuple #[veV dv,.bool false]) (by simp[results,Tryz.results17,go_sem,hc2,hc,hz1,veV,dv,bs]) rfl ?_;exact bb4
def newF(C:List Ve):Int×Int:=if Dl C then((C.getD 0 dv).p,(C.getD 0 dv).l)else(0,0)
def apk:newF []=(0,0):=by simp[newF,dv]
def apj(B:Nat)(C:List Ve)(v:Value)(w:World)(hv:VsAt B v C w)(hB:B<=w.heap.size):
  cpr 233 #[v] w λe w'=>e=.returned (.agg #[uw (newF C).1,ui (newF C).2])/\Bw w w':=by
 have hv':=hv;obtain⟨ao,cap,rfl,hlc,hcm,-⟩:=hv;have H:Hid (VsAt w.heap.size (.slice ao C.length cap) C w):=hv'.le hB;clear hv' hB;have HB0:Hid (Bw w (w.alloc (.cells #[uw 0,ui 0] 38))):=al _;by_cases h0:C.length=0
 .have:C=[]:=lm h0;subst this;rw[apk];clear h0;go_enter Tryz.func233,Tryz.ntmps233;go_wp2_with fail;refine az (v:=.agg #[uw 0,ui 0]) (by simp[results,Tryz.results233,go_sem]) rfl ?_;exact⟨rfl,HB0.out⟩
 .obtain⟨b,off,rfl,hb,hck⟩:=H.out.el (k:=0) (by omega);have CR:Hid (∀W,Bw w W->cpr 33 #[.slice (some ⟨b,off,none⟩) C.length cap] W λe w'=>e=.returned (.bool (Dl C))/\Bw W w'):=λW hW=>Yo w.heap.size C _ W (H.out.on hW) hW.size;have HN:Hid (newF C=if Dl C then((C.getD 0 dv).p,(C.getD 0 dv).l)else(0,0)):=rfl;generalize newF C=y at*;generalize C.getD 0 dv=u at*;generalize Dl C=r1 at*;have h0':((C.length:Int)==0)=false:=by rw[jb];omega
  have h00:(0:Int)<C.length:=by omega
  have HCk:Hid _:=hck;clear hck h0;go_enter Tryz.func233,Tryz.ntmps233;go_wp2_with fail;refine(CR.out _ HB0.out).mono ?_;rintro e w1 ⟨rfl,hb1⟩;have HB1:Hid (Bw w w1):=HB0.out.trans (hb1.mono HB0.out.size);obtain⟨hc,hf⟩:=Fe hb1;have hz0:w.heap.size<w1.heap.size:=by have:=hb1.size;simp at this;omega
  have hck:=HCk.out.on HB1.out hb;clear HCk CR hb;obtain⟨yp,yl,yc,yn,ys,yd⟩:=u;obtain⟨m0,m1,-,-,-,-⟩:=hck;dsimp only at m0 m1;simp only[Nat.zero_mul,Nat.add_zero]at m0 m1;cases r1
  .go_wp2_with fail;rw[HN.out];refine az (v:=.agg #[uw 0,ui 0]) (by simp[results,Tryz.results233,go_sem,hc]) rfl ?_;exact⟨rfl,(HB1.out.setCell (by simp) _).setCell (by simp) _⟩
  .go_wp2_with fail;rw[HN.out];refine az (v:=.agg #[uw yp,ui yl]) (by simp[results,Tryz.results233,go_sem,hc]) rfl ?_;exact⟨rfl,(HB1.out.setCell (by simp) _).setCell (by simp) _⟩
def ahd{C:List Ve}{p l:Int}(h:Dl C=false):Dc C p l=[]:=by unfold Dc;rw[h];rfl
def afb{C:List Ve}{p l:Int}(h:Dl C=true):Dc C p l=match C[Dt p l C]?with
  |some u=>if u.dead then C.take (Dt p l C)else C.take (Dt p l C+1)
  |none=>C:=by unfold Dc;rw[ah h,X7];cases C[Dt p l C]?<;>rfl
def atq(B:Nat)(C:List Ve)(v:Value)(p l:Int)(w:World)(hv:VsAt B v C w)(hB:B<=w.heap.size):
  cpr 120 #[v,.agg #[uw p,ui l]] w λe w'=>∃v',e=.returned v'/\VsAt w'.heap.size v' (Dc C p l) w'/\Bw w w':=by
 have hv':=hv;obtain⟨ao,cap,rfl,hlc,hcm,-⟩:=hv;have H:Hid (VsAt w.heap.size (.slice ao C.length cap) C w):=hv'.le hB;clear hv' hB;have HSn:Hid (Dt p l C<=C.length):=Qu _ _ _;have HP1:Hid (Dl C=false->Dc C p l=[]):=ahd;have HP2:Hid (Dl C=true->Dc C p l=match C[Dt p l C]?with
  |some u=>if u.dead then C.take (Dt p l C)else C.take (Dt p l C+1)
  |none=>C):=afb
 have HRl:Hid (Dl C=true->C.length<=1000):=λh=>(O8.1 h).len;have CR:Hid (∀W,Bw w W->cpr 33 #[.slice ao C.length cap] W λe w'=>e=.returned (.bool (Dl C))/\Bw W w'):=λW hW=>Yo w.heap.size C _ W (H.out.on hW) hW.size;have CS:Hid (∀W,Bw w W->cpr 34 #[.slice ao C.length cap,.agg #[uw p,ui l]] W λe w'=>e=.returned (iw (Dt p l C))/\Bw W w'):=λW hW=>agz w.heap.size C _ _ _ W (H.out.on hW) hW.size;have CC:Hid (∀W n,Bw w W->n<=C.length->C.length<=1000->cpr 81 #[.slice ao n cap] W λe w'=>∃v',e=.returned v'/\VsAt w'.heap.size v' (C.take n) w'/\Bw W w'):=λW n hW hn hl=>akj w.heap.size (C.take n) _ W ((H.out.on hW).take hn) hW.size (by simp;omega);generalize Dc C p l=y at*;generalize Dl C=r1 at*;generalize Dt p l C=k at*;have HB0:Hid (Bw w (w.alloc (.cells #[uw p,ui l] 38))):=al _;go_enter Tryz.func120,Tryz.ntmps120;go_wp2_with fail;refine(CR.out _ HB0.out).mono ?_;rintro e w1 ⟨rfl,hb1⟩;have HB1:Hid (Bw w w1):=HB0.out.trans (hb1.mono HB0.out.size);obtain⟨hc,-⟩:=Fe hb1;have hz0:w.heap.size<w1.heap.size:=by have:=hb1.size;simp at this;omega
 cases r1
 .have HE:Hid _:=HP1.out rfl;go_wp2_with fail;rw[HE.out];go_ret;exact⟨_,rfl,Og _ _,HB1.out⟩
 .have hl1000:C.length<=1000:=HRl.out (by trivial);go_wp2_with fail;refine(CS.out _ HB1.out).mono ?_;rintro e w2 ⟨rfl,hb2⟩;have HB2:Hid (Bw w w2):=HB1.out.trans (hb2.mono HB1.out.size);have HE:Hid _:=HP2.out (by trivial);clear hc hb1 hb2;have hk:=HSn.out;by_cases hkl:k<C.length
  .obtain⟨b,off,rfl,hb,hck⟩:=H.out.el hkl;have hck2:=hck.on HB2.out hb;have HG:Hid (y=if(C.getD k dv).dead then C.take k else C.take (k+1)):=by have:=HE.out;rw[getD_some hkl]at this;exact this
   clear hck HE CS CR HP2 HP1 hb;generalize C.getD k dv=u at hck2 HG;obtain⟨yp,yl,yc,yn,ys,yd⟩:=u;obtain⟨-,-,-,-,-,m5⟩:=hck2;dsimp only at m5;have hkl2:(k:Int)<C.length:=by omega
   cases yd
   .have hkc:(k:Int)+1<=cap:=by omega
    have hkc0:0<=(k:Int)+1:=by omega
    have hwr:IntKind.i64.wrap ((k:Int)+1)=((k+1:Nat):Int):=by simp[IntKind.wrap,IntKind.signed,IntKind.bits];omega
    have hkc2:k+1<=cap:=by omega
    go_wp2_with fail;refine(CC.out _ (k+1) HB2.out (by omega) hl1000).mono ?_;rintro e w3 ⟨v',rfl,hv3,hb3⟩;have H3:Hid (VsAt w3.heap.size v' (C.take (k+1)) w3/\Bw w w3):=⟨hv3,HB2.out.trans (hb3.mono HB2.out.size)⟩;clear hv3 hb3;go_wp2_with fail;rw[HG.out];go_ret;exact⟨_,rfl,H3.out.1,H3.out.2⟩
   .have hkc:(k:Int)<=cap:=by omega
    exact azx
  .have HG:Hid (y=C.take k):=by have:=HE.out;rw[tu (by omega)]at this;rw[this,ay (by omega)];exact rfl
   have hkl':¬(k:Int)<C.length:=by omega
   have hkc:(k:Int)<=cap:=by omega
   clear HE CS CR HP2 HP1;exact azx
open Go.RowKit
abbrev Sv:=Option Addr×Nat×Nat
abbrev Tr:=Go.Deep.BT (Bi×Sv)
abbrev Tr.nil:Tr:=Go.Deep.BT.nil
abbrev Tr.node(b:Nat)(l:Tr)(k:Bi)(v:Sv)(x:Nat)(r:Tr):Tr:=Go.Deep.BT.node b x (k,v) l r
def Tr.ind{motive:Tr->Prop}(nil:motive .nil)(node:∀(b:Nat) (l:Tr) (k:Bi) (v:Sv) (x:Nat) (r:Tr),motive l->motive r->motive (.node b l k v x r))(t:Tr):motive t:=by
 induction t with
 |nil=>exact nil
 |node b x a l r ihl ihr=>
  obtain⟨k,v⟩:=a;exact node b l k v x r ihl ihr
def Tr.cas{motive:Tr->Prop}(nil:motive .nil)(node:∀(b:Nat) (l:Tr) (k:Bi) (v:Sv) (x:Nat) (r:Tr),motive (.node b l k v x r))(t:Tr):motive t:=Tr.ind nil (λb l k v x r _ _=>node b l k v x r) t
def Tr.toL:Tr->Kv Sv
 |Go.Deep.BT.nil=>[]
 |Go.Deep.BT.node _ _ (k,v) l r=>Tr.toL l++(k,v)::Tr.toL r
def Tr.ptr:Tr->Value
 |Go.Deep.BT.nil=>.pointer none
 |Go.Deep.BT.node b _ _ _ _=>.pointer (some ⟨b,0,none⟩)
def Tr.blocks:Tr->List Nat
 |Go.Deep.BT.nil=>[]
 |Go.Deep.BT.node b _ _ l r=>b::(Tr.blocks l++Tr.blocks r)
structure Lay where
 ty:TypeId
 cells:Bi->Sv->Nat->Value->Value->Array Value
def TrAt(Y:Lay):Tr->World->Prop
 |Go.Deep.BT.nil,_=>True
 |Go.Deep.BT.node b x (k,v) l r,w=>w.heap[b]?=some (.cells (Y.cells k v x (Tr.ptr l) (Tr.ptr r)) Y.ty (0,0))/\TrAt Y l w/\TrAt Y r w
def TrAt.lt{Y:Lay}{w:World}{t:Tr}:TrAt Y t w->∀b∈t.blocks,b<w.heap.size:=by
 induction t using Tr.ind with
 |nil=>
  intro _ b hb;simp[Tr.blocks]at hb
 |node c l k v x r ihl ihr=>
  intro h b hb;exact bbj
def TrAt.kept{Y:Lay}{F:Nat->Prop}{w w':World}(hk:Kept F w w'){t:Tr}:TrAt Y t w->(∀b∈t.blocks,¬F b)->TrAt Y t w':=by
 induction t using Tr.ind with
 |nil=>exactλ_ _=>trivial
 |node c l k v x r ihl ihr=>
  intro h hF;exact baj
def TrAt.on{Y:Lay}{w w':World}{t:Tr}(h:TrAt Y t w)(hb:Bw w w'):TrAt Y t w':=TrAt.kept (F:=λ_=>False) (Kept.of_below hb) h (λ_ _ h=>h)
def TrAt.new{Y:Lay}{w:World}{l r:Tr}(hl:TrAt Y l w)(hr:TrAt Y r w)(k:Bi)(v:Sv)(x:Nat):TrAt Y (.node w.heap.size l k v x r) (w.alloc (.cells (Y.cells k v x l.ptr r.ptr) Y.ty)):=
 ⟨ae w _,hl.on (al _),hr.on (al _)⟩
def TrAt.write{Y:Lay}{w w':World}{b:Nat}{l r:Tr}{k:Bi}{v:Sv}{x:Nat}(hk:Kept (λc=>c=b) w w')(hb:w'.heap[b]?=some (.cells (Y.cells k v x l.ptr r.ptr) Y.ty (0,0)))(hl:TrAt Y l w)(hr:TrAt Y r w)(hnl:b∉l.blocks)(hnr:b∉r.blocks):TrAt Y (.node b l k v x r) w':=
 ⟨hb,TrAt.kept hk hl (λ_ hc e=>hnl (e▸hc)),TrAt.kept hk hr (λ_ hc e=>hnr (e▸hc))⟩
def Af{w:World}{b j:Nat}{cs:Array Value}{ty:TypeId}(u:Value)(h:w.heap[b]?=some (.cells cs ty (0,0))):(w.setCell ⟨b,j,none⟩ u).heap[b]?=some (.cells (cs.setIfInBounds j u) ty (0,0)):=by show(w.heap.modify b _)[b]?=_;rw[qg,ah rfl,h];rfl
def Ai(w:World)(b j:Nat)(u:Value):Kept (λc=>c=b) w (w.setCell ⟨b,j,none⟩ u):=by have hb:Below b w (w.setCell ⟨b,j,none⟩ u):=(aj b w).setCell (p:=⟨b,j,none⟩) (ai b) u;exact⟨hb.os,hb.tape,hb.output,hb.size,λk _ hF=>jl w ⟨b,j,none⟩ u k hF⟩
def Aa{w:World}{b j:Nat}{cs:Array Value}{ty:TypeId}{u:Value}(h:w.heap[b]?=some (.cells cs ty (0,0)))(hj:cs[j]?=some u):w.cell? ⟨b,j,none⟩=some u:=by unfold World.cell?;rw[h];exact hj
def Ad{w:World}{b:Nat}{cs:Array Value}{ty:TypeId}(h:w.heap[b]?=some (.cells cs ty (0,0)))(j:Nat):w.frozen? ⟨b,j,none⟩=false:=by unfold World.frozen?;rw[h];simp
def kc(K:List Bi):List Value:=K.map λk=>sd k
def Nb(K:List Bi):(kc K).length=K.length:=by simp[kc]
def Sz(K R:List Bi):kc (K++R)=kc K++kc R:=by simp[kc]
def ady(K:List Bi):∀u∈kc K,u.oneCell'=true:=by intro u hu;obtain⟨_,_,rfl⟩:=je.1 hu;rfl
def Ip(base e size:Nat)(w:World):w.ownsRow base e size sy 0 []:=qi w base e size
def J4{base e size:Nat}{v:Value}{n:Nat}{cs:List Value}{a w w':World}(hb:Below base a w)(hs:base<=w.heap.size)(hI:w.ownsRow base e size v n cs)(hg:w.grownBy w' v.ownBlock):Below base a w':=
 hb.grown hg hs λk hk=>(jm hI k hk).1
def bl(a b:Bi):Op.bytesLess (bs a).toList (bs b).toList=ltK a b:=by rw[I9,I9];rfl
def info9:(Tryz.prog.info? 9).map (λi=>(i.zero,i.size,i.bytes))=some (some su,1,16):=by kernel_rfl
def adu(w:World)(k:Bi):RwAt (w.heap.size+1) 1 (.slice (some ⟨w.heap.size,0,none⟩) 1 1) 1 (kc [k]) (w.alloc (.cells #[sd k] 9)):=by
 exact bau
abbrev Sk:=Kv (List Ve)
def A8(k:Bi)(S:Sk):List Ve:=(getF k S).getD []
def aam(k:Bi):Bool:=decide (1<=k.length)&&decide (k.length<=32)
def seeF(c:List Ve)(p l:Int):Option Bi:=match atF c p l with
 |none=>none
 |some v=>if v.dead then none else some v.val
def putS(k:Bi)(v:Ve)(S:Sk):Sk×Int:=if aam k then(if(putF (A8 k S) v).2=0 then(setF k (putF (A8 k S) v).1 S,0)else(S,(putF (A8 k S) v).2))else(S,1)
def Fa(p l:Int)(S:Sk):List (Bi×Bi):=S.filterMap λx=>(seeF x.2 p l).map λs=>(x.1,s)
def rngS(lo hi:Bi)(S:Sk):Sk:=S.filter λx=>inR lo hi x.1
def Np(lo hi:Bi)(p l limit:Int)(S:Sk):List (Bi×Bi):=(Fa p l (rngS lo hi S)).take (min limit 32).toNat
def Pi(p l:Int)(x:Bi×List Ve):Option (Bi×List Ve):=if(Dc x.2 p l).isEmpty then none else some (x.1,Dc x.2 p l)
def Ed(p l:Int)(S:Sk):Sk:=S.filterMap (Pi p l)
def Ky(p l:Int)(S:Sk):Nat:=(S.map λx=>x.2.length-(Dc x.2 p l).length).sum
def totS(S:Sk):Nat:=(S.map λx=>x.2.length).sum
structure SOk(S:Sk):Prop where
 srt:Srt S
 all:∀x∈S,Ch x.2/\x.2≠[]
def SOk.nil:SOk []:=⟨tq,λ_ h=>by cases h⟩
def Xt{S:Sk}(h:SOk S){k:Bi}{c:List Ve}(hm:(k,c)∈S):A8 k S=c:=by unfold A8;rw[(Dy h.srt).2 hm];rfl
def ayz{v:Ve}:∀{c d:List Ve},insF v c=some d->d≠[]
 |[],d,h=>by simp only[insF,ja]at h;subst h;simp
 |u::r,d,h=>by
  unfold insF at h;split at h
  .cases e:insF v r with
   |none=>rw[e]at h;cases h
   |some x=>rw[e]at h;simp only[yg,ja]at h;subst h;simp
  .split at h
   .split at h
    .simp only[ja]at h;subst h;simp
    .cases h
   .simp only[ja]at h;subst h;simp
def Qz{c:List Ve}{v:Ve}(h:(putF c v).2=0):Ch (putF c v).1/\(putF c v).1≠[]/\(putF c v).1.length<=c.length+1:=by
 have e:putF c v=((putF c v).1,0):=by rw[<-h]
 obtain⟨h1,h2,_,h4,_⟩:=Yp e;refine⟨h2,ayz h4,?_⟩;rcases(Uj h4 h1.desc).2.2 with⟨e1,_⟩|e1
 .rw[e1];omega
 .omega
def aji{S:Sk}(h:SOk S)(k:Bi)(v:Ve):SOk (putS k v S).1:=by
 unfold putS;split
 .split
  .rename_i h0;refine⟨Es h.srt,λx hx=>?_⟩;rcases F5 hx with rfl|hx
   .exact⟨(Qz h0).1,(Qz h0).2.1⟩
   .exact h.all x hx
  .exact h
 .exact h
def aiv{k:Bi}{c:List Ve}:∀{S:Sk},Srt S->totS (setF k c S)+(A8 k S).length=totS S+c.length
 |[],_=>by simp[totS,setF,A8,getF]
 |(a,u)::r,h=>by
  obtain⟨h1,h2⟩:=dh.1 h;have ih:=aiv (S:=r) (k:=k) (c:=c) h2;unfold setF;by_cases e:ltK a k=true
  .rw[ah e];have hne:(a==k)=false:=by simpa using Iy e
   simp only[A8,getF,hne,o7,if_false]at ih|-;simp only[totS,jd,yx]at ih|-;omega
  .rw[ag e];by_cases e2:(a==k)=true
   .rw[ah e2];simp only[A8,getF,e2,if_true,Option.getD_some,totS,jd,yx];omega
   .rw[ag e2];have hn:getF k ((a,u)::r)=none:=by
     refine Gp λx hx=>?_;have hka:ltK k a=true:=by
      cases h5:ltK k a
      .exact absurd (Gu (by simpa using e) h5) (by simpa using e2)
      .rfl
     rcases au.1 hx with rfl|hx
     .exact(Iy hka).symm
     .exact(Iy (Ew hka (h1 x hx))).symm
    simp only[A8,hn,Option.getD_none,o9,totS,jd,yx];omega
def ase{S:Sk}(h:SOk S)(k:Bi)(v:Ve):totS (putS k v S).1<=totS S+1:=by
 unfold putS;split
 .split
  .rename_i h0;have:=aiv (S:=S) (k:=k) (c:=(putF (A8 k S) v).1) h.srt;have:=(Qz h0).2.2;dsimp only;omega
  .exact yt _
 .exact yt _
def U9:∀{S:Sk},(∀x∈S,Ch x.2/\x.2≠[])->S.length<=totS S
 |[],_=>ai _
 |x::r,h=>by have ih:=U9 (S:=r) (λy hy=>h y (by simp[hy]));have h0:=List.length_pos_iff.2 (h x (by simp)).2;simp only[totS,jd,yx,bg]at ih|-;omega
def ajs:∀{S:Sk} {x:Bi×List Ve},x∈S->x.2.length<=totS S
 |[],_,h=>by cases h
 |y::r,x,h=>by
  simp only[totS,jd,yx];rcases au.1 h with rfl|h
  .omega
  .have:=ajs h;simp only[totS]at this;omega
def Z5{c:List Ve}(h:Ch c)(p l:Int):Dc c p l=Jw p l c/\Ch (Dc c p l):=by
 have e:Dc c p l=Jw p l c:=by unfold Dc;rw[ah (O8.2 h)]
 exact⟨e,by rw[e];exact(abu h p l).1⟩
def afa{c:List Ve}(hc:Ch c)(p l:Int):(Dc c p l).length<=c.length:=by rw[(Z5 hc p l).1];exact(abu hc p l).2
def Wx{p l:Int}{x y:Bi×List Ve}(h:Pi p l x=some y):y=(x.1,Dc x.2 p l)/\Dc x.2 p l≠[]:=by
 unfold Pi at h;split at h
 .cases h
 .rename_i e;simp only[ja]at h;exact⟨h.symm,by simpa using e⟩
def Ph{p l:Int}{S:Sk}{y:Bi×List Ve}:y∈Ed p l S↔∃x∈S,y=(x.1,Dc x.2 p l)/\Dc x.2 p l≠[]:=by
 unfold Ed;rw[List.mem_filterMap];constructor
 .rintro⟨x,hx,h⟩;exact⟨x,hx,Wx h⟩
 .rintro⟨x,hx,rfl,h⟩;refine⟨x,hx,?_⟩;unfold Pi;rw[ag (by simpa using h)]
def Uh(p l:Int):∀{S:Sk},Srt S->Srt (Ed p l S)
 |[],_=>tq
 |x::r,h=>by
  obtain⟨h1,h2⟩:=dh.1 h;have ih:=Uh p l h2;unfold Ed;rw[List.filterMap_cons];split
  .exact ih
  .rename_i y e;refine dh.2 ⟨λz hz=>?_,ih⟩;obtain⟨a,ha,rfl,_⟩:=Ph.1 hz;rw[(Wx e).1];exact h1 a ha
def V3(p l:Int):∀{S:Sk},(∀x∈S,Ch x.2/\x.2≠[])->totS (Ed p l S)+Ky p l S=totS S
 |[],_=>rfl
 |x::r,h=>by
  have ih:=V3 p l (S:=r) (λy hy=>h y (by simp[hy]));have hle:=afa (h x (by simp)).1 p l;unfold Ed at ih|-;rw[List.filterMap_cons];simp only[totS,Ky,jd,yx]at ih|-;split
  .rename_i e;have h0:(Dc x.2 p l).length=0:=by
    unfold Pi at e;split at e
    .rename_i e2;simpa using e2
    .cases e
   omega
  .rename_i y e;rw[(Wx e).1];simp only[jd,yx];omega
def dk:Bi×Sv:=([],none,0,0)
def itc:Kv Sv->List Value
 |[]=>[]
 |x::r=>[Value.string (bs x.1),.slice x.2.1 x.2.2.1 x.2.2.2]++itc r
def ahw(L R:Kv Sv):itc (L++R)=itc L++itc R:=by
 induction L with
 |nil=>rfl
 |cons a L ih=>simp[itc,ih]
def ahv(L:Kv Sv):(itc L).length=L.length*2:=by
 induction L with
 |nil=>rfl
 |cons a L ih=>simp[itc,ih];omega
def aur(L:Kv Sv):∀u∈itc L,u.oneCell'=true:=by
 induction L with
 |nil=>intro u hu;simp[itc]at hu
 |cons a L ih=>
  intro u hu;simp only[itc,lu,mf,au]at hu;rcases hu with rfl|rfl|hu
  .rfl
  .rfl
  .exact ih u hu
def aj6:∀(L:Kv Sv) (i:Nat),i<L.length->(itc L)[i*2]?=some (.string (bs (L.getD i dk).1))/\(itc L)[i*2+1]?=some (.slice (L.getD i dk).2.1 (L.getD i dk).2.2.1 (L.getD i dk).2.2.2)
 |[],i,h=>absurd h (by simp)
 |x::r,0,_=>⟨rfl,rfl⟩
 |x::r,i+1,h=>by have:=aj6 r i (by simpa using h);simp only[itc,lu,mf];rw[show(i+1)*2=i*2+1+1 from by omega];simpa using this
def svV(s:Sv):Value:=.slice s.1 s.2.1 s.2.2
def Chs(w:World):Kv Sv->Sk->Prop
 |[],[]=>True
 |(k,s)::L,(q,c)::S=>k=q/\VsAt w.heap.size (svV s) c w/\Chs w L S
 |_,_=>False
def NoVe(w:World)(b:Nat):Prop:=∀off x,¬VeAt w b off x
def VeAt.kept{w w':World}{G:Nat->Prop}{b off:Nat}{x:Ve}(h:VeAt w b off x)(hk:Kept G w w')(hG:¬G b):VeAt w' b off x:=
 ⟨hk.cell h.c0 hG,hk.cell h.c1 hG,hk.cell h.c2 hG,hk.cell h.c3 hG,hk.cell h.c4 hG,hk.cell h.c5 hG,by rw[hk.block b (ed _ _ h.c0) hG];exact h.ty⟩
def VsAt.kept{w w':World}{G:Nat->Prop}{B:Nat}{v:Value}{C:List Ve}(h:VsAt B v C w)(hk:Kept G w w')(hG:∀k,G k->NoVe w k):VsAt B v C w':=by obtain⟨ao,cap,rfl,h1,h2,h3⟩:=h;refine⟨ao,cap,rfl,h1,h2,λh0=>?_⟩;obtain⟨b,off,rfl,hb,hc⟩:=h3 h0;exact⟨b,off,rfl,hb,λi hi=>(hc i hi).kept hk (λhg=>hG b hg _ _ (hc i hi))⟩
def Chs.kept{w w':World}{G:Nat->Prop}(hk:Kept G w w')(hG:∀k,G k->NoVe w k):∀{L:Kv Sv} {S:Sk},Chs w L S->Chs w' L S
 |[],[],_=>trivial
 |(_,_)::_,(_,_)::_,h=>⟨h.1,(VsAt.kept h.2.1 hk hG).le hk.size,Chs.kept hk hG h.2.2⟩
def Chs.on{w w':World}{L:Kv Sv}{S:Sk}(h:Chs w L S)(hb:Bw w w'):Chs w' L S:=Chs.kept (G:=λ_=>False) (Kept.of_below hb) (λ_ h=>h.elim) h
def Chs.len{w:World}:∀{L:Kv Sv} {S:Sk},Chs w L S->L.length=S.length
 |[],[],_=>rfl
 |(_,_)::_,(_,_)::_,h=>by simp[Chs.len h.2.2]
def Chs.map{w:World}:∀{L:Kv Sv} {S:Sk},Chs w L S->L.map (·.1)=S.map (·.1)
 |[],[],_=>rfl
 |(_,_)::_,(_,_)::_,h=>by simp[Chs.map h.2.2,h.1]
def Chs.at{w:World}:∀{L:Kv Sv} {S:Sk},Chs w L S->∀(i:Nat),i<L.length->(L.getD i dk).1=(S.getD i ([],[])).1/\VsAt w.heap.size (svV (L.getD i dk).2) (S.getD i ([],[])).2 w
 |(k,s)::L,(q,c)::S,h,0,_=>⟨h.1,h.2.1⟩
 |(k,s)::L,(q,c)::S,h,i+1,hi=>by have:=Chs.at h.2.2 i (by simpa using hi);simpa using this
def Hy{w:World}{b:Nat}{o:Obj}(h:w.heap[b]?=some o)(hn:∀cs fz,o≠ .cells cs 63 fz):NoVe w b:=λoff x hv=>by obtain⟨cs,fz,hh⟩:=hv.ty;rw[h]at hh;injection hh with hh;exact hn cs fz hh
def Ui{w:World}{b:Nat}{cs:Array Value}{ty:TypeId}(h:w.heap[b]?=some (.cells cs ty (0,0)))(hs:cs.size<6):NoVe w b:=by intro off x hv;have:=hv.c5;unfold World.cell? at this;rw[h]at this;have h2:cs[off+5]?=some (.bool x.dead):=this;rw[Array.getElem?_eq_none (by omega)]at h2;cases h2
def ay2:(Tryz.prog.info? 61).map (λi=>(i.zero,i.size,i.bytes))=some (some (.agg #[su,sy]),2,40):=by kernel_rfl
def ayx(w:World)(k:Bi)(s:Sv):RwAt (w.heap.size+1) 2 (.slice (some ⟨w.heap.size,0,none⟩) 1 1) 1 (itc [(k,s)]) (w.alloc (.cells #[sd k,.slice s.1 s.2.1 s.2.2] 61)):=by
 refine⟨_,1,rfl,rfl,ai _,by omega,λ_=>⟨w.heap.size,0,rfl,λ_=>kw _,λj u hj=>?_⟩⟩;match j,hj with
 |0,hj=>simp[itc]at hj;subst hj;simp[go_sem]
 |1,hj=>simp[itc]at hj;subst hj;simp[go_sem]
 |j+2,hj=>simp[itc]at hj
def it_ow{base n:Nat}{sa:Option Addr}{sc:Nat}{l:Kv Sv}{w:World}(k:Bi)(s:Sv)(ho:w.ownsRow base 61 2 (.slice sa n sc) n (itc l))(hb:base<=w.heap.size)(hl:n<1000000):
  Ow base 61 2 (.slice sa n sc) n (itc l) (w.heap.size+1) (.slice (some ⟨w.heap.size,0,none⟩) 1 1) 1 (itc [(k,s)]) (w.alloc (.cells #[sd k,.slice s.1 s.2.1 s.2.2] 61)):=
 ⟨o6 ho _,ayx w k s,aur _,ak hb (by simp),by omega⟩
def Chs.get{w:World}(k:Bi):∀{L:Kv Sv} {S:Sk},Chs w L S->VsAt w.heap.size (svV ((getF k L).getD (none,0,0))) (A8 k S) w
 |[],[],_=>Og _ _
 |(a,s)::L,(q,c)::S,h=>by
  obtain⟨rfl,h1,h2⟩:=h;unfold A8 getF;by_cases e:(a==k)=true
  .rw[ah e,ah e];exact h1
  .rw[ag e,ag e];exact Chs.get k h2
def Chs.set{w:World}{k:Bi}{s:Sv}{c:List Ve}(hv:VsAt w.heap.size (svV s) c w):∀{L:Kv Sv} {S:Sk},Chs w L S->Chs w (setF k s L) (setF k c S)
 |[],[],_=>⟨rfl,hv,trivial⟩
 |(a,t)::L,(q,d)::S,h=>by
  obtain⟨rfl,h1,h2⟩:=h;unfold setF;by_cases e:ltK a k=true
  .rw[ah e,ah e];exact⟨rfl,h1,Chs.set hv h2⟩
  .rw[ag e,ag e];by_cases e2:(a==k)=true
   .rw[ah e2,ah e2];exact⟨rfl,hv,h2⟩
   .rw[ag e2,ag e2];exact⟨rfl,hv,rfl,h1,h2⟩
def Chs.cut{w:World}(k:Bi):∀{L:Kv Sv} {S:Sk},Chs w L S->Chs w (cutF k L) (cutF k S)
 |[],[],_=>trivial
 |(a,t)::L,(q,d)::S,h=>by
  obtain⟨rfl,h1,h2⟩:=h;unfold cutF;by_cases e:(a==k)=true
  .rw[ah e,ah e];exact h2
  .rw[ag e,ag e];exact⟨rfl,h1,Chs.cut k h2⟩
def getV:Option Bi->Bi×Bool
 |some s=>(s,true)
 |none=>([],false)
def axv(C:List Ve)(p l:Int):getV (seeF C p l)=if(atF C p l).isSome=true/\((atF C p l).getD dv).dead=false then(((atF C p l).getD dv).val,true)else([],false):=by
 unfold seeF;cases h:atF C p l with
 |none=>rfl
 |some v=>
  cases hd:v.dead with
  |true=>simp[getV,hd]
  |false=>simp[getV,hd]
structure Tx(w:World)(bx:Nat)(p l:Int)(W:World):Prop where
 c0:W.cell? ⟨bx,0,none⟩=some (uw p)
 c1:W.cell? ⟨bx,1,none⟩=some (ui l)
 bel:Bw w W
def Tx.on{w W W':World}{bx:Nat}{p l:Int}(h:Tx w bx p l W)(hb:Bw W W'):Tx w bx p l W':=
 ⟨by rw[hb.cell (ed _ _ h.c0)];exact h.c0,by rw[hb.cell (ed _ _ h.c1)];exact h.c1,h.bel.trans (hb.mono h.bel.size)⟩
def Tx.dr{w W:World}{bx:Nat}{p l:Int}(h:Tx w bx p l W):Tx w bx p l W.drew:=h.on (aj _ _).drew
def Tx.two{w W:World}{bx:Nat}{p l:Int}(h:Tx w bx p l W):W.cell? ⟨bx,0,none⟩=some (uw p)/\W.cell? ⟨bx,1,none⟩=some (ui l)/\Tx w bx p l W:=⟨h.c0,h.c1,h⟩
def Tx.al{w W:World}{bx:Nat}{p l:Int}(h:Tx w bx p l W)(o:Obj):Tx w bx p l (W.alloc o):=h.on (Go.Proofs.YtnfpfbehebcdpaaGreat.al _)
def Tx.st{w W:World}{bx b:Nat}{p l:Int}(h:Tx w bx p l W)(hb:bx<b/\w.heap.size<=b)(j:Nat)(u:Value):Tx w bx p l (W.setCell ⟨b,j,none⟩ u):=
 ⟨(Ai W b j u).cell h.c0 (by omega),(Ai W b j u).cell h.c1 (by omega),h.bel.setCell (p:=⟨b,j,none⟩) hb.2 u⟩
def anj(w:World)(p l:Int):Tx w w.heap.size p l (w.alloc (.cells #[uw p,ui l] 38)):=⟨by simp[go_sem],by simp[go_sem],al _⟩
def Nc{W W3:World}{o:Obj}(hb:Below (W.alloc o).drew.heap.size (W.alloc o).drew W3):W3.heap[W.heap.size]?=some o:=by rw[hb.block W.heap.size (by simp)];exact ae W _
def Y5{W:World}{b:Nat}(h:W.heap[b]?=some (.cells #[uw 0,ui 0,ui 0,ui 0,su,.bool false] 63 (0,0))):W.cell? ⟨b,0,none⟩=some (uw 0)/\W.cell? ⟨b,1,none⟩=some (ui 0)/\W.cell? ⟨b,2,none⟩=some (ui 0)/\W.cell? ⟨b,3,none⟩=some (ui 0)/\W.cell? ⟨b,4,none⟩=some su/\W.cell? ⟨b,5,none⟩=some (.bool false)/\W.frozen? ⟨b,0,none⟩=false/\W.frozen? ⟨b,1,none⟩=false/\W.frozen? ⟨b,2,none⟩=false/\W.frozen? ⟨b,3,none⟩=false/\W.frozen? ⟨b,4,none⟩=false/\W.frozen? ⟨b,5,none⟩=false:=
 ⟨Aa h rfl,Aa h rfl,Aa h rfl,Aa h rfl,Aa h rfl,Aa h rfl,Ad h _,Ad h _,Ad h _,Ad h _,Ad h _,Ad h _⟩
def asx{W:World}{b:Nat}{p l c n:Int}{s:Bi}{d:Bool}(h:W.heap[b]?=some (.cells #[uw 0,ui 0,ui 0,ui 0,su,.bool false] 63 (0,0))):
  VeAt ((((((W.setCell ⟨b,0,none⟩ (uw p)).setCell ⟨b,1,none⟩ (ui l)).setCell ⟨b,2,none⟩ (ui c)).setCell ⟨b,3,none⟩ (ui n)).setCell ⟨b,4,none⟩ (sd s)).setCell ⟨b,5,none⟩ (.bool d)) b 0 ⟨p,l,c,n,s,d⟩:=by
 have h1:(W.setCell ⟨b,0,none⟩ (uw p)).heap[b]?=some (.cells #[uw p,ui 0,ui 0,ui 0,su,.bool false] 63 (0,0)):=Af _ h;generalize W.setCell ⟨b,0,none⟩ (uw p)=W1 at*;have h2:(W1.setCell ⟨b,1,none⟩ (ui l)).heap[b]?=some (.cells #[uw p,ui l,ui 0,ui 0,su,.bool false] 63 (0,0)):=Af _ h1;generalize W1.setCell ⟨b,1,none⟩ (ui l)=W2 at*;have h3:(W2.setCell ⟨b,2,none⟩ (ui c)).heap[b]?=some (.cells #[uw p,ui l,ui c,ui 0,su,.bool false] 63 (0,0)):=Af _ h2;generalize W2.setCell ⟨b,2,none⟩ (ui c)=W3 at*;have h4:(W3.setCell ⟨b,3,none⟩ (ui n)).heap[b]?=some (.cells #[uw p,ui l,ui c,ui n,su,.bool false] 63 (0,0)):=Af _ h3;generalize W3.setCell ⟨b,3,none⟩ (ui n)=W4 at*;have h5:(W4.setCell ⟨b,4,none⟩ (sd s)).heap[b]?=some (.cells #[uw p,ui l,ui c,ui n,sd s,.bool false] 63 (0,0)):=Af _ h4;generalize W4.setCell ⟨b,4,none⟩ (sd s)=W5 at*;have h6:(W5.setCell ⟨b,5,none⟩ (.bool d)).heap[b]?=some (.cells #[uw p,ui l,ui c,ui n,sd s,.bool d] 63 (0,0)):=Af _ h5;exact⟨Aa h6 rfl,Aa h6 rfl,Aa h6 rfl,Aa h6 rfl,Aa h6 rfl,Aa h6 rfl,_,_,h6⟩
def ds:Bi×List Ve:=([],[])
def Qs{S:Sk}{m:Nat}(h:m<S.length):S.take (m+1)=S.take m++[S.getD m ds]:=by rw[xq];simp[List.getD,h]
def prc:List (Bi×Bi)->List Value
 |[]=>[]
 |x::r=>[Value.string (bs x.1),sd x.2]++prc r
def ahe(L R:List (Bi×Bi)):prc (L++R)=prc L++prc R:=by
 induction L with
 |nil=>rfl
 |cons x r ih=>simp[prc,ih]
def atr(L:List (Bi×Bi)):∀u∈prc L,u.oneCell'=true:=by
 induction L with
 |nil=>simp[prc]
 |cons x r ih=>
  intro u hu;simp only[prc,lu,mf,au]at hu;rcases hu with rfl|rfl|hu
  .rfl
  .rfl
  .exact ih u hu
def ay1:(Tryz.prog.info? 323).map (λi=>(i.zero,i.size,i.bytes))=some (some (.agg #[su,su]),2,32):=by kernel_rfl
def ax9(w:World)(k s:Bi):RwAt (w.heap.size+1) 2 (.slice (some ⟨w.heap.size,0,none⟩) 1 1) 1 (prc [(k,s)]) (w.alloc (.cells #[sd k,sd s] 323)):=by
 refine⟨_,1,rfl,rfl,ai _,by omega,λ_=>⟨w.heap.size,0,rfl,λ_=>kw _,λj u hj=>?_⟩⟩;match j,hj with
 |0,hj=>simp[prc]at hj;subst hj;simp[go_sem]
 |1,hj=>simp[prc]at hj;subst hj;simp[go_sem]
 |j+2,hj=>simp[prc]at hj
def pr_ow{base n:Nat}{sa:Option Addr}{sc:Nat}{l:List (Bi×Bi)}{w:World}(k s:Bi)(ho:w.ownsRow base 323 2 (.slice sa n sc) n (prc l))(hb:base<=w.heap.size)(hl:n<1000000):
  Ow base 323 2 (.slice sa n sc) n (prc l) (w.heap.size+1) (.slice (some ⟨w.heap.size,0,none⟩) 1 1) 1 (prc [(k,s)]) (w.alloc (.cells #[sd k,sd s] 323)):=
 ⟨o6 ho _,ax9 w k s,atr _,ak hb (by simp),by omega⟩
def getD_mem{S:Sk}{m:Nat}(h:m<S.length):S.getD m ds∈S:=by simp[List.getD,h]
def Oo{S:Sk}{m:Nat}(h:m<S.length):S.drop m=S.getD m ds::S.drop (m+1):=by rw[ng h];simp[List.getD,h]
def al7{p l:Int}{S:Sk}{m:Nat}(h:m<S.length):Ky p l (S.take (m+1))=Ky p l (S.take m)+((S.getD m ds).2.length-(Dc (S.getD m ds).2 p l).length):=by unfold Ky;rw[Qs h,mi,List.sum_append];simp
def akc{p l:Int}:∀{S:Sk},Ky p l S<=totS S
 |[]=>ai _
 |x::r=>by have:=akc (p:=p) (l:=l) (S:=r);simp only[Ky,totS,jd,yx]at this|-;omega
def ann(S:Sk)(m:Nat):totS (S.take m)<=totS S:=by
 have h:totS (S.take m++S.drop m)=totS (S.take m)+totS (S.drop m):=by unfold totS;rw[mi,List.sum_append]
 rw[jg]at h;omega
def ItAt(v:Value)(L:Kv Sv)(S:Sk)(w:World):Prop:=RwAt w.heap.size 2 v L.length (itc L) w/\Chs w L S
def ItAt.on{v:Value}{L:Kv Sv}{S:Sk}{w w':World}(h:ItAt v L S w)(hb:Bw w w'):ItAt v L S w':=⟨(RwAt.on h.1 hb).le hb.size,h.2.on hb⟩
def ItAt.el{ao:Option Addr}{cap:Nat}{L:Kv Sv}{S:Sk}{w:World}(h:ItAt (.slice ao S.length cap) L S w){i:Nat}(hi:i<S.length):∃b off ca cc,ao=some ⟨b,off,none⟩/\ce w b (off+i*2) (.string (bs (S.getD i ds).1))/\ce w b (off+i*2+1) (.slice ca (S.getD i ds).2.length cc)/\VsAt w.heap.size (.slice ca (S.getD i ds).2.length cc) (S.getD i ds).2 w:=by
 have hiL:i<L.length:=by rw[h.2.len];exact hi
 obtain⟨h1,h2⟩:=aj6 L i hiL;have hr:RwAt w.heap.size 2 (.slice ao L.length cap) L.length (itc L) w:=by rw[h.2.len];have:=h.1;rw[h.2.len]at this;exact this
 obtain⟨b,off,e,_,hc⟩:=RwAt.cellAt hr (j:=0) (by rw[ahv];omega);obtain⟨k1,k2⟩:=h.2.at i hiL;have k1':(L.getD i dk).1=(S.getD i ds).1:=k1;have k2':VsAt w.heap.size (svV (L.getD i dk).2) (S.getD i ds).2 w:=k2;have k3:=k2';obtain⟨ca,cc,e2,_⟩:=k3;refine⟨b,off,ca,cc,e,by rw[<-k1'];exact hc _ _ h1,?_,by rw[<-e2];exact k2'⟩;rw[<-e2];exact hc _ _ h2
structure Ifs(SA:Nat->Nat->(Nat->Prop)->Sk->World->Prop):Prop where
 lt:∀{B p:Nat} {M:Nat->Prop} {S:Sk} {w:World},SA B p M S w->∀k,M k->B<=k/\k<w.heap.size
 nov:∀{B p:Nat} {M:Nat->Prop} {S:Sk} {w:World},SA B p M S w->∀k,M k->NoVe w k
 keep:∀{B p:Nat} {M G:Nat->Prop} {S:Sk} {w w':World},SA B p M S w->Kept G w w'->(∀k,M k->¬G k)->(∀k,G k->NoVe w k)->SA B p M S w'
 sok:∀{B p:Nat} {M:Nat->Prop} {S:Sk} {w:World},SA B p M S w->SOk S
 new:∀w:World,cpr 20 #[] w λe w'=>∃p M,e=.returned (pz p)/\SA w.heap.size p M [] w'/\Bw w w'
 put:∀{B p:Nat} {M:Nat->Prop} {S:Sk} {w:World} (k:Bi) (x:Ve),SA B p M S w->totS S<10000->cpr 128 #[pz p,sd k,veV x] w λe w'=>e=.returned (iw (putS k x S).2)/\∃M',SA B p M' (putS k x S).1 w'/\Kept M w w'/\∀i,M' i->M i\/w.heap.size<=i
 prune:∀{B p:Nat} {M:Nat->Prop} {S:Sk} {w:World} (t u:Int),SA B p M S w->totS S<10000->cpr 52 #[pz p,.agg #[uw t,ui u]] w λe w'=>e=.returned (iw (Ky t u S))/\∃M',SA B p M' (Ed t u S) w'/\Kept M w w'/\∀i,M' i->M i\/w.heap.size<=i
 get:∀{B p:Nat} {M:Nat->Prop} {S:Sk} {w:World} (k:Bi) (t u:Int),SA B p M S w->totS S<10000->cpr 135 #[pz p,sd k,.agg #[uw t,ui u]] w λe w'=>e=.returned (.tuple #[.string (bs (getV (seeF (A8 k S) t u)).1),.bool (getV (seeF (A8 k S) t u)).2])/\Bw w w'
 newest:∀{B p:Nat} {M:Nat->Prop} {S:Sk} {w:World} (k:Bi),SA B p M S w->totS S<10000->cpr 194 #[pz p,sd k] w λe w'=>e=.returned (.agg #[uw (newF (A8 k S)).1,ui (newF (A8 k S)).2])/\Bw w w'
 count:∀{B p:Nat} {M:Nat->Prop} {S:Sk} {w:World} (k:Bi),SA B p M S w->totS S<10000->cpr 195 #[pz p,sd k] w λe w'=>e=.returned (iw (A8 k S).length)/\Bw w w'
 scan:∀{B p:Nat} {M:Nat->Prop} {S:Sk} {w:World} (lo hi:Bi) (t u limit:Int),SA B p M S w->totS S<10000->cpr 136 #[pz p,sd lo,sd hi,.agg #[uw t,ui u],iw limit] w λe w'=>∃v',e=.returned v'/\w'.ownsRow w.heap.size 323 2 v' (Np lo hi t u limit S).length (prc (Np lo hi t u limit S))/\Bw w w'
 items:∀{B p:Nat} {M:Nat->Prop} {S:Sk} {w:World},SA B p M S w->totS S<10000->cpr 32 #[pz p] w λe w'=>∃v' L,e=.returned v'/\ItAt v' L S w'/\(∀k,v'.ownBlock=some k->w.heap.size<=k/\∃cs,w'.heap[k]?=some (.cells cs 61 (0,0)))/\Bw w w'
variable {SA:Nat->Nat->(Nat->Prop)->Sk->World->Prop}
def Tr.hn:Tr->Nat
 |Go.Deep.BT.nil=>0
 |Go.Deep.BT.node _ x _ _ _=>x
def Tr.hi:Tr->Int
 |Go.Deep.BT.nil=>0
 |Go.Deep.BT.node _ x _ _ _=>(x:Int)
def Tr.Vh(t:Tr):t.hi=t.hn:=by
 cases t using Tr.cas with
 |nil=>rfl
 |node b l k v x r=>rfl
def ahs(l r:Tr):((1+max l.hn r.hn:Nat):Int)=1+max l.hi r.hi:=by rw[l.Vh,r.Vh];omega
def Hk:Tr->Prop
 |Go.Deep.BT.nil=>True
 |Go.Deep.BT.node _ x _ l r=>x=1+max (Tr.hn l) (Tr.hn r)/\Hk l/\Hk r
def Hk.bounds{t:Tr}:Hk t->0<=t.hi/\t.hi<=t.toL.length:=by
 induction t using Tr.ind with
 |nil=>intro _;simp[Tr.hi,Tr.toL]
 |node b l k v x r ihl ihr=>
  intro h;exact bbu
def Hk.node{t:Tr}(h0:0<t.hi):∃b l k v x r,t=.node b l k v x r:=by
 exact bcd
def nl:Lay:=⟨280,λk v x l r=>#[sd k,.slice v.1 v.2.1 v.2.2,l,r,iw (x:Int)]⟩
def Ce(k:Bi):Tr->Option Nat
 |Go.Deep.BT.nil=>none
 |Go.Deep.BT.node b _ (q,_) l r=>if ltK k q then Ce k l else if ltK q k then Ce k r else some b
def Ji(k:Bi)(v:Sv):Tr->Tr
 |Go.Deep.BT.nil=>.nil
 |Go.Deep.BT.node b x (q,u) l r=>if ltK k q then .node b (Ji k v l) q u x r else if ltK q k then .node b l q u x (Ji k v r)else .node b l q v x r
def Hq(k:Bi)(b:Nat)(l:Tr)(q:Bi)(u:Sv)(x:Nat)(r:Tr):Ce k (.node b l q u x r)=if ltK k q then Ce k l else if ltK q k then Ce k r else some b:=rfl
def Hl(k:Bi)(v:Sv)(b:Nat)(l:Tr)(q:Bi)(u:Sv)(x:Nat)(r:Tr):Ji k v (.node b l q u x r)=if ltK k q then .node b (Ji k v l) q u x r else if ltK q k then .node b l q u x (Ji k v r)else .node b l q v x r:=rfl
def L9{k:Bi}{t:Tr}:∀{b:Nat},Ce k t=some b->b∈t.blocks:=by
 induction t using Tr.ind with
 |nil=>intro b h;cases h
 |node c l q u x r ihl ihr=>
  intro b h;exact bb7
def Jm{k:Bi}{t:Tr}:Srt t.toL->(Ce k t).isSome=(getF k t.toL).isSome:=by
 induction t using Tr.ind with
 |nil=>intro _;rfl
 |node c l q u x r ihl ihr=>
  intro h;exact bby
def Qd{w:World}{k:Bi}{t:Tr}:∀{b:Nat},Srt t.toL->TrAt nl t w->Ce k t=some b->∃q v x l r,w.heap[b]?=some (.cells (nl.cells q v x l r) nl.ty (0,0))/\getF k t.toL=some v:=by
 induction t using Tr.ind with
 |nil=>intro b _ _ h;cases h
 |node c l q u x r ihl ihr=>
  intro b hs ha h;exact azw
def Pg(k:Bi)(v:Sv)(t:Tr):(Ji k v t).ptr=t.ptr:=by
 exact ba9
def Zy(k:Bi)(v:Sv)(t:Tr):(Ji k v t).hn=t.hn:=by
 exact ba9
def Ht(k:Bi)(v:Sv)(t:Tr):(Ji k v t).blocks=t.blocks:=by
 induction t using Tr.ind with
 |nil=>rfl
 |node b l q u x r ihl ihr=>
  rw[Hl];split
  .simp only[Tr.blocks,ihl]
  .split
   .simp only[Tr.blocks,ihr]
   .rfl
def ahc(k:Bi)(v:Sv){t:Tr}:Hk t->Hk (Ji k v t):=by
 induction t using Tr.ind with
 |nil=>exactλ_=>trivial
 |node b l q u x r ihl ihr=>
  intro h;exact bbc
def adc{k:Bi}{v:Sv}{t:Tr}:Srt t.toL->(Ce k t).isSome=true->(Ji k v t).toL=setF k v t.toL:=by
 induction t using Tr.ind with
 |nil=>intro _ h;cases h
 |node b l q u x r ihl ihr=>
  intro hs h;exact azu
def Zz{w:World}{k:Bi}{v:Sv}{t:Tr}:∀{b:Nat},TrAt nl t w->t.blocks.Nodup->Ce k t=some b->TrAt nl (Ji k v t) (w.setCell ⟨b,1,none⟩ (.slice v.1 v.2.1 v.2.2)):=by
 induction t using Tr.ind with
 |nil=>intro b _ _ h;cases h
 |node c l q u x r ihl ihr=>
  intro b ha hn h;obtain⟨a1,a2,a3⟩:=ha;simp only[Tr.blocks,gz,bu,ug,ik]at hn;obtain⟨⟨n1,n2⟩,n3,n4,n5⟩:=hn;have hk:=Ai w b 1 (.slice v.1 v.2.1 v.2.2);rw[Hq]at h;rw[Hl];split
  .rename_i e;exact bb6
  .rename_i e;rw[ag e]at h;split
   .rename_i e2;exact bb8
   .rename_i e2;rw[ag e2]at h;injection h with h;subst h;exact⟨Af _ a1,TrAt.kept hk a2 (λi hi e=>n1 (e▸hi)),TrAt.kept hk a3 (λi hi e=>n2 (e▸hi))⟩
