import Derived.Deep.Trees
import Derived.Test.YtdplfgcoaddbdaaGreatWaf
set_option maxHeartbeats 4000000
set_option maxRecDepth 100000
set_option linter.unusedVariables false
set_option linter.unusedSimpArgs false
namespace Go.Proofs.YtdplfgcoaddbdaaGreat.Sto
open Go.RowKit Go.Sort
theorem atF_bad{C:List Ve}{p l:Int}(h:rightC C=false):atF C p l=none:=by unfold atF;rw[h];rfl
theorem atF_good{C:List Ve}{p l:Int}(h:rightC C=true):atF C p l=C[seenN p l C]?:=by unfold atF;rw[if_pos h,atR_seen]
theorem at10(B:Nat)(C:List Ve)(v:Value)(p l:Int)(w:World)(hv:VsAt B v C w)(hB:B<=w.heap.size):
  Calls Tryz.prog 160 #[v,.agg #[uw p,ui l]] w fun e w'=>e=.returned (.tuple #[veV ((atF C p l).getD dv),.bool (atF C p l).isSome])/\Below w.heap.size w w':=by
 have hv':=hv;obtain⟨ao,cap,rfl,hlc,hcm,-⟩:=hv;have H:Hid (VsAt w.heap.size (.slice ao C.length cap) C w):=hv'.le hB;clear hv' hB;have HSn:Hid (seenN p l C<=C.length):=seenN_le _ _ _;have HP1:Hid (rightC C=false->atF C p l=none):=atF_bad;have HP2:Hid (rightC C=true->atF C p l=C[seenN p l C]?):=atF_good;have CR:Hid (∀W,Below w.heap.size w W->Calls Tryz.prog 196 #[.slice ao C.length cap] W fun e w'=>e=.returned (.bool (rightC C))/\Below W.heap.size W w'):=fun W hW=>right12 w.heap.size C _ W (H.out.on hW) hW.size;have CS:Hid (∀W,Below w.heap.size w W->Calls Tryz.prog 197 #[.slice ao C.length cap,.agg #[uw p,ui l]] W fun e w'=>e=.returned (iw (seenN p l C))/\Below W.heap.size W w'):=fun W hW=>seen21 w.heap.size C _ _ _ W (H.out.on hW) hW.size;generalize atF C p l=y at*;generalize rightC C=r1 at*;generalize seenN p l C=k at*;have HB0:Hid (Below w.heap.size w ((w.alloc (.cells #[uw p,ui l] 28)).alloc (.cells #[uw 0,ui 0,ui 0,ui 0,su,.bool false] 120))):=((Below.refl _ _).alloc (Nat.le_refl _) _).alloc (by simp) _;go_enter Tryz.func160,Tryz.ntmps160;go_wp2_with fail;refine(CR.out _ HB0.out).mono ?_;rintro e w1 ⟨rfl,hb1⟩;have HB1:Hid (Below w.heap.size w w1):=HB0.out.trans (hb1.mono HB0.out.size);obtain⟨hc,hf⟩:=bcell hb1;have hz1:w.heap.size+1<w1.heap.size:=by have:=hb1.size;simp at this;omega
 have hz0:w.heap.size<w1.heap.size:=by omega
 cases r1
 ·have HE:Hid _:=HP1.out rfl;go_wp2_with fail;rw[HE.out];refine bodyPost_ret (v:=.tuple #[veV dv,.bool false]) (by simp[results,Tryz.results160,go_sem,hc,veV,dv,bs]) rfl ?_;refine⟨rfl,?_⟩;exact((((((HB1.out.setCell (by simp) _).setCell (by simp) _).setCell (by simp) _).setCell (by simp) _).setCell (by simp) _).setCell (by simp) _)
 ·go_wp2_with fail;refine(CS.out _ HB1.out).mono ?_;rintro e w2 ⟨rfl,hb2⟩;have HB2:Hid (Below w.heap.size w w2):=HB1.out.trans (hb2.mono HB1.out.size);obtain⟨hc2,hf2⟩:=bcell hb2;have hy2:w.heap.size+1<w2.heap.size:=by have:=hb2.size;omega
  have hy0:w.heap.size<w2.heap.size:=by omega
  have HE:Hid _:=HP2.out (by trivial);have hk:=HSn.out;by_cases hkl:k<C.length
  ·obtain⟨b,off,rfl,hb,hck⟩:=H.out.el hkl;have hck2:=hck.on HB2.out hb;have HG:Hid (y=some (C.getD k dv)):=by rw[HE.out];exact getD_some hkl
   clear hck HE CS CR HP2 HP1 hb;generalize C.getD k dv=u at hck2 HG;obtain⟨yp,yl,yc,yn,ys,yd⟩:=u;obtain⟨m0,m1,m2,m3,m4,m5⟩:=hck2;dsimp only at m0 m1 m2 m3 m4 m5;have hkl':((k:Int)==C.length)=false:=by simp;omega
   have hkl2:(k:Int)<C.length:=by omega
   go_wp2_with fail;rw[HG.out];refine bodyPost_ret (v:=.tuple #[veV ⟨yp,yl,yc,yn,ys,yd⟩,.bool true]) (by simp[results,Tryz.results160,go_sem,hc2,hc,hz1,veV]) rfl ?_;refine⟨rfl,?_⟩;exact((((((HB2.out.setCell (by simp) _).setCell (by simp) _).setCell (by simp) _).setCell (by simp) _).setCell (by simp) _).setCell (by simp) _)
  ·have HG:Hid (y=none):=by rw[HE.out];exact List.getElem?_eq_none (by omega)
   have hkl':((k:Int)==C.length)=true:=by simp;omega
   clear HE CS CR HP2 HP1;go_wp2_with fail;rw[HG.out];refine bodyPost_ret (v:=.tuple #[veV dv,.bool false]) (by simp[results,Tryz.results160,go_sem,hc2,hc,hz1,veV,dv,bs]) rfl ?_;refine⟨rfl,?_⟩;exact((((((HB2.out.setCell (by simp) _).setCell (by simp) _).setCell (by simp) _).setCell (by simp) _).setCell (by simp) _).setCell (by simp) _)
def newF(C:List Ve):Int×Int:=if rightC C then((C.getD 0 dv).p,(C.getD 0 dv).l)else(0,0)
theorem newF_nil:newF []=(0,0):=by simp[newF,dv]
theorem newest15(B:Nat)(C:List Ve)(v:Value)(w:World)(hv:VsAt B v C w)(hB:B<=w.heap.size):
  Calls Tryz.prog 205 #[v] w fun e w'=>e=.returned (.agg #[uw (newF C).1,ui (newF C).2])/\Below w.heap.size w w':=by
 have hv':=hv;obtain⟨ao,cap,rfl,hlc,hcm,-⟩:=hv;have H:Hid (VsAt w.heap.size (.slice ao C.length cap) C w):=hv'.le hB;clear hv' hB;have HB0:Hid (Below w.heap.size w (w.alloc (.cells #[uw 0,ui 0] 28))):=(Below.refl _ _).alloc (Nat.le_refl _) _;by_cases h0:C.length=0
 ·have:C=[]:=List.eq_nil_of_length_eq_zero h0;subst this;rw[newF_nil];clear h0;go_enter Tryz.func205,Tryz.ntmps205;go_wp2_with fail;refine bodyPost_ret (v:=.agg #[uw 0,ui 0]) (by simp[results,Tryz.results205,go_sem]) rfl ?_;exact⟨rfl,HB0.out⟩
 ·obtain⟨b,off,rfl,hb,hck⟩:=H.out.el (k:=0) (by omega);have CR:Hid (∀W,Below w.heap.size w W->Calls Tryz.prog 196 #[.slice (some ⟨b,off,none⟩) C.length cap] W fun e w'=>e=.returned (.bool (rightC C))/\Below W.heap.size W w'):=fun W hW=>right12 w.heap.size C _ W (H.out.on hW) hW.size;have HN:Hid (newF C=if rightC C then((C.getD 0 dv).p,(C.getD 0 dv).l)else(0,0)):=rfl;generalize newF C=y at*;generalize C.getD 0 dv=u at*;generalize rightC C=r1 at*;have h0':((C.length:Int)==0)=false:=by rw[beq_eq_false_iff_ne];omega
  have h00:(0:Int)<C.length:=by omega
  have HCk:Hid _:=hck;clear hck h0;go_enter Tryz.func205,Tryz.ntmps205;go_wp2_with fail;refine(CR.out _ HB0.out).mono ?_;rintro e w1 ⟨rfl,hb1⟩;have HB1:Hid (Below w.heap.size w w1):=HB0.out.trans (hb1.mono HB0.out.size);obtain⟨hc,hf⟩:=bcell hb1;have hz0:w.heap.size<w1.heap.size:=by have:=hb1.size;simp at this;omega
  have hck:=HCk.out.on HB1.out hb;clear HCk CR hb;obtain⟨yp,yl,yc,yn,ys,yd⟩:=u;obtain⟨m0,m1,-,-,-,-⟩:=hck;dsimp only at m0 m1;simp only[Nat.zero_mul,Nat.add_zero]at m0 m1;cases r1
  ·go_wp2_with fail;rw[HN.out];refine bodyPost_ret (v:=.agg #[uw 0,ui 0]) (by simp[results,Tryz.results205,go_sem,hc]) rfl ?_;exact⟨rfl,(HB1.out.setCell (by simp) _).setCell (by simp) _⟩
  ·go_wp2_with fail;rw[HN.out];refine bodyPost_ret (v:=.agg #[uw yp,ui yl]) (by simp[results,Tryz.results205,go_sem,hc]) rfl ?_;exact⟨rfl,(HB1.out.setCell (by simp) _).setCell (by simp) _⟩
theorem pruneF_bad{C:List Ve}{p l:Int}(h:rightC C=false):pruneF C p l=[]:=by unfold pruneF;rw[h];rfl
theorem pruneF_good{C:List Ve}{p l:Int}(h:rightC C=true):pruneF C p l=match C[seenN p l C]?with
  |some u=>if u.dead then C.take (seenN p l C)else C.take (seenN p l C+1)
  |none=>C:=by unfold pruneF;rw[if_pos h,pruneR_seen];cases C[seenN p l C]?<;>rfl
theorem prune17(B:Nat)(C:List Ve)(v:Value)(p l:Int)(w:World)(hv:VsAt B v C w)(hB:B<=w.heap.size):
  Calls Tryz.prog 146 #[v,.agg #[uw p,ui l]] w fun e w'=>∃v',e=.returned v'/\VsAt w'.heap.size v' (pruneF C p l) w'/\Below w.heap.size w w':=by
 have hv':=hv;obtain⟨ao,cap,rfl,hlc,hcm,-⟩:=hv;have H:Hid (VsAt w.heap.size (.slice ao C.length cap) C w):=hv'.le hB;clear hv' hB;have HSn:Hid (seenN p l C<=C.length):=seenN_le _ _ _;have HP1:Hid (rightC C=false->pruneF C p l=[]):=pruneF_bad;have HP2:Hid (rightC C=true->pruneF C p l=match C[seenN p l C]?with
  |some u=>if u.dead then C.take (seenN p l C)else C.take (seenN p l C+1)
  |none=>C):=pruneF_good
 have HRl:Hid (rightC C=true->C.length<=1000):=fun h=>(rightC_iff.1 h).len;have CR:Hid (∀W,Below w.heap.size w W->Calls Tryz.prog 196 #[.slice ao C.length cap] W fun e w'=>e=.returned (.bool (rightC C))/\Below W.heap.size W w'):=fun W hW=>right12 w.heap.size C _ W (H.out.on hW) hW.size;have CS:Hid (∀W,Below w.heap.size w W->Calls Tryz.prog 197 #[.slice ao C.length cap,.agg #[uw p,ui l]] W fun e w'=>e=.returned (iw (seenN p l C))/\Below W.heap.size W w'):=fun W hW=>seen21 w.heap.size C _ _ _ W (H.out.on hW) hW.size;have CC:Hid (∀W n,Below w.heap.size w W->n<=C.length->C.length<=1000->Calls Tryz.prog 47 #[.slice ao n cap] W fun e w'=>∃v',e=.returned v'/\VsAt w'.heap.size v' (C.take n) w'/\Below W.heap.size W w'):=fun W n hW hn hl=>clone27 w.heap.size (C.take n) _ W ((H.out.on hW).take hn) hW.size (by simp;omega);generalize pruneF C p l=y at*;generalize rightC C=r1 at*;generalize seenN p l C=k at*;have HB0:Hid (Below w.heap.size w (w.alloc (.cells #[uw p,ui l] 28))):=(Below.refl _ _).alloc (Nat.le_refl _) _;go_enter Tryz.func146,Tryz.ntmps146;go_wp2_with fail;refine(CR.out _ HB0.out).mono ?_;rintro e w1 ⟨rfl,hb1⟩;have HB1:Hid (Below w.heap.size w w1):=HB0.out.trans (hb1.mono HB0.out.size);obtain⟨hc,-⟩:=bcell hb1;have hz0:w.heap.size<w1.heap.size:=by have:=hb1.size;simp at this;omega
 cases r1
 ·have HE:Hid _:=HP1.out rfl;go_wp2_with fail;rw[HE.out];go_ret;exact⟨_,rfl,vs_nil _ _,HB1.out⟩
 ·have hl1000:C.length<=1000:=HRl.out (by trivial);go_wp2_with fail;refine(CS.out _ HB1.out).mono ?_;rintro e w2 ⟨rfl,hb2⟩;have HB2:Hid (Below w.heap.size w w2):=HB1.out.trans (hb2.mono HB1.out.size);have HE:Hid _:=HP2.out (by trivial);clear hc hb1 hb2;have hk:=HSn.out;by_cases hkl:k<C.length
  ·obtain⟨b,off,rfl,hb,hck⟩:=H.out.el hkl;have hck2:=hck.on HB2.out hb;have HG:Hid (y=if(C.getD k dv).dead then C.take k else C.take (k+1)):=by have:=HE.out;rw[getD_some hkl]at this;exact this
   clear hck HE CS CR HP2 HP1 hb;generalize C.getD k dv=u at hck2 HG;obtain⟨yp,yl,yc,yn,ys,yd⟩:=u;obtain⟨-,-,-,-,-,m5⟩:=hck2;dsimp only at m5;have hkl2:(k:Int)<C.length:=by omega
   cases yd
   ·have hkc:(k:Int)+1<=cap:=by omega
    have hkc0:0<=(k:Int)+1:=by omega
    have hwr:IntKind.i64.wrap ((k:Int)+1)=((k+1:Nat):Int):=by simp[IntKind.wrap,IntKind.signed,IntKind.bits];omega
    have hkc2:k+1<=cap:=by omega
    go_wp2_with fail;refine(CC.out _ (k+1) HB2.out (by omega) hl1000).mono ?_;rintro e w3 ⟨v',rfl,hv3,hb3⟩;have H3:Hid (VsAt w3.heap.size v' (C.take (k+1)) w3/\Below w.heap.size w w3):=⟨hv3,HB2.out.trans (hb3.mono HB2.out.size)⟩;clear hv3 hb3;go_wp2_with fail;rw[HG.out];go_ret;exact⟨_,rfl,H3.out.1,H3.out.2⟩
   ·have hkc:(k:Int)<=cap:=by omega
    go_wp2_with fail;refine(CC.out _ k HB2.out (by omega) hl1000).mono ?_;rintro e w3 ⟨v',rfl,hv3,hb3⟩;have H3:Hid (VsAt w3.heap.size v' (C.take k) w3/\Below w.heap.size w w3):=⟨hv3,HB2.out.trans (hb3.mono HB2.out.size)⟩;clear hv3 hb3;go_wp2_with fail;rw[HG.out];go_ret;exact⟨_,rfl,H3.out.1,H3.out.2⟩
  ·have HG:Hid (y=C.take k):=by have:=HE.out;rw[List.getElem?_eq_none (by omega)]at this;rw[this,List.take_of_length_le (by omega)];exact rfl
   have hkl':¬(k:Int)<C.length:=by omega
   have hkc:(k:Int)<=cap:=by omega
   clear HE CS CR HP2 HP1;go_wp2_with fail;refine(CC.out _ k HB2.out (by omega) hl1000).mono ?_;rintro e w3 ⟨v',rfl,hv3,hb3⟩;have H3:Hid (VsAt w3.heap.size v' (C.take k) w3/\Below w.heap.size w w3):=⟨hv3,HB2.out.trans (hb3.mono HB2.out.size)⟩;clear hv3 hb3;go_wp2_with fail;rw[HG.out];go_ret;exact⟨_,rfl,H3.out.1,H3.out.2⟩
theorem getD_ext{A B:List Ve}(hl:A.length=B.length)(h:∀i,i<A.length->A.getD i dv=B.getD i dv):A=B:=by apply List.ext_getElem hl;intro i h1 h2;have:=h i h1;simpa[List.getD,List.getElem?_eq_getElem h1,List.getElem?_eq_getElem h2]using this
def sameB:List Ve->List Ve->Bool
 |[],[]=>true
 |a::r,b::s=>eqV a b&&sameB r s
 |_,_=>false
theorem sameB_iff:∀{A B:List Ve},sameB A B=true↔A=B
 |[],[]=>by simp[sameB]
 |[],_::_=>by simp[sameB]
 |_::_,[]=>by simp[sameB]
 |a::r,b::s=>by unfold sameB;rw[Bool.and_eq_true,eqV_iff,sameB_iff];simp
theorem sameB_self(A:List Ve):sameB A A=true:=sameB_iff.2 rfl
theorem same14(Ba Bb:Nat)(A B:List Ve)(va vb:Value)(w:World)(ha:VsAt Ba va A w)(hb:VsAt Bb vb B w):
  Calls Tryz.prog 45 #[va,vb] w fun e w'=>e=.returned (.bool (sameB A B))/\Below w.heap.size w w':=by
 obtain⟨ao,ca,rfl,hla,hma,hax⟩:=ha;obtain⟨bo,cb,rfl,hlb,hmb,hbx⟩:=hb;obtain⟨r,hr⟩:=xj (sameB A B);rw[hr];have HR:Hid _:=hr;clear hr;have HA:Hid _:=hax;have HB:Hid _:=hbx;have HLa:Hid _:=hla;have HLb:Hid _:=hlb;have h63:A.length<=9223372036854775807:=Nat.le_trans hla hma;clear hax hbx hla hlb hma hmb;by_cases hl:A.length=B.length
 ·have hl':((A.length:Int) != B.length)=false:=by simp[hl]
  have HL:Hid _:=hl;clear hl;go_enter Tryz.func45,Tryz.ntmps45;go_wp2_with fail;go_loopw [5] (fun i wr=>∃k:Nat,k<=A.length/\i=iw k/\(∀j,j<k->A.getD j dv=B.getD j dv)/\∃n,wr=w.drewN n) (fun i _=>A.length-(intOf i).toNat)
  case atStart=>exact⟨0,Nat.zero_le _,rfl,fun j hj=>absurd hj (by omega),0,rfl⟩
  case round=>
   obtain⟨k,hk,rfl,hall,n,rfl⟩:=hrel;have HE:Hid (∀j,j<k->A.getD j dv=B.getD j dv):=hall;clear hall;by_cases hkl:k<A.length
   ·obtain⟨b1,o1,rfl,hn1,h1⟩:=HA.out (by have:=HLa.out;omega);obtain⟨b2,o2,rfl,hn2,h2⟩:=HB.out (by have:=HLb.out;have:=HL.out;omega);clear hn1 hn2;have c1:=h1 k hkl;have c2:=h2 k (by have:=HL.out;omega);clear h1 h2;have hkb:(k:Int)<B.length:=by have:=HL.out;omega
    have HK:Hid (A.getD k dv=B.getD k dv->∀j,j<k+1->A.getD j dv=B.getD j dv):=fun h j hj=>by
     by_cases hjk:j=k
     ·subst hjk;exact h
     ·exact HE.out j (by omega)
    have HN:Hid (A.getD k dv≠B.getD k dv->r=false):=fun h=>by rw[<-HR.out,Bool.eq_false_iff];intro e;exact h (by rw[sameB_iff.1 e])
    generalize A.getD k dv=s at c1 HK HN;generalize B.getD k dv=t at c2 HK HN;obtain⟨xp,xl,xc,xn,xs,xd⟩:=s;obtain⟨yp,yl,yc,yn,ys,yd⟩:=t;obtain⟨e0,e1,e2,e3,e4,e5⟩:=c1;obtain⟨f0,f1,f2,f3,f4,f5⟩:=c2;dsimp only at e0 e1 e2 e3 e4 e5 f0 f1 f2 f3 f4 f5;have hkl':(k:Int)<A.length:=by omega
    have hrun:=run_neq30 xp xl xc xn xs xd yp yl yc yn ys yd;obtain⟨z,hz⟩:=xj (eqV ⟨xp,xl,xc,xn,xs,xd⟩ ⟨yp,yl,yc,yn,ys,yd⟩);rw[hz]at hrun;have HZ:Hid _:=hz;clear hz;cases z
    ·have HX:Hid _:=HN.out (fun e=>by have:=HZ.out;rw[eqV_iff.2 e]at this;cases this);go_wp2_with fail
     go_quiet (fail)
     go_wp2;go_ret;rw[HX.out];exact⟨rfl,below_drewN (below_drewN (Below.refl _ _) _) _⟩
    ·have HX:Hid _:=HK.out (eqV_iff.1 HZ.out);go_wp2_with fail
     go_quiet (fail)
     go_wp2;go_roundw
     case rel=>exact⟨k+1,by omega,by go_num,HX.out,_,rfl⟩
     case measure=>simp[intOf];omega
   ·have hkl':¬(k:Int)<A.length:=by omega
    have HX:Hid (r=true):=by show _=_;rw[<-HR.out];exact sameB_iff.2 (getD_ext HL.out fun i hi=>HE.out i (by omega))
    go_wp2;go_ret;rw[HX.out];exact⟨rfl,below_drewN (Below.refl _ _) _⟩
 ·have hl':((A.length:Int) != B.length)=true:=by simp;omega
  have HX:Hid (r=false):=by show _=_;rw[<-HR.out,Bool.eq_false_iff];exact fun e=>hl (by rw[sameB_iff.1 e])
  clear hl;go_enter Tryz.func45,Tryz.ntmps45;go_wp2;go_ret;rw[HX.out];exact⟨rfl,Below.refl _ _⟩
open Go.RowKit
abbrev Sv:=Option Addr×Nat×Nat
abbrev Tr:=Go.Deep.BT (List UInt8×Sv)
abbrev Tr.nil:Tr:=Go.Deep.BT.nil
abbrev Tr.node(b:Nat)(l:Tr)(k:List UInt8)(v:Sv)(x:Nat)(r:Tr):Tr:=Go.Deep.BT.node b x (k,v) l r
theorem Tr.ind{motive:Tr->Prop}(nil:motive .nil)(node:∀(b:Nat) (l:Tr) (k:List UInt8) (v:Sv) (x:Nat) (r:Tr),motive l->motive r->motive (.node b l k v x r))(t:Tr):motive t:=by
 induction t with
 |nil=>exact nil
 |node b x a l r ihl ihr=>
  obtain⟨k,v⟩:=a;exact node b l k v x r ihl ihr
theorem Tr.cas{motive:Tr->Prop}(nil:motive .nil)(node:∀(b:Nat) (l:Tr) (k:List UInt8) (v:Sv) (x:Nat) (r:Tr),motive (.node b l k v x r))(t:Tr):motive t:=Tr.ind nil (fun b l k v x r _ _=>node b l k v x r) t
def Tr.toL:Tr->Kv Sv
 |Go.Deep.BT.nil=>[]
 |Go.Deep.BT.node _ _ (k,v) l r=>Tr.toL l++(k,v)::Tr.toL r
def Tr.ptr:Tr->Value
 |Go.Deep.BT.nil=>.pointer none
 |Go.Deep.BT.node b _ _ _ _=>.pointer (some ⟨b,0,none⟩)
def Tr.blocks:Tr->List Nat
 |Go.Deep.BT.nil=>[]
 |Go.Deep.BT.node b _ _ l r=>b::(Tr.blocks l++Tr.blocks r)
structure Lay where
 ty:TypeId
 cells:List UInt8->Sv->Nat->Value->Value->Array Value
def TrAt(Y:Lay):Tr->World->Prop
 |Go.Deep.BT.nil,_=>True
 |Go.Deep.BT.node b x (k,v) l r,w=>w.heap[b]?=some (.cells (Y.cells k v x (Tr.ptr l) (Tr.ptr r)) Y.ty (0,0))/\TrAt Y l w/\TrAt Y r w
theorem TrAt.lt{Y:Lay}{w:World}{t:Tr}:TrAt Y t w->∀b∈t.blocks,b<w.heap.size:=by
 induction t using Tr.ind with
 |nil=>
  intro _ b hb;simp[Tr.blocks]at hb
 |node c l k v x r ihl ihr=>
  intro h b hb;obtain⟨h1,h2,h3⟩:=h;simp only[Tr.blocks,List.mem_cons,List.mem_append]at hb;rcases hb with rfl|hb|hb
  ·exact(Array.getElem?_eq_some_iff.1 h1).1
  ·exact ihl h2 b hb
  ·exact ihr h3 b hb
theorem TrAt.kept{Y:Lay}{F:Nat->Prop}{w w':World}(hk:Kept F w w'){t:Tr}:TrAt Y t w->(∀b∈t.blocks,¬F b)->TrAt Y t w':=by
 induction t using Tr.ind with
 |nil=>exact fun _ _=>trivial
 |node c l k v x r ihl ihr=>
  intro h hF;obtain⟨h1,h2,h3⟩:=h;refine⟨?_,ihl h2 (fun b hb=>hF b (by simp[Tr.blocks,hb])),ihr h3 (fun b hb=>hF b (by simp[Tr.blocks,hb]))⟩;rw[hk.block c (Array.getElem?_eq_some_iff.1 h1).1 (hF c (by simp[Tr.blocks]))];exact h1
theorem TrAt.on{Y:Lay}{w w':World}{t:Tr}(h:TrAt Y t w)(hb:Below w.heap.size w w'):TrAt Y t w':=TrAt.kept (F:=fun _=>False) (Kept.of_below hb) h (fun _ _ h=>h)
theorem TrAt.new{Y:Lay}{w:World}{l r:Tr}(hl:TrAt Y l w)(hr:TrAt Y r w)(k:List UInt8)(v:Sv)(x:Nat):TrAt Y (.node w.heap.size l k v x r) (w.alloc (.cells (Y.cells k v x l.ptr r.ptr) Y.ty)):=
 ⟨heap_alloc_new w _,hl.on (al _),hr.on (al _)⟩
theorem TrAt.write{Y:Lay}{w w':World}{b:Nat}{l r:Tr}{k:List UInt8}{v:Sv}{x:Nat}(hk:Kept (fun c=>c=b) w w')(hb:w'.heap[b]?=some (.cells (Y.cells k v x l.ptr r.ptr) Y.ty (0,0)))(hl:TrAt Y l w)(hr:TrAt Y r w)(hnl:b∉l.blocks)(hnr:b∉r.blocks):TrAt Y (.node b l k v x r) w':=
 ⟨hb,TrAt.kept hk hl (fun _ hc e=>hnl (e▸hc)),TrAt.kept hk hr (fun _ hc e=>hnr (e▸hc))⟩
theorem block_set{w:World}{b j:Nat}{cs:Array Value}{ty:TypeId}(u:Value)(h:w.heap[b]?=some (.cells cs ty (0,0))):(w.setCell ⟨b,j,none⟩ u).heap[b]?=some (.cells (cs.setIfInBounds j u) ty (0,0)):=by show(w.heap.modify b _)[b]?=_;rw[Array.getElem?_modify,if_pos rfl,h];rfl
theorem set_kept'(w:World)(b j:Nat)(u:Value):Kept (fun c=>c=b) w (w.setCell ⟨b,j,none⟩ u):=by have hb:Below b w (w.setCell ⟨b,j,none⟩ u):=(Below.refl b w).setCell (p:=⟨b,j,none⟩) (Nat.le_refl b) u;exact⟨hb.os,hb.tape,hb.output,hb.size,fun k _ hF=>Below.heap_setCell w ⟨b,j,none⟩ u k hF⟩
theorem block_cell{w:World}{b j:Nat}{cs:Array Value}{ty:TypeId}{u:Value}(h:w.heap[b]?=some (.cells cs ty (0,0)))(hj:cs[j]?=some u):w.cell? ⟨b,j,none⟩=some u:=by unfold World.cell?;rw[h];exact hj
theorem block_frozen{w:World}{b:Nat}{cs:Array Value}{ty:TypeId}(h:w.heap[b]?=some (.cells cs ty (0,0)))(j:Nat):w.frozen? ⟨b,j,none⟩=false:=by unfold World.frozen?;rw[h];simp
def kc(K:List (List UInt8)):List Value:=K.map fun k=>sd k
theorem kc_length(K:List (List UInt8)):(kc K).length=K.length:=by simp[kc]
theorem kc_append(K R:List (List UInt8)):kc (K++R)=kc K++kc R:=by simp[kc]
theorem kc_one(K:List (List UInt8)):∀u∈kc K,u.oneCell'=true:=by intro u hu;obtain⟨_,_,rfl⟩:=List.mem_map.1 hu;rfl
theorem own_nil(base e size:Nat)(w:World):w.ownsRow base e size sy 0 []:=World.ownsRow_nil w base e size
theorem below_own{base e size:Nat}{v:Value}{n:Nat}{cs:List Value}{a w w':World}(hb:Below base a w)(hs:base<=w.heap.size)(hI:w.ownsRow base e size v n cs)(hg:w.grownBy w' v.ownBlock):Below base a w':=
 hb.grown hg hs fun k hk=>(World.ownsRow.lt hI k hk).1
theorem bl(a b:List UInt8):Op.bytesLess (bs a).toList (bs b).toList=ltK a b:=by rw[bs_list,bs_list];rfl
theorem info9:(Tryz.prog.info? 9).map (fun i=>(i.zero,i.size,i.bytes))=some (some su,1,16):=by kernel_rfl
theorem ks_one(w:World)(k:List UInt8):RwAt (w.heap.size+1) 1 (.slice (some ⟨w.heap.size,0,none⟩) 1 1) 1 (kc [k]) (w.alloc (.cells #[sd k] 9)):=by
 refine⟨_,1,rfl,rfl,Nat.le_refl _,by omega,fun _=>⟨w.heap.size,0,rfl,fun _=>Nat.lt_succ_self _,fun j u hj=>?_⟩⟩;match j,hj with
 |0,hj=>simp[kc]at hj;subst hj;simp[go_sem]
 |j+1,hj=>simp[kc]at hj
abbrev Sk:=Kv (List Ve)
def chainF(k:List UInt8)(S:Sk):List Ve:=(getF k S).getD []
def keyB(k:List UInt8):Bool:=decide (1<=k.length)&&decide (k.length<=32)
def seeF(c:List Ve)(p l:Int):Option (List UInt8):=match atF c p l with
 |none=>none
 |some v=>if v.dead then none else some v.val
def putS(k:List UInt8)(v:Ve)(S:Sk):Sk×Int:=if keyB k then(if(putF (chainF k S) v).2=0 then(setF k (putF (chainF k S) v).1 S,0)else(S,(putF (chainF k S) v).2))else(S,1)
def scanR(p l:Int)(S:Sk):List (List UInt8×List UInt8):=S.filterMap fun x=>(seeF x.2 p l).map fun s=>(x.1,s)
def rngS(lo hi:List UInt8)(S:Sk):Sk:=S.filter fun x=>inR lo hi x.1
def scanS(lo hi:List UInt8)(p l limit:Int)(S:Sk):List (List UInt8×List UInt8):=(scanR p l (rngS lo hi S)).take (min limit 32).toNat
def prune1(p l:Int)(x:List UInt8×List Ve):Option (List UInt8×List Ve):=if(pruneF x.2 p l).isEmpty then none else some (x.1,pruneF x.2 p l)
def pruneS(p l:Int)(S:Sk):Sk:=S.filterMap (prune1 p l)
def goneS(p l:Int)(S:Sk):Nat:=(S.map fun x=>x.2.length-(pruneF x.2 p l).length).sum
def totS(S:Sk):Nat:=(S.map fun x=>x.2.length).sum
structure SOk(S:Sk):Prop where
 srt:Srt S
 all:∀x∈S,Ch x.2/\x.2≠[]
theorem SOk.nil:SOk []:=⟨List.Pairwise.nil,fun _ h=>by cases h⟩
theorem chain_mem{S:Sk}(h:SOk S){k:List UInt8}{c:List Ve}(hm:(k,c)∈S):chainF k S=c:=by unfold chainF;rw[(getF_mem h.srt).2 hm];rfl
theorem ins_ne{v:Ve}:∀{c d:List Ve},insF v c=some d->d≠[]
 |[],d,h=>by simp only[insF,Option.some.injEq]at h;subst h;simp
 |u::r,d,h=>by
  unfold insF at h;split at h
  ·cases e:insF v r with
   |none=>rw[e]at h;cases h
   |some x=>rw[e]at h;simp only[Option.map_some,Option.some.injEq]at h;subst h;simp
  ·split at h
   ·split at h
    ·simp only[Option.some.injEq]at h;subst h;simp
    ·cases h
   ·simp only[Option.some.injEq]at h;subst h;simp
theorem put_good{c:List Ve}{v:Ve}(h:(putF c v).2=0):Ch (putF c v).1/\(putF c v).1≠[]/\(putF c v).1.length<=c.length+1:=by
 have e:putF c v=((putF c v).1,0):=by rw[<-h]
 obtain⟨h1,h2,_,h4,_⟩:=putF_ok e;refine⟨h2,ins_ne h4,?_⟩;rcases(insF_cases h4 h1.desc).2.2 with⟨e1,_⟩|e1
 ·rw[e1];omega
 ·omega
theorem put_sok{S:Sk}(h:SOk S)(k:List UInt8)(v:Ve):SOk (putS k v S).1:=by
 unfold putS;split
 ·split
  ·rename_i h0;refine⟨setF_srt h.srt,fun x hx=>?_⟩;rcases setF_keys hx with rfl|hx
   ·exact⟨(put_good h0).1,(put_good h0).2.1⟩
   ·exact h.all x hx
  ·exact h
 ·exact h
theorem tot_set{k:List UInt8}{c:List Ve}:∀{S:Sk},Srt S->totS (setF k c S)+(chainF k S).length=totS S+c.length
 |[],_=>by simp[totS,setF,chainF,getF]
 |(a,u)::r,h=>by
  obtain⟨h1,h2⟩:=List.pairwise_cons.1 h;have ih:=tot_set (S:=r) (k:=k) (c:=c) h2;unfold setF;by_cases e:ltK a k=true
  ·rw[if_pos e];have hne:(a==k)=false:=by simpa using ltK_ne e
   simp only[chainF,getF,hne,Bool.false_eq_true,if_false]at ih|-;simp only[totS,List.map_cons,List.sum_cons]at ih|-;omega
  ·rw[if_neg e];by_cases e2:(a==k)=true
   ·rw[if_pos e2];simp only[chainF,getF,e2,if_true,Option.getD_some,totS,List.map_cons,List.sum_cons];omega
   ·rw[if_neg e2];have hn:getF k ((a,u)::r)=none:=by
     refine getF_none fun x hx=>?_;have hka:ltK k a=true:=by
      cases h5:ltK k a
      ·exact absurd (ltK_tri (by simpa using e) h5) (by simpa using e2)
      ·rfl
     rcases List.mem_cons.1 hx with rfl|hx
     ·exact(ltK_ne hka).symm
     ·exact(ltK_ne (ltK_trans hka (h1 x hx))).symm
    simp only[chainF,hn,Option.getD_none,List.length_nil,totS,List.map_cons,List.sum_cons];omega
theorem tot_put{S:Sk}(h:SOk S)(k:List UInt8)(v:Ve):totS (putS k v S).1<=totS S+1:=by
 unfold putS;split
 ·split
  ·rename_i h0;have:=tot_set (S:=S) (k:=k) (c:=(putF (chainF k S) v).1) h.srt;have:=(put_good h0).2.2;dsimp only;omega
  ·exact Nat.le_succ _
 ·exact Nat.le_succ _
theorem len_tot:∀{S:Sk},(∀x∈S,Ch x.2/\x.2≠[])->S.length<=totS S
 |[],_=>Nat.le_refl _
 |x::r,h=>by have ih:=len_tot (S:=r) (fun y hy=>h y (by simp[hy]));have h0:=List.length_pos_iff.2 (h x (by simp)).2;simp only[totS,List.map_cons,List.sum_cons,List.length_cons]at ih|-;omega
theorem mem_tot:∀{S:Sk} {x:List UInt8×List Ve},x∈S->x.2.length<=totS S
 |[],_,h=>by cases h
 |y::r,x,h=>by
  simp only[totS,List.map_cons,List.sum_cons];rcases List.mem_cons.1 h with rfl|h
  ·omega
  ·have:=mem_tot h;simp only[totS]at this;omega
theorem prune_ch{c:List Ve}(h:Ch c)(p l:Int):pruneF c p l=pruneR p l c/\Ch (pruneF c p l):=by
 have e:pruneF c p l=pruneR p l c:=by unfold pruneF;rw[if_pos (rightC_iff.2 h)]
 exact⟨e,by rw[e];exact(pruneR_ch h p l).1⟩
theorem prune_le{c:List Ve}(hc:Ch c)(p l:Int):(pruneF c p l).length<=c.length:=by rw[(prune_ch hc p l).1];exact(pruneR_ch hc p l).2
theorem prune_key{p l:Int}{x y:List UInt8×List Ve}(h:prune1 p l x=some y):y=(x.1,pruneF x.2 p l)/\pruneF x.2 p l≠[]:=by
 unfold prune1 at h;split at h
 ·cases h
 ·rename_i e;simp only[Option.some.injEq]at h;exact⟨h.symm,by simpa using e⟩
theorem pruneS_mem{p l:Int}{S:Sk}{y:List UInt8×List Ve}:y∈pruneS p l S↔∃x∈S,y=(x.1,pruneF x.2 p l)/\pruneF x.2 p l≠[]:=by
 unfold pruneS;rw[List.mem_filterMap];constructor
 ·rintro⟨x,hx,h⟩;exact⟨x,hx,prune_key h⟩
 ·rintro⟨x,hx,rfl,h⟩;refine⟨x,hx,?_⟩;unfold prune1;rw[if_neg (by simpa using h)]
theorem pruneS_srt(p l:Int):∀{S:Sk},Srt S->Srt (pruneS p l S)
 |[],_=>List.Pairwise.nil
 |x::r,h=>by
  obtain⟨h1,h2⟩:=List.pairwise_cons.1 h;have ih:=pruneS_srt p l h2;unfold pruneS;rw[List.filterMap_cons];split
  ·exact ih
  ·rename_i y e;refine List.pairwise_cons.2 ⟨fun z hz=>?_,ih⟩;obtain⟨a,ha,rfl,_⟩:=pruneS_mem.1 hz;rw[(prune_key e).1];exact h1 a ha
theorem tot_prune(p l:Int):∀{S:Sk},(∀x∈S,Ch x.2/\x.2≠[])->totS (pruneS p l S)+goneS p l S=totS S
 |[],_=>rfl
 |x::r,h=>by
  have ih:=tot_prune p l (S:=r) (fun y hy=>h y (by simp[hy]));have hle:=prune_le (h x (by simp)).1 p l;unfold pruneS at ih|-;rw[List.filterMap_cons];simp only[totS,goneS,List.map_cons,List.sum_cons]at ih|-;split
  ·rename_i e;have h0:(pruneF x.2 p l).length=0:=by
    unfold prune1 at e;split at e
    ·rename_i e2;simpa using e2
    ·cases e
   omega
  ·rename_i y e;rw[(prune_key e).1];simp only[List.map_cons,List.sum_cons];omega
def dk:List UInt8×Sv:=([],none,0,0)
def itc:Kv Sv->List Value
 |[]=>[]
 |x::r=>[Value.string (bs x.1),.slice x.2.1 x.2.2.1 x.2.2.2]++itc r
theorem itc_append(L R:Kv Sv):itc (L++R)=itc L++itc R:=by
 induction L with
 |nil=>rfl
 |cons a L ih=>simp[itc,ih]
theorem itc_length(L:Kv Sv):(itc L).length=L.length*2:=by
 induction L with
 |nil=>rfl
 |cons a L ih=>simp[itc,ih];omega
theorem itc_one(L:Kv Sv):∀u∈itc L,u.oneCell'=true:=by
 induction L with
 |nil=>intro u hu;simp[itc]at hu
 |cons a L ih=>
  intro u hu;simp only[itc,List.cons_append,List.nil_append,List.mem_cons]at hu;rcases hu with rfl|rfl|hu
  ·rfl
  ·rfl
  ·exact ih u hu
theorem itc_key:∀(L:Kv Sv) (i:Nat),i<L.length->(itc L)[i*2]?=some (.string (bs (L.getD i dk).1))/\(itc L)[i*2+1]?=some (.slice (L.getD i dk).2.1 (L.getD i dk).2.2.1 (L.getD i dk).2.2.2)
 |[],i,h=>absurd h (by simp)
 |x::r,0,_=>⟨rfl,rfl⟩
 |x::r,i+1,h=>by have:=itc_key r i (by simpa using h);simp only[itc,List.cons_append,List.nil_append];rw[show(i+1)*2=i*2+1+1 from by omega];simpa using this
def svV(s:Sv):Value:=.slice s.1 s.2.1 s.2.2
def Chs(w:World):Kv Sv->Sk->Prop
 |[],[]=>True
 |(k,s)::L,(q,c)::S=>k=q/\VsAt w.heap.size (svV s) c w/\Chs w L S
 |_,_=>False
def NoVe(w:World)(b:Nat):Prop:=∀off x,¬VeAt w b off x
theorem VeAt.kept{w w':World}{G:Nat->Prop}{b off:Nat}{x:Ve}(h:VeAt w b off x)(hk:Kept G w w')(hG:¬G b):VeAt w' b off x:=
 ⟨hk.cell h.c0 hG,hk.cell h.c1 hG,hk.cell h.c2 hG,hk.cell h.c3 hG,hk.cell h.c4 hG,hk.cell h.c5 hG,by rw[hk.block b (World.block_lt_of_cell? _ _ h.c0) hG];exact h.ty⟩
theorem VsAt.kept{w w':World}{G:Nat->Prop}{B:Nat}{v:Value}{C:List Ve}(h:VsAt B v C w)(hk:Kept G w w')(hG:∀k,G k->NoVe w k):VsAt B v C w':=by obtain⟨ao,cap,rfl,h1,h2,h3⟩:=h;refine⟨ao,cap,rfl,h1,h2,fun h0=>?_⟩;obtain⟨b,off,rfl,hb,hc⟩:=h3 h0;exact⟨b,off,rfl,hb,fun i hi=>(hc i hi).kept hk (fun hg=>hG b hg _ _ (hc i hi))⟩
theorem Chs.kept{w w':World}{G:Nat->Prop}(hk:Kept G w w')(hG:∀k,G k->NoVe w k):∀{L:Kv Sv} {S:Sk},Chs w L S->Chs w' L S
 |[],[],_=>trivial
 |(_,_)::_,(_,_)::_,h=>⟨h.1,(VsAt.kept h.2.1 hk hG).le hk.size,Chs.kept hk hG h.2.2⟩
theorem Chs.on{w w':World}{L:Kv Sv}{S:Sk}(h:Chs w L S)(hb:Below w.heap.size w w'):Chs w' L S:=Chs.kept (G:=fun _=>False) (Kept.of_below hb) (fun _ h=>h.elim) h
theorem Chs.len{w:World}:∀{L:Kv Sv} {S:Sk},Chs w L S->L.length=S.length
 |[],[],_=>rfl
 |(_,_)::_,(_,_)::_,h=>by simp[Chs.len h.2.2]
theorem Chs.map{w:World}:∀{L:Kv Sv} {S:Sk},Chs w L S->L.map (·.1)=S.map (·.1)
 |[],[],_=>rfl
 |(_,_)::_,(_,_)::_,h=>by simp[Chs.map h.2.2,h.1]
theorem Chs.at{w:World}:∀{L:Kv Sv} {S:Sk},Chs w L S->∀(i:Nat),i<L.length->(L.getD i dk).1=(S.getD i ([],[])).1/\VsAt w.heap.size (svV (L.getD i dk).2) (S.getD i ([],[])).2 w
 |(k,s)::L,(q,c)::S,h,0,_=>⟨h.1,h.2.1⟩
 |(k,s)::L,(q,c)::S,h,i+1,hi=>by have:=Chs.at h.2.2 i (by simpa using hi);simpa using this
theorem noVe_tag{w:World}{b:Nat}{o:Obj}(h:w.heap[b]?=some o)(hn:∀cs fz,o≠ .cells cs 120 fz):NoVe w b:=fun off x hv=>by obtain⟨cs,fz,hh⟩:=hv.ty;rw[h]at hh;injection hh with hh;exact hn cs fz hh
theorem noVe_small{w:World}{b:Nat}{cs:Array Value}{ty:TypeId}(h:w.heap[b]?=some (.cells cs ty (0,0)))(hs:cs.size<6):NoVe w b:=by intro off x hv;have:=hv.c5;unfold World.cell? at this;rw[h]at this;have h2:cs[off+5]?=some (.bool x.dead):=this;rw[Array.getElem?_eq_none (by omega)]at h2;cases h2
theorem info57:(Tryz.prog.info? 65).map (fun i=>(i.zero,i.size,i.bytes))=some (some (.agg #[su,sy]),2,40):=by kernel_rfl
theorem it_one(w:World)(k:List UInt8)(s:Sv):RwAt (w.heap.size+1) 2 (.slice (some ⟨w.heap.size,0,none⟩) 1 1) 1 (itc [(k,s)]) (w.alloc (.cells #[sd k,.slice s.1 s.2.1 s.2.2] 65)):=by
 refine⟨_,1,rfl,rfl,Nat.le_refl _,by omega,fun _=>⟨w.heap.size,0,rfl,fun _=>Nat.lt_succ_self _,fun j u hj=>?_⟩⟩;match j,hj with
 |0,hj=>simp[itc]at hj;subst hj;simp[go_sem]
 |1,hj=>simp[itc]at hj;subst hj;simp[go_sem]
 |j+2,hj=>simp[itc]at hj
theorem it_ow{base n:Nat}{sa:Option Addr}{sc:Nat}{l:Kv Sv}{w:World}(k:List UInt8)(s:Sv)(ho:w.ownsRow base 65 2 (.slice sa n sc) n (itc l))(hb:base<=w.heap.size)(hl:n<1000000):
  Ow base 65 2 (.slice sa n sc) n (itc l) (w.heap.size+1) (.slice (some ⟨w.heap.size,0,none⟩) 1 1) 1 (itc [(k,s)]) (w.alloc (.cells #[sd k,.slice s.1 s.2.1 s.2.2] 65)):=
 ⟨World.ownsRow.alloc ho _,it_one w k s,itc_one _,Nat.le_trans hb (by simp),by omega⟩
theorem Chs.get{w:World}(k:List UInt8):∀{L:Kv Sv} {S:Sk},Chs w L S->VsAt w.heap.size (svV ((getF k L).getD (none,0,0))) (chainF k S) w
 |[],[],_=>vs_nil _ _
 |(a,s)::L,(q,c)::S,h=>by
  obtain⟨rfl,h1,h2⟩:=h;unfold chainF getF;by_cases e:(a==k)=true
  ·rw[if_pos e,if_pos e];exact h1
  ·rw[if_neg e,if_neg e];exact Chs.get k h2
theorem Chs.set{w:World}{k:List UInt8}{s:Sv}{c:List Ve}(hv:VsAt w.heap.size (svV s) c w):∀{L:Kv Sv} {S:Sk},Chs w L S->Chs w (setF k s L) (setF k c S)
 |[],[],_=>⟨rfl,hv,trivial⟩
 |(a,t)::L,(q,d)::S,h=>by
  obtain⟨rfl,h1,h2⟩:=h;unfold setF;by_cases e:ltK a k=true
  ·rw[if_pos e,if_pos e];exact⟨rfl,h1,Chs.set hv h2⟩
  ·rw[if_neg e,if_neg e];by_cases e2:(a==k)=true
   ·rw[if_pos e2,if_pos e2];exact⟨rfl,hv,h2⟩
   ·rw[if_neg e2,if_neg e2];exact⟨rfl,hv,rfl,h1,h2⟩
theorem Chs.cut{w:World}(k:List UInt8):∀{L:Kv Sv} {S:Sk},Chs w L S->Chs w (cutF k L) (cutF k S)
 |[],[],_=>trivial
 |(a,t)::L,(q,d)::S,h=>by
  obtain⟨rfl,h1,h2⟩:=h;unfold cutF;by_cases e:(a==k)=true
  ·rw[if_pos e,if_pos e];exact h2
  ·rw[if_neg e,if_neg e];exact⟨rfl,h1,Chs.cut k h2⟩
def getV:Option (List UInt8)->List UInt8×Bool
 |some s=>(s,true)
 |none=>([],false)
theorem see_at(C:List Ve)(p l:Int):getV (seeF C p l)=if(atF C p l).isSome=true/\((atF C p l).getD dv).dead=false then(((atF C p l).getD dv).val,true)else([],false):=by
 unfold seeF;cases h:atF C p l with
 |none=>rfl
 |some v=>
  cases hd:v.dead with
  |true=>simp[getV,hd]
  |false=>simp[getV,hd]
structure Tx(w:World)(bx:Nat)(p l:Int)(W:World):Prop where
 c0:W.cell? ⟨bx,0,none⟩=some (uw p)
 c1:W.cell? ⟨bx,1,none⟩=some (ui l)
 bel:Below w.heap.size w W
theorem Tx.on{w W W':World}{bx:Nat}{p l:Int}(h:Tx w bx p l W)(hb:Below W.heap.size W W'):Tx w bx p l W':=
 ⟨by rw[hb.cell (World.block_lt_of_cell? _ _ h.c0)];exact h.c0,by rw[hb.cell (World.block_lt_of_cell? _ _ h.c1)];exact h.c1,h.bel.trans (hb.mono h.bel.size)⟩
theorem Tx.dr{w W:World}{bx:Nat}{p l:Int}(h:Tx w bx p l W):Tx w bx p l W.drew:=h.on (Below.refl _ _).drew
theorem Tx.two{w W:World}{bx:Nat}{p l:Int}(h:Tx w bx p l W):W.cell? ⟨bx,0,none⟩=some (uw p)/\W.cell? ⟨bx,1,none⟩=some (ui l)/\Tx w bx p l W:=⟨h.c0,h.c1,h⟩
theorem Tx.al{w W:World}{bx:Nat}{p l:Int}(h:Tx w bx p l W)(o:Obj):Tx w bx p l (W.alloc o):=h.on (Go.Proofs.YtdplfgcoaddbdaaGreat.al _)
theorem Tx.st{w W:World}{bx b:Nat}{p l:Int}(h:Tx w bx p l W)(hb:bx<b/\w.heap.size<=b)(j:Nat)(u:Value):Tx w bx p l (W.setCell ⟨b,j,none⟩ u):=
 ⟨(set_kept' W b j u).cell h.c0 (by omega),(set_kept' W b j u).cell h.c1 (by omega),h.bel.setCell (p:=⟨b,j,none⟩) hb.2 u⟩
theorem tx_new(w:World)(p l:Int):Tx w w.heap.size p l (w.alloc (.cells #[uw p,ui l] 28)):=⟨by simp[go_sem],by simp[go_sem],al _⟩
theorem zero_box{W W3:World}{o:Obj}(hb:Below (W.alloc o).drew.heap.size (W.alloc o).drew W3):W3.heap[W.heap.size]?=some o:=by rw[hb.block W.heap.size (by simp)];exact heap_alloc_new W _
theorem zero_cells{W:World}{b:Nat}(h:W.heap[b]?=some (.cells #[uw 0,ui 0,ui 0,ui 0,su,.bool false] 120 (0,0))):W.cell? ⟨b,0,none⟩=some (uw 0)/\W.cell? ⟨b,1,none⟩=some (ui 0)/\W.cell? ⟨b,2,none⟩=some (ui 0)/\W.cell? ⟨b,3,none⟩=some (ui 0)/\W.cell? ⟨b,4,none⟩=some su/\W.cell? ⟨b,5,none⟩=some (.bool false)/\W.frozen? ⟨b,0,none⟩=false/\W.frozen? ⟨b,1,none⟩=false/\W.frozen? ⟨b,2,none⟩=false/\W.frozen? ⟨b,3,none⟩=false/\W.frozen? ⟨b,4,none⟩=false/\W.frozen? ⟨b,5,none⟩=false:=
 ⟨block_cell h rfl,block_cell h rfl,block_cell h rfl,block_cell h rfl,block_cell h rfl,block_cell h rfl,block_frozen h _,block_frozen h _,block_frozen h _,block_frozen h _,block_frozen h _,block_frozen h _⟩
theorem six_set{W:World}{b:Nat}{p l c n:Int}{s:List UInt8}{d:Bool}(h:W.heap[b]?=some (.cells #[uw 0,ui 0,ui 0,ui 0,su,.bool false] 120 (0,0))):
  VeAt ((((((W.setCell ⟨b,0,none⟩ (uw p)).setCell ⟨b,1,none⟩ (ui l)).setCell ⟨b,2,none⟩ (ui c)).setCell ⟨b,3,none⟩ (ui n)).setCell ⟨b,4,none⟩ (sd s)).setCell ⟨b,5,none⟩ (.bool d)) b 0 ⟨p,l,c,n,s,d⟩:=by
 have h1:(W.setCell ⟨b,0,none⟩ (uw p)).heap[b]?=some (.cells #[uw p,ui 0,ui 0,ui 0,su,.bool false] 120 (0,0)):=block_set _ h;generalize W.setCell ⟨b,0,none⟩ (uw p)=W1 at*;have h2:(W1.setCell ⟨b,1,none⟩ (ui l)).heap[b]?=some (.cells #[uw p,ui l,ui 0,ui 0,su,.bool false] 120 (0,0)):=block_set _ h1;generalize W1.setCell ⟨b,1,none⟩ (ui l)=W2 at*;have h3:(W2.setCell ⟨b,2,none⟩ (ui c)).heap[b]?=some (.cells #[uw p,ui l,ui c,ui 0,su,.bool false] 120 (0,0)):=block_set _ h2;generalize W2.setCell ⟨b,2,none⟩ (ui c)=W3 at*;have h4:(W3.setCell ⟨b,3,none⟩ (ui n)).heap[b]?=some (.cells #[uw p,ui l,ui c,ui n,su,.bool false] 120 (0,0)):=block_set _ h3;generalize W3.setCell ⟨b,3,none⟩ (ui n)=W4 at*;have h5:(W4.setCell ⟨b,4,none⟩ (sd s)).heap[b]?=some (.cells #[uw p,ui l,ui c,ui n,sd s,.bool false] 120 (0,0)):=block_set _ h4;generalize W4.setCell ⟨b,4,none⟩ (sd s)=W5 at*;have h6:(W5.setCell ⟨b,5,none⟩ (.bool d)).heap[b]?=some (.cells #[uw p,ui l,ui c,ui n,sd s,.bool d] 120 (0,0)):=block_set _ h5;exact⟨block_cell h6 rfl,block_cell h6 rfl,block_cell h6 rfl,block_cell h6 rfl,block_cell h6 rfl,block_cell h6 rfl,_,_,h6⟩
def ds:List UInt8×List Ve:=([],[])
theorem stk_snoc{S:Sk}{m:Nat}(h:m<S.length):S.take (m+1)=S.take m++[S.getD m ds]:=by rw[List.take_add_one];simp[List.getD,h]
def prc:List (List UInt8×List UInt8)->List Value
 |[]=>[]
 |x::r=>[Value.string (bs x.1),sd x.2]++prc r
theorem prc_append(L R:List (List UInt8×List UInt8)):prc (L++R)=prc L++prc R:=by
 induction L with
 |nil=>rfl
 |cons x r ih=>simp[prc,ih]
theorem prc_one(L:List (List UInt8×List UInt8)):∀u∈prc L,u.oneCell'=true:=by
 induction L with
 |nil=>simp[prc]
 |cons x r ih=>
  intro u hu;simp only[prc,List.cons_append,List.nil_append,List.mem_cons]at hu;rcases hu with rfl|rfl|hu
  ·rfl
  ·rfl
  ·exact ih u hu
theorem info59:(Tryz.prog.info? 71).map (fun i=>(i.zero,i.size,i.bytes))=some (some (.agg #[su,su]),2,32):=by kernel_rfl
theorem pr_one(w:World)(k s:List UInt8):RwAt (w.heap.size+1) 2 (.slice (some ⟨w.heap.size,0,none⟩) 1 1) 1 (prc [(k,s)]) (w.alloc (.cells #[sd k,sd s] 71)):=by
 refine⟨_,1,rfl,rfl,Nat.le_refl _,by omega,fun _=>⟨w.heap.size,0,rfl,fun _=>Nat.lt_succ_self _,fun j u hj=>?_⟩⟩;match j,hj with
 |0,hj=>simp[prc]at hj;subst hj;simp[go_sem]
 |1,hj=>simp[prc]at hj;subst hj;simp[go_sem]
 |j+2,hj=>simp[prc]at hj
theorem pr_ow{base n:Nat}{sa:Option Addr}{sc:Nat}{l:List (List UInt8×List UInt8)}{w:World}(k s:List UInt8)(ho:w.ownsRow base 71 2 (.slice sa n sc) n (prc l))(hb:base<=w.heap.size)(hl:n<1000000):
  Ow base 71 2 (.slice sa n sc) n (prc l) (w.heap.size+1) (.slice (some ⟨w.heap.size,0,none⟩) 1 1) 1 (prc [(k,s)]) (w.alloc (.cells #[sd k,sd s] 71)):=
 ⟨World.ownsRow.alloc ho _,pr_one w k s,prc_one _,Nat.le_trans hb (by simp),by omega⟩
theorem getD_mem{S:Sk}{m:Nat}(h:m<S.length):S.getD m ds∈S:=by simp[List.getD,h]
end Go.Proofs.YtdplfgcoaddbdaaGreat.Sto
