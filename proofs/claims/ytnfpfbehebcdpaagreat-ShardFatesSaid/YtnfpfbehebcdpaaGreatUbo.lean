import Derived.Test.YtnfpfbehebcdpaaGreatUap
set_option maxHeartbeats 0
set_option maxRecDepth 99999
set_option linter.all false
namespace Go.Proofs.YtnfpfbehebcdpaaGreat.Ent
open Go.RowKit Go.Sort
def mask(k:Int):Nat:=if k=1\/k=6 then 4 else if k=2 then 155 else if k=3 then 551 else if k=4 then 517 else if k=5 then 3 else if k=7 then 1 else if k=8 then 389 else if k=9 then 103 else 0
def and16(f g:Nat)(hf:f<1024)(hg:g<1024):(bits BinOp.and IntKind.u16 (f:Int) (g:Int) != 0)=((f &&& g) != 0):=by
 have h:bits BinOp.and IntKind.u16 (f:Int) (g:Int)=((f &&& g:Nat):Int):=by unfold bits;simp;have e1:f%2^IntKind.u16.bits=f:=Nat.mod_eq_of_lt (by show f<2^16;omega);have e2:g%2^IntKind.u16.bits=g:=Nat.mod_eq_of_lt (by show g<2^16;omega);have e3:f &&& g<=f:=Nat.and_le_left;rw[e1,e2];generalize f &&& g=x at*;simp[IntKind.wrap,IntKind.signed,IntKind.bits];omega
 rw[h];rw[yh];simp
def He(f g:Nat)(w:World)(hf:f<1024)(hg:g<1024):cpr 98 #[.int .u16 (f:Int),.int .u16 (g:Int)] w λr w'=>r=.returned (.bool ((f &&& g) != 0))/\w=w':=by go_enter Tryz.func98,Tryz.ntmps98;go_wp2_with fail;go_ret;exact⟨iq (λb=>Ending.returned (.bool b)) (and16 f g hf hg),rfl⟩
def Vt(k:Int)(w:World):cpr 43 #[iw k] w λr w'=>r=.returned (.int .u16 (mask k:Int))/\w=w':=by go_enter Tryz.func43,Tryz.ntmps43;go_wp2_with fail;all_goals (go_ret;exact⟨by unfold mask;simp_all,rfl⟩)
def aij(e:En):Bool:=
 (Ox e.k||(e.c==0&&e.n==0))&&(Qn e.k||(e.sp==0&&e.sl==0))&&(Oy e.k||(e.ap==0&&e.al==0))&&(e.k==2||(e.mp==0&&e.ml==0&&e.prim.isEmpty))&&(Oc e.k||e.pt==0)&&(e.k==9|| !e.dn)&&(Q8 e.k||e.ws.isEmpty)
def am0(e:En):ai8 e (Js e)=aij e:=by
 rw[yh,abm];obtain⟨k,c,n,sp,sl,ap,al,mp,ml,prim,pt,dn,ws⟩:=e;unfold aij Js;simp only[En.mk.injEq,true_and,cu,Bool.or_eq_true,uq,Bool.not_eq_true',List.isEmpty_iff];have i1:∀(b:Bool) (x:Nat),(x=if b=true then x else 0)↔(b=true\/x=0):=λb x=>by cases b<;>simp
 have i2:∀(x:Nat),(x=if k=2 then x else 0)↔(k=2\/x=0):=λx=>by by_cases h:k=2<;>simp[h]
 have i3:(prim=if k=2 then prim else[])↔(k=2\/prim=[]):=by by_cases h:k=2<;>simp[h]
 have i4:(dn=if k=9 then dn else false)↔(k=9\/dn=false):=by by_cases h:k=9<;>simp[h]
 have i5:(ws=if Q8 k=true then ws else[])↔(Q8 k=true\/ws=[]):=by cases Q8 k<;>simp
 rw[i1,i1,i1,i1,i1,i1,i2,i2,i3,i1,i4,i5];constructor
 .rintro⟨h1,h2,h3,h4,h5,h6,h7,h8,h9,h10,h11,h12⟩;refine⟨⟨⟨⟨⟨⟨?_,?_⟩,?_⟩,?_⟩,h10⟩,h11⟩,h12⟩
  .rcases h1 with h|h<;>rcases h2 with g|g<;>simp_all
  .rcases h3 with h|h<;>rcases h4 with g|g<;>simp_all
  .rcases h5 with h|h<;>rcases h6 with g|g<;>simp_all
  .rcases h7 with h|h<;>rcases h8 with g|g<;>rcases h9 with f|f<;>simp_all
 .rintro⟨⟨⟨⟨⟨⟨h1,h2⟩,h3⟩,h4⟩,h10⟩,h11⟩,h12⟩;refine⟨?_,?_,?_,?_,?_,?_,?_,?_,?_,h10,h11,h12⟩
  .rcases h1 with h|h;exact .inl h;exact .inr h.1
  .rcases h1 with h|h;exact .inl h;exact .inr h.2
  .rcases h2 with h|h;exact .inl h;exact .inr h.1
  .rcases h2 with h|h;exact .inl h;exact .inr h.2
  .rcases h3 with h|h;exact .inl h;exact .inr h.1
  .rcases h3 with h|h;exact .inl h;exact .inr h.2
  .rcases h4 with h|h;exact .inl h;exact .inr h.1.1
  .rcases h4 with h|h;exact .inl h;exact .inr h.1.2
  .rcases h4 with h|h;exact .inl h;exact .inr h.2
def ae5(e:En):Eo e=(decide (1<=e.k)&&decide (e.k<=9)&&aij e&&(Ec e.sp e.sl&&Ec e.ap e.al&&Ec e.mp e.ml)&&kindOk e):=by unfold Eo;rw[am0]
def aum(l:List Wr):((l.length:Int)==0)=l.isEmpty:=by
 cases l with
 |nil=>rfl
 |cons a r=>
  simp only[bg,List.isEmpty_cons,jb];omega
def ag1(p l:Nat)(w:World):(binOp .neq 38 (.agg #[uw p,ui l]) (.agg #[uw 0,ui 0])).run Tryz.prog w=.ok (.bool (!(p==0&&l==0))) w:=by rw[<-P5 p 0,<-P5 l 0];generalize (p:Int)=p;generalize (l:Int)=l;by_cases h:p=0<;>by_cases h2:l=0<;>simp[go_sem,h,h2]
def st26(m:Nat)(sm:Bool)(e:En)(ao:Option Addr)(cp:Nat)(w:World)(hws:WsAt w.heap.size (.slice ao e.ws.length cp) e.ws w)(h41:(∀W:World,1=1->cpr 98 #[.int .u16 (m:Int),.int .u16 512] W λr w'=>r=.returned (.bool sm)/\W=w')):
  cpr 105 #[.agg #[iw e.k,ui e.c,ui e.n,uw e.sp,ui e.sl,uw e.ap,ui e.al,uw e.mp,ui e.ml,sd e.prim,ub e.pt,.bool e.dn,.slice ao e.ws.length cp],.int .u16 (m:Int)] w λr w'=>r=.returned (.bool (!(sm&&Pv e)&&(Ec e.sp e.sl&&Ec e.ap e.al&&Ec e.mp e.ml)))/\Bw w w':=by
 have H0:Hid _:=Qh (e:=e) hws;obtain⟨W1,hW1⟩:=xj (w.alloc (.cells #[iw e.k,ui e.c,ui e.n,uw e.sp,ui e.sl,uw e.ap,ui e.al,uw e.mp,ui e.ml,sd e.prim,ub e.pt,.bool e.dn,.slice ao e.ws.length cp] 92));obtain⟨b,hb⟩:=xj w.heap.size;have H1:Hid (Eb w b e ao cp W1):=by rw[<-hb,<-hW1];exact H0.out
 clear H0 hws;have h512:Hid _:=h41;obtain⟨r1,hr1⟩:=xj (Ec e.sp e.sl);obtain⟨r2,hr2⟩:=xj (Ec e.ap e.al);obtain⟨r3,hr3⟩:=xj (Ec e.mp e.ml);have K1:Hid (∀W,1=1->cpr 109 #[.agg #[uw e.sp,ui e.sl]] W λr w'=>r=.returned (.bool r1)/\Bw W w'):=λW _=>by rw[<-hr1,<-Zq];exact Jb e.sp e.sl W
 have K2:Hid (∀W,1=1->cpr 109 #[.agg #[uw e.ap,ui e.al]] W λr w'=>r=.returned (.bool r2)/\Bw W w'):=λW _=>by rw[<-hr2,<-Zq];exact Jb e.ap e.al W
 have K3:Hid (∀W,1=1->cpr 109 #[.agg #[uw e.mp,ui e.ml]] W λr w'=>r=.returned (.bool r3)/\Bw W w'):=λW _=>by rw[<-hr3,<-Zq];exact Jb e.mp e.ml W
 have HR1:Hid (Ec e.sp e.sl=r1):=hr1;have HR2:Hid (Ec e.ap e.al=r2):=hr2;have HR3:Hid (Ec e.mp e.ml=r3):=hr3;clear h41 hr1 hr2 hr3;obtain⟨q,hq⟩:=xj (e.ap==0&&e.al==0);have e1:=ag2 e.ap e.al;rw[hq]at e1;have HQ:Hid (Pv e=q):=hq;clear hq;have p3:W1.cell? ⟨b,3,none⟩=some (uw e.sp):=Aa H1.out.x rfl;have p4:W1.cell? ⟨b,4,none⟩=some (ui e.sl):=Aa H1.out.x rfl;have p5:W1.cell? ⟨b,5,none⟩=some (uw e.ap):=Aa H1.out.x rfl;have p6:W1.cell? ⟨b,6,none⟩=some (ui e.al):=Aa H1.out.x rfl;have p7:W1.cell? ⟨b,7,none⟩=some (uw e.mp):=Aa H1.out.x rfl;have p8:W1.cell? ⟨b,8,none⟩=some (ui e.ml):=Aa H1.out.x rfl;cases sm
 .skip;exact aot
 .cases q
  .skip;exact aot
  .skip;go_enter Tryz.func105,Tryz.ntmps105;go_wp2_with fail;refine(h512.out _ (by trivial)).mono ?_;rintro r wx ⟨rfl,rfl⟩;go_wp2_with fail;go_ret;exact⟨by rw[HQ.out];rfl,H1.out.bel⟩
def vd27(e:En)(ao:Option Addr)(cp:Nat)(w:World)(hws:WsAt w.heap.size (.slice ao e.ws.length cp) e.ws w):
  cpr 106 #[.agg #[iw e.k,ui e.c,ui e.n,uw e.sp,ui e.sl,uw e.ap,ui e.al,uw e.mp,ui e.ml,sd e.prim,ub e.pt,.bool e.dn,.slice ao e.ws.length cp]] w λr w'=>r=.returned (.bool (!(e.k==9)|| !Pv e||(e.pt==0&& !e.dn)))/\Bw w w':=by
 have H0:Hid _:=Qh (e:=e) hws;obtain⟨W1,hW1⟩:=xj (w.alloc (.cells #[iw e.k,ui e.c,ui e.n,uw e.sp,ui e.sl,uw e.ap,ui e.al,uw e.mp,ui e.ml,sd e.prim,ub e.pt,.bool e.dn,.slice ao e.ws.length cp] 92));obtain⟨b,hb⟩:=xj w.heap.size;have H1:Hid (Eb w b e ao cp W1):=by rw[<-hb,<-hW1];exact H0.out
 clear H0 hws;obtain⟨q,hq⟩:=xj (e.ap==0&&e.al==0);have e1:=ag1 e.ap e.al;rw[hq]at e1;have HQ:Hid (Pv e=q):=hq;clear hq;have p0:W1.cell? ⟨b,0,none⟩=some (iw e.k):=Aa H1.out.x rfl;have p5:W1.cell? ⟨b,5,none⟩=some (uw e.ap):=Aa H1.out.x rfl;have p6:W1.cell? ⟨b,6,none⟩=some (ui e.al):=Aa H1.out.x rfl;have p10:W1.cell? ⟨b,10,none⟩=some (ub e.pt):=Aa H1.out.x rfl;have p11:W1.cell? ⟨b,11,none⟩=some (.bool e.dn):=Aa H1.out.x rfl;by_cases hk:e.k=9
 rotate_left
 .have HK:Hid ((e.k==9)=false):=by show _=_;simpa using hk
  go_enter Tryz.func106,Tryz.ntmps106;go_wp2_with fail;go_ret;exact⟨by rw[HK.out];rfl,H1.out.bel⟩
 have HK:Hid ((e.k==9)=true):=by show _=_;simpa using hk
 rw[hk]at p0;clear hk;cases q
 .go_enter Tryz.func106,Tryz.ntmps106;go_wp2_with fail;go_ret;exact⟨by rw[HK.out,HQ.out];rfl,H1.out.bel⟩
 by_cases hpt:e.pt=0
 rotate_left
 .have HP:Hid ((e.pt==0)=false):=by show _=_;simpa using hpt
  exact bc5
 have HP:Hid ((e.pt==0)=true):=by show _=_;simpa using hpt
 have p10':W1.cell? ⟨b,10,none⟩=some (ub 0):=by rw[p10,hpt];rfl
 clear p10 hpt;exact bc5
def am1(m:Nat)(e:En)(ao:Option Addr)(cp:Nat)(w:World)(hws:WsAt w.heap.size (.slice ao e.ws.length cp) e.ws w)(h16:(∀W:World,1=1->cpr 98 #[.int .u16 (m:Int),.int .u16 16] W λr w'=>r=.returned (.bool false)/\W=w'))(h256:(∀W:World,1=1->cpr 98 #[.int .u16 (m:Int),.int .u16 256] W λr w'=>r=.returned (.bool false)/\W=w'))(h128:(∀W:World,1=1->cpr 98 #[.int .u16 (m:Int),.int .u16 128] W λr w'=>r=.returned (.bool false)/\W=w')):
  cpr 107 #[.agg #[iw e.k,ui e.c,ui e.n,uw e.sp,ui e.sl,uw e.ap,ui e.al,uw e.mp,ui e.ml,sd e.prim,ub e.pt,.bool e.dn,.slice ao e.ws.length cp],.int .u16 (m:Int)] w λr w'=>r=.returned (.bool true)/\Bw w w':=by
 have H0:Hid _:=Qh (e:=e) hws;obtain⟨W1,hW1⟩:=xj (w.alloc (.cells #[iw e.k,ui e.c,ui e.n,uw e.sp,ui e.sl,uw e.ap,ui e.al,uw e.mp,ui e.ml,sd e.prim,ub e.pt,.bool e.dn,.slice ao e.ws.length cp] 92));obtain⟨b,hb⟩:=xj w.heap.size;have H1:Hid (Eb w b e ao cp W1):=by rw[<-hb,<-hW1];exact H0.out
 clear H0 hws;have C1:Hid _:=h16;have C2:Hid _:=h256;have C3:Hid _:=h128;clear h16 h256 h128;go_enter Tryz.func107,Tryz.ntmps107;go_wp2_with fail;refine(C1.out _ (by trivial)).mono ?_;rintro r wx ⟨rfl,rfl⟩;go_wp2_with fail;refine(C2.out _ (by trivial)).mono ?_;rintro r wx ⟨rfl,rfl⟩;go_wp2_with fail;refine(C3.out _ (by trivial)).mono ?_;rintro r wx ⟨rfl,rfl⟩;exact bbn
def arq(m:Nat)(e:En)(ao:Option Addr)(cp:Nat)(w:World)(hws:WsAt w.heap.size (.slice ao e.ws.length cp) e.ws w)(h16:(∀W:World,1=1->cpr 98 #[.int .u16 (m:Int),.int .u16 16] W λr w'=>r=.returned (.bool true)/\W=w'))(h256:(∀W:World,1=1->cpr 98 #[.int .u16 (m:Int),.int .u16 256] W λr w'=>r=.returned (.bool false)/\W=w'))(h128:(∀W:World,1=1->cpr 98 #[.int .u16 (m:Int),.int .u16 128] W λr w'=>r=.returned (.bool true)/\W=w')):
  cpr 107 #[.agg #[iw e.k,ui e.c,ui e.n,uw e.sp,ui e.sl,uw e.ap,ui e.al,uw e.mp,ui e.ml,sd e.prim,ub e.pt,.bool e.dn,.slice ao e.ws.length cp],.int .u16 (m:Int)] w λr w'=>r=.returned (.bool (kOk e.prim&&Bf e.ws))/\Bw w w':=by
 have H0:Hid _:=Qh (e:=e) hws;obtain⟨W1,hW1⟩:=xj (w.alloc (.cells #[iw e.k,ui e.c,ui e.n,uw e.sp,ui e.sl,uw e.ap,ui e.al,uw e.mp,ui e.ml,sd e.prim,ub e.pt,.bool e.dn,.slice ao e.ws.length cp] 92));obtain⟨b,hb⟩:=xj w.heap.size;have H1:Hid (Eb w b e ao cp W1):=by rw[<-hb,<-hW1];exact H0.out
 clear H0 hws;have C1:Hid _:=h16;have C2:Hid _:=h256;have C3:Hid _:=h128;have CW:Hid (1=1->cpr 108 #[.slice ao e.ws.length cp] W1 λr w'=>r=.returned (.bool (Bf e.ws))/\Bw W1 w'):=λ_=>Sm W1.heap.size e.ws _ W1 H1.out.wsx (ai _);have hsz:(bs e.prim).size=e.prim.length:=Bq e.prim;clear h16 h256 h128;have p9:W1.cell? ⟨b,9,none⟩=some (sd e.prim):=Aa H1.out.x rfl;have p12:W1.cell? ⟨b,12,none⟩=some (.slice ao e.ws.length cp):=Aa H1.out.x rfl;by_cases hl:e.prim.length<1
 .have HK:Hid (kOk e.prim=false):=by show _=_;unfold kOk;simp only[Bool.and_eq_false_iff,uh];omega
  have hl1:(e.prim.length:Int)<1:=by omega
  clear hl;exact bav
 have hl1:¬(e.prim.length:Int)<1:=by omega
 by_cases hg:32<e.prim.length
 .have HK:Hid (kOk e.prim=false):=by show _=_;unfold kOk;simp only[Bool.and_eq_false_iff,uh];omega
  have hg1:(32:Int)<(e.prim.length:Int):=by omega
  clear hl hg;exact bav
 have hg1:¬(32:Int)<(e.prim.length:Int):=by omega
 have HK:Hid (kOk e.prim=true):=by show _=_;unfold kOk;simp only[cu,jc];omega
 clear hl hg;go_enter Tryz.func107,Tryz.ntmps107;go_wp2_with fail;refine(C1.out _ (by trivial)).mono ?_;rintro r wx ⟨rfl,rfl⟩;go_wp2_with fail;refine(C2.out _ (by trivial)).mono ?_;rintro r wx ⟨rfl,rfl⟩;go_wp2_with fail;refine(C3.out _ (by trivial)).mono ?_;rintro r wx ⟨rfl,rfl⟩;go_wp2_with fail;refine(CW.out (by trivial)).mono ?_;rintro r w2 ⟨rfl,hb2⟩;exact bbt
def am2(m:Nat)(e:En)(ao:Option Addr)(cp:Nat)(w:World)(hws:WsAt w.heap.size (.slice ao e.ws.length cp) e.ws w)(h16:(∀W:World,1=1->cpr 98 #[.int .u16 (m:Int),.int .u16 16] W λr w'=>r=.returned (.bool false)/\W=w'))(h256:(∀W:World,1=1->cpr 98 #[.int .u16 (m:Int),.int .u16 256] W λr w'=>r=.returned (.bool true)/\W=w'))(h128:(∀W:World,1=1->cpr 98 #[.int .u16 (m:Int),.int .u16 128] W λr w'=>r=.returned (.bool true)/\W=w')):
  cpr 107 #[.agg #[iw e.k,ui e.c,ui e.n,uw e.sp,ui e.sl,uw e.ap,ui e.al,uw e.mp,ui e.ml,sd e.prim,ub e.pt,.bool e.dn,.slice ao e.ws.length cp],.int .u16 (m:Int)] w λr w'=>r=.returned (.bool (e.ws.length==1&&Bf e.ws))/\Bw w w':=by
 have H0:Hid _:=Qh (e:=e) hws;obtain⟨W1,hW1⟩:=xj (w.alloc (.cells #[iw e.k,ui e.c,ui e.n,uw e.sp,ui e.sl,uw e.ap,ui e.al,uw e.mp,ui e.ml,sd e.prim,ub e.pt,.bool e.dn,.slice ao e.ws.length cp] 92));obtain⟨b,hb⟩:=xj w.heap.size;have H1:Hid (Eb w b e ao cp W1):=by rw[<-hb,<-hW1];exact H0.out
 clear H0 hws;have C1:Hid _:=h16;have C2:Hid _:=h256;have C3:Hid _:=h128;have CW:Hid (1=1->cpr 108 #[.slice ao e.ws.length cp] W1 λr w'=>r=.returned (.bool (Bf e.ws))/\Bw W1 w'):=λ_=>Sm W1.heap.size e.ws _ W1 H1.out.wsx (ai _);clear h16 h256 h128;have p12:W1.cell? ⟨b,12,none⟩=some (.slice ao e.ws.length cp):=Aa H1.out.x rfl;by_cases hl:e.ws.length=1
 rotate_left
 .have HK:Hid ((e.ws.length==1)=false):=by show _=_;simpa using hl
  have hl1:¬(e.ws.length:Int)=1:=by omega
  go_enter Tryz.func107,Tryz.ntmps107;go_wp2_with fail;refine(C1.out _ (by trivial)).mono ?_;rintro r wx ⟨rfl,rfl⟩;go_wp2_with fail;refine(C2.out _ (by trivial)).mono ?_;rintro r wx ⟨rfl,rfl⟩;go_wp2_with fail;go_ret;exact⟨by rw[HK.out];rfl,H1.out.bel⟩
 have HK:Hid ((e.ws.length==1)=true):=by show _=_;simpa using hl
 have p12':W1.cell? ⟨b,12,none⟩=some (.slice ao 1 cp):=by rw[p12,hl]
 have CW':Hid (1=1->cpr 108 #[.slice ao 1 cp] W1 λr w'=>r=.returned (.bool (Bf e.ws))/\Bw W1 w'):=by have:=CW.out;rw[hl]at this;exact this
 clear hl p12 CW;go_enter Tryz.func107,Tryz.ntmps107;go_wp2_with fail;refine(C1.out _ (by trivial)).mono ?_;rintro r wx ⟨rfl,rfl⟩;go_wp2_with fail;refine(C2.out _ (by trivial)).mono ?_;rintro r wx ⟨rfl,rfl⟩;go_wp2_with fail;refine(C3.out _ (by trivial)).mono ?_;rintro r wx ⟨rfl,rfl⟩;go_wp2_with fail;refine(CW'.out (by trivial)).mono ?_;rintro r w2 ⟨rfl,hb2⟩;exact bbt
structure Wz(w:World)(b pb:Nat)(e:En)(ao:Option Addr)(cp:Nat)(L:Bi)(W:World):Prop where
 eb:Eb w b e ao cp W
 wr:Gm pb L W
 lt:b<pb
 le:w.heap.size<=pb
variable {w W W':World}{b pb:Nat}{e:En}{ao:Option Addr}{cp:Nat}{L L':Bi}
def aw4(h:Eb w b e ao cp W):Wz w b W.heap.size e ao cp [] (W.alloc (.cells #[sy] 163)):=
 ⟨h.on (al _),⟨sy,ae W _,Ip _ _ _ _⟩,(gsz h.x),h.bel.size⟩
def Wz.go(h:Wz w b pb e ao cp L W)(hw:Gm pb L' W')(hk:Gy pb W W'):Wz w b pb e ao cp L' W':=
 ⟨⟨h.eb.bel.trans (hk.below.mono h.le),by rw[hk.below.block b h.lt];exact h.eb.x,h.eb.ws.on (hk.below.mono h.le)⟩,hw,h.lt,h.le⟩
variable {bw:Nat}{x:Wr}
theorem _root_.Go.Proofs.YtnfpfbehebcdpaaGreat.Gm.al{T:Obj}(h:Gm pb L W):Gm pb L (W.alloc T):=by obtain⟨v,h1,h2⟩:=h;exact⟨v,by rw[(YtnfpfbehebcdpaaGreat.al (W:=W) T).block pb (gsz h1)];exact h1,o6 h2 _⟩
def anr(pb:Nat)(l s:Bi)(w:World)(hw:Gm pb l w)(hl:l.length+9+s.length<=140737488355328):cpr 156 #[pz pb,sd s] w λe w'=>e=.returned (.tuple #[])/\Gm pb (l++Au s) w'/\Gy pb w w':=by have:=ant pb l (bs s) w hw (by rw[Bq];exact hl);rw[Bq,D6]at this;exact this
end Go.Proofs.YtnfpfbehebcdpaaGreat.Ent
namespace Go.Proofs.YtnfpfbehebcdpaaGreat.Ent
open Go.RowKit Go.Sort
structure Pz(w:World)(B b pb:Nat)(e:En)(ao:Option Addr)(cp:Nat)(L:Bi)(W:World):Prop where
 x:W.heap[b]?=some (.cells #[iw e.k,ui e.c,ui e.n,uw e.sp,ui e.sl,uw e.ap,ui e.al,uw e.mp,ui e.ml,sd e.prim,ub e.pt,.bool e.dn,.slice ao e.ws.length cp] 92 (0,0))
 wr:Gm pb L W
 ne:b≠pb
 k:Gy pb w W
 ws:WsAt B (.slice ao e.ws.length cp) e.ws W
 hB:B<=pb
variable {w W W':World}{B b pb:Nat}{e:En}{ao:Option Addr}{cp:Nat}{L L':Bi}
def aou(hw:Gm pb L w)(hws:WsAt B (.slice ao e.ws.length cp) e.ws w)(hB:B<=pb):Pz w B w.heap.size pb e ao cp L (w.alloc (.cells #[iw e.k,ui e.c,ui e.n,uw e.sp,ui e.sl,uw e.ap,ui e.al,uw e.mp,ui e.ml,sd e.prim,ub e.pt,.bool e.dn,.slice ao e.ws.length cp] 92)):=by obtain⟨v,h1,h2⟩:=hw;have hlt:=(gsz h1);exact⟨ae w _,Gm.alloc ⟨v,h1,h2⟩ _,by omega,(Gy.refl pb w).alloc (og hlt) _,hws.on ((al _).mono (by omega)),hB⟩
def Pz.go(h:Pz w B b pb e ao cp L W)(hw:Gm pb L' W')(hk:Gy pb W W'):Pz w B b pb e ao cp L' W':=
 ⟨hk.other b _ h.x h.ne (λcs fz hh=>by injection hh with _ h2 _;exact absurd h2 (by decide)),hw,h.ne,h.k.trans hk,h.ws.on (hk.below.mono h.hB),h.hB⟩
structure Pb(w:World)(B b pb bw:Nat)(e:En)(ao:Option Addr)(cp:Nat)(L:Bi)(x:Wr)(W:World):Prop where
 z:Pz w B b pb e ao cp L W
 bx:W.heap[bw]?=some (.cells #[sd x.key,sd x.val,.bool x.dead] 106 (0,0))
 ne:bw≠pb
variable {bw:Nat}{x:Wr}
def Pz.box(h:Pz w B b pb e ao cp L W)(x:Wr):Pb w B b pb W.heap.size e ao cp L x (W.alloc (.cells #[sd x.key,sd x.val,.bool x.dead] 106)):=by obtain⟨v,h1,h2⟩:=h.wr;have hlt:=(gsz h1);have hlb:=h.hB;exact⟨⟨by rw[(al (W:=W) _).block b (gsz h.x)];exact h.x,h.wr.al,h.ne,h.k.alloc (og hlt) _,h.ws.on ((al _).mono (by omega)),h.hB⟩,ae W _,by omega⟩
def Pb.go(h:Pb w B b pb bw e ao cp L x W)(hw:Gm pb L' W')(hk:Gy pb W W'):Pb w B b pb bw e ao cp L' x W':=
 ⟨h.z.go hw hk,hk.other bw _ h.bx h.ne (λcs fz hh=>by injection hh with _ h2 _;exact absurd h2 (by decide)),h.ne⟩
end Go.Proofs.YtnfpfbehebcdpaaGreat.Ent
namespace Go.Proofs.YtnfpfbehebcdpaaGreat.Ent
open Go.RowKit Go.Sort
variable {w W:World}{B b pb:Nat}{e:En}{ao:Option Addr}{cp:Nat}{M:Bi}
def Pz.num(h:Pz w B b pb e ao cp M W)(n:Nat)(hn:n<18446744073709551616)(hl:M.length<=9999):cpr 74 #[pz pb,uw n] W λr w'=>r=.returned (.tuple #[])/\Pz w B b pb e ao cp (M++Am n) w'/\(M++Am n).length<=M.length+9:=
 (abx pb M n W hn h.wr (by omega)).mono λ_ _ ⟨a,b,c⟩=>⟨a,h.go b c,by rw[af];have:=G8 hn;omega⟩
def Pz.stamp(h:Pz w B b pb e ao cp M W)(p q:Nat)(hp:p<=281474976710656)(hq:q<=4095)(hl:M.length<=9999):cpr 155 #[pz pb,.agg #[uw p,ui q]] W λr w'=>r=.returned (.tuple #[])/\Pz w B b pb e ao cp (M++A7 p q) w'/\(M++A7 p q).length<=M.length+18:=
 (asq pb M p q W (by omega) (by omega) h.wr (by omega)).mono λ_ _ ⟨a,b,c⟩=>⟨a,h.go b c,by rw[af];have:=Yn hp hq;omega⟩
def hdF(b1 b2 b4 b8:Bool)(e:En):Bi:=(if b1 then Am e.c++Am e.n else[])++((if b2 then A7 e.sp e.sl else[])++((if b4 then A7 e.ap e.al else[])++if b8 then A7 e.mp e.ml else[]))
def ph16(f:Nat)(b1 b2 b4 b8:Bool)(hf:f<1024)(h1:((f &&& 1) != 0)=b1)(h2:((f &&& 2) != 0)=b2)(h4:((f &&& 4) != 0)=b4)(h8:((f &&& 8) != 0)=b8)(e:En)(ao:Option Addr)(cp:Nat)(w:World)(B pb:Nat)(L:Bi)(hk:Wk e.c e.n e.sp e.sl e.ap e.al e.mp e.ml e.prim e.pt e.ws)(hws:WsAt B (.slice ao e.ws.length cp) e.ws w)(hB:B<=pb)(hw:Gm pb L w)(hL:L.length<=200):
  cpr 75 #[pz pb,.agg #[iw e.k,ui e.c,ui e.n,uw e.sp,ui e.sl,uw e.ap,ui e.al,uw e.mp,ui e.ml,sd e.prim,ub e.pt,.bool e.dn,.slice ao e.ws.length cp],.int .u16 (f:Int)] w λr w'=>r=.returned (.tuple #[])/\Gm pb (L++hdF b1 b2 b4 b8 e) w'/\Gy pb w w':=by
 have H0:Hid _:=aou (e:=e) hw hws hB;obtain⟨W1,hW1⟩:=xj (w.alloc (.cells #[iw e.k,ui e.c,ui e.n,uw e.sp,ui e.sl,uw e.ap,ui e.al,uw e.mp,ui e.ml,sd e.prim,ub e.pt,.bool e.dn,.slice ao e.ws.length cp] 92));obtain⟨b,hb⟩:=xj w.heap.size;obtain⟨M0,hM0⟩:=xj L;have HM0:Hid (L=M0):=hM0;have HZ:Hid (Pz w B b pb e ao cp M0 W1/\M0.length<=200):=by rw[<-hb,<-hW1,<-hM0];exact⟨H0.out,hL⟩
 have HK:Hid _:=hk;have F1:Hid (∀W:World,1=1->cpr 98 #[.int .u16 (f:Int),.int .u16 1] W λr w'=>r=.returned (.bool b1)/\W=w'):=λW _=>h1▸He f 1 W hf (by decide);have F2:Hid (∀W:World,1=1->cpr 98 #[.int .u16 (f:Int),.int .u16 2] W λr w'=>r=.returned (.bool b2)/\W=w'):=λW _=>h2▸He f 2 W hf (by decide);have F4:Hid (∀W:World,1=1->cpr 98 #[.int .u16 (f:Int),.int .u16 4] W λr w'=>r=.returned (.bool b4)/\W=w'):=λW _=>h4▸He f 4 W hf (by decide);have F8:Hid (∀W:World,1=1->cpr 98 #[.int .u16 (f:Int),.int .u16 8] W λr w'=>r=.returned (.bool b8)/\W=w'):=λW _=>h8▸He f 8 W hf (by decide);clear H0 hws hk hw hB h1 h2 h4 h8 hf hL hM0;go_enter Tryz.func75,Tryz.ntmps75;go_upto_region 1 with fail
 clear hb hW1;go_wp2_with fail;refine(F1.out _ (by trivial)).mono ?_;rintro r wx ⟨rfl,rfl⟩;clear F1;go_upto_if 7 with fail
 go_cut [] (λwc=>∃M,Hid (Pz w B b pb e ao cp M wc/\M.length<=218)/\Hid (M0++(if b1 then Am e.c++Am e.n else[])=M))
 case first=>
  cases b1
  .go_wp2_with fail;go_meet;exact⟨M0,⟨HZ.out.1,ak HZ.out.2 (by decide)⟩,jo _⟩
  .have p:ce _ b 1 (ui e.c):=Aa HZ.out.1.x rfl;have x:=ani (n:=e.c) (by have:=HK.out.c;omega);go_wp2_with fail;refine(HZ.out.1.num e.c (by have:=HK.out.c;omega) (by have:=HZ.out.2;omega)).mono ?_;rintro r y ⟨rfl,h⟩;have HY:Hid _:=h;have HY2:Hid (_<=209):=(ak h.2 (Nat.add_le_add_right HZ.out.2 9));clear h p x;have p:ce y b 2 (ui e.n):=Aa HY.out.1.x rfl;have x:=ani (n:=e.n) (by have:=HK.out.n;omega);go_wp2_with fail;refine(HY.out.1.num e.n (by have:=HK.out.n;omega) (by have:=HY2.out;omega)).mono ?_;rintro r z ⟨rfl,h⟩;go_wp2_with fail;go_meet;exact⟨_,⟨h.1,by have:=h.2;have:=HY2.out;omega⟩,(gq _ _ _).symm⟩
 case rest=>
 obtain⟨M1,HZ',HM1⟩:=hcut;clear HZ;have HZ:=HZ';clear HZ';go_wp2_with fail;refine(F2.out _ (by trivial)).mono ?_;rintro r wx ⟨rfl,rfl⟩;clear F2;go_upto_if 21 with fail
 go_cut [] (λwc=>∃M,Hid (Pz w B b pb e ao cp M wc/\M.length<=236)/\Hid (M1++(if b2 then A7 e.sp e.sl else[])=M))
 case first=>
  cases b2
  .go_wp2_with fail;go_meet;exact⟨M1,⟨HZ.out.1,ak HZ.out.2 (by decide)⟩,jo _⟩
  .have p:ce _ b 3 (uw e.sp):=Aa HZ.out.1.x rfl;have x:ce _ b 4 (ui e.sl):=Aa HZ.out.1.x rfl;go_wp2_with fail;refine(HZ.out.1.stamp e.sp e.sl HK.out.sp HK.out.sq (by have:=HZ.out.2;omega)).mono ?_;rintro r y ⟨rfl,h⟩;exact az8
 case rest=>
 obtain⟨M2,HZ',HM2⟩:=hcut;clear HZ;have HZ:=HZ';clear HZ';go_wp2_with fail;refine(F4.out _ (by trivial)).mono ?_;rintro r wx ⟨rfl,rfl⟩;clear F4;go_upto_if 27 with fail
 go_cut [] (λwc=>∃M,Hid (Pz w B b pb e ao cp M wc/\M.length<=254)/\Hid (M2++(if b4 then A7 e.ap e.al else[])=M))
 case first=>
  cases b4
  .go_wp2_with fail;go_meet;exact⟨M2,⟨HZ.out.1,ak HZ.out.2 (by decide)⟩,jo _⟩
  .have p:ce _ b 5 (uw e.ap):=Aa HZ.out.1.x rfl;have x:ce _ b 6 (ui e.al):=Aa HZ.out.1.x rfl;go_wp2_with fail;refine(HZ.out.1.stamp e.ap e.al HK.out.ap HK.out.aq (by have:=HZ.out.2;omega)).mono ?_;rintro r y ⟨rfl,h⟩;exact az8
 case rest=>
 obtain⟨M3,HZ',HM3⟩:=hcut;clear HZ;have HZ:=HZ';clear HZ';go_wp2_with fail;refine(F8.out _ (by trivial)).mono ?_;rintro r wx ⟨rfl,rfl⟩;clear F8;have HM:Hid (L++hdF b1 b2 b4 b8 e=M3++if b8 then A7 e.mp e.ml else[]):=by show _=_;rw[<-HM3.out,<-HM2.out,<-HM1.out,<-HM0.out];simp only[hdF,gq]
 clear HM3 HM2 HM1 HM0;cases b8
 .go_wp2_with fail;go_end0
  exact⟨rfl,(by rw[HM.out];have h:=HZ.out.1.wr;rwa [<-jo M3]at h),HZ.out.1.k⟩
 .have p:ce _ b 7 (uw e.mp):=Aa HZ.out.1.x rfl;have x:ce _ b 8 (ui e.ml):=Aa HZ.out.1.x rfl;go_wp2_with fail;refine(HZ.out.1.stamp e.mp e.ml HK.out.mp HK.out.mq (by have:=HZ.out.2;omega)).mono ?_;rintro r y ⟨rfl,h⟩;go_wp2_with fail;go_end0
  exact⟨rfl,(by rw[HM.out];exact h.1.wr),h.1.k⟩
end Go.Proofs.YtnfpfbehebcdpaaGreat.Ent
namespace Go.Proofs.YtnfpfbehebcdpaaGreat.Ent
open Go.RowKit Go.Sort
variable {w W:World}{B b pb bw:Nat}{e:En}{ao:Option Addr}{cp:Nat}{M:Bi}{x:Wr}
def Pz.text(h:Pz w B b pb e ao cp M W)(s:Bi)(hs:s.length<=1000)(hl:M.length<=9999):cpr 156 #[pz pb,sd s] W λr w'=>r=.returned (.tuple #[])/\Pz w B b pb e ao cp (M++Au s) w'/\(M++Au s).length<=M.length+1009:=
 (anr pb M s W h.wr (by omega)).mono λ_ _ ⟨a,b,c⟩=>⟨a,h.go b c,by rw[af];have:=anq hs;omega⟩
def Pz.flag(h:Pz w B b pb e ao cp M W)(s:Bool)(hl:M.length<=9999):cpr 157 #[pz pb,.bool s] W λr w'=>r=.returned (.tuple #[])/\Pz w B b pb e ao cp (M++D7 s) w'/\(M++D7 s).length<=M.length+1:=
 (aqs pb M s W h.wr (by omega)).mono λ_ _ ⟨a,b,c⟩=>⟨a,h.go b c,by rw[af,aqx];omega⟩
def Pb.text(h:Pb w B b pb bw e ao cp M x W)(s:Bi)(hs:s.length<=1000)(hl:M.length<=9999):cpr 156 #[pz pb,sd s] W λr w'=>r=.returned (.tuple #[])/\Pb w B b pb bw e ao cp (M++Au s) x w'/\(M++Au s).length<=M.length+1009:=
 (anr pb M s W h.z.wr (by omega)).mono λ_ _ ⟨a,b,c⟩=>⟨a,h.go b c,by rw[af];have:=anq hs;omega⟩
def Pb.flag(h:Pb w B b pb bw e ao cp M x W)(s:Bool)(hl:M.length<=9999):cpr 157 #[pz pb,.bool s] W λr w'=>r=.returned (.tuple #[])/\Pb w B b pb bw e ao cp (M++D7 s) x w'/\(M++D7 s).length<=M.length+1:=
 (aqs pb M s W h.z.wr (by omega)).mono λ_ _ ⟨a,b,c⟩=>⟨a,h.go b c,by rw[af,aqx];omega⟩
def rsF(b16 b32 b64 b128 b256:Bool)(e:En):Bi:=(if b16 then Au e.prim else[])++((if b32 then Am e.pt else[])++((if b64 then D7 e.dn else[])++((if b128&& !b256 then Am e.ws.length else[])++Dz e.ws)))
def pr17(f:Nat)(b16 b32 b64 b128 b256:Bool)(hf:f<1024)(h16:((f &&& 16) != 0)=b16)(h32:((f &&& 32) != 0)=b32)(h64:((f &&& 64) != 0)=b64)(h128:((f &&& 128) != 0)=b128)(h256:((f &&& 256) != 0)=b256)(e:En)(ao:Option Addr)(cp:Nat)(w:World)(B pb:Nat)(L:Bi)(hk:Wk e.c e.n e.sp e.sl e.ap e.al e.mp e.ml e.prim e.pt e.ws)(hws:WsAt B (.slice ao e.ws.length cp) e.ws w)(hB:B<=pb)(hw:Gm pb L w)(hL:L.length<=200):
  cpr 76 #[pz pb,.agg #[iw e.k,ui e.c,ui e.n,uw e.sp,ui e.sl,uw e.ap,ui e.al,uw e.mp,ui e.ml,sd e.prim,ub e.pt,.bool e.dn,.slice ao e.ws.length cp],.int .u16 (f:Int)] w λr w'=>r=.returned (.tuple #[])/\Gm pb (L++rsF b16 b32 b64 b128 b256 e) w'/\Gy pb w w':=by
 have H0:Hid _:=aou (e:=e) hw hws hB;obtain⟨W1,hW1⟩:=xj (w.alloc (.cells #[iw e.k,ui e.c,ui e.n,uw e.sp,ui e.sl,uw e.ap,ui e.al,uw e.mp,ui e.ml,sd e.prim,ub e.pt,.bool e.dn,.slice ao e.ws.length cp] 92));obtain⟨b,hb⟩:=xj w.heap.size;obtain⟨M0,hM0⟩:=xj L;have HM0:Hid (L=M0):=hM0;have HZ:Hid (Pz w B b pb e ao cp M0 W1/\M0.length<=200):=by rw[<-hb,<-hW1,<-hM0];exact⟨H0.out,hL⟩
 have HK:Hid _:=hk;have F16:Hid (∀W:World,1=1->cpr 98 #[.int .u16 (f:Int),.int .u16 16] W λr w'=>r=.returned (.bool b16)/\W=w'):=λW _=>h16▸He f 16 W hf (by decide);have F32:Hid (∀W:World,1=1->cpr 98 #[.int .u16 (f:Int),.int .u16 32] W λr w'=>r=.returned (.bool b32)/\W=w'):=λW _=>h32▸He f 32 W hf (by decide);have F64:Hid (∀W:World,1=1->cpr 98 #[.int .u16 (f:Int),.int .u16 64] W λr w'=>r=.returned (.bool b64)/\W=w'):=λW _=>h64▸He f 64 W hf (by decide);have F128:Hid (∀W:World,1=1->cpr 98 #[.int .u16 (f:Int),.int .u16 128] W λr w'=>r=.returned (.bool b128)/\W=w'):=λW _=>h128▸He f 128 W hf (by decide);have F256:Hid (∀W:World,1=1->cpr 98 #[.int .u16 (f:Int),.int .u16 256] W λr w'=>r=.returned (.bool b256)/\W=w'):=λW _=>h256▸He f 256 W hf (by decide);obtain⟨ao',cap,he,hla,hma⟩:=hws.shape;simp only[ku,true_and]at he;obtain⟨rfl,rfl⟩:=he;have hL1:e.ws.length<9223372036854775808:=by omega
 clear H0 hws hk hw hB h16 h32 h64 h128 h256 hf hL hM0 hla hma;go_enter Tryz.func76,Tryz.ntmps76;go_upto_region 1 with fail
 clear hb hW1;go_wp2_with fail;refine(F16.out _ (by trivial)).mono ?_;rintro r wx ⟨rfl,rfl⟩;clear F16;go_upto_if 9 with fail
 go_cut [] (λwc=>∃M,Hid (Pz w B b pb e ao cp M wc/\M.length<=1209)/\Hid (M0++(if b16 then Au e.prim else[])=M))
 case first=>
  cases b16
  .go_wp2_with fail;go_meet;exact⟨M0,⟨HZ.out.1,ak HZ.out.2 (by decide)⟩,jo _⟩
  .have p:ce _ b 9 (sd e.prim):=Aa HZ.out.1.x rfl;go_wp2_with fail;refine(HZ.out.1.text e.prim HK.out.prim (by have:=HZ.out.2;omega)).mono ?_;rintro r y ⟨rfl,h⟩;exact az8
 case rest=>
 obtain⟨M1,HZ',HM1⟩:=hcut;clear HZ;have HZ:=HZ';clear HZ';go_wp2_with fail;refine(F32.out _ (by trivial)).mono ?_;rintro r wx ⟨rfl,rfl⟩;clear F32;go_upto_if 15 with fail
 go_cut [] (λwc=>∃M,Hid (Pz w B b pb e ao cp M wc/\M.length<=1218)/\Hid (M1++(if b32 then Am e.pt else[])=M))
 case first=>
  cases b32
  .go_wp2_with fail;go_meet;exact⟨M1,⟨HZ.out.1,ak HZ.out.2 (by decide)⟩,jo _⟩
  .have p:ce _ b 10 (ub e.pt):=Aa HZ.out.1.x rfl;have x:=ani (n:=e.pt) (by have:=HK.out.pt;omega);go_wp2_with fail;refine(HZ.out.1.num e.pt (by have:=HK.out.pt;omega) (by have:=HZ.out.2;omega)).mono ?_;rintro r y ⟨rfl,h⟩;exact az8
 case rest=>
 obtain⟨M2,HZ',HM2⟩:=hcut;clear HZ;have HZ:=HZ';clear HZ';go_wp2_with fail;refine(F64.out _ (by trivial)).mono ?_;rintro r wx ⟨rfl,rfl⟩;clear F64;go_upto_if 22 with fail
 go_cut [] (λwc=>∃M,Hid (Pz w B b pb e ao cp M wc/\M.length<=1219)/\Hid (M2++(if b64 then D7 e.dn else[])=M))
 case first=>
  cases b64
  .go_wp2_with fail;go_meet;exact⟨M2,⟨HZ.out.1,ak HZ.out.2 (by decide)⟩,jo _⟩
  .have p:ce _ b 11 (.bool e.dn):=Aa HZ.out.1.x rfl;go_wp2_with fail;refine(HZ.out.1.flag e.dn (by have:=HZ.out.2;omega)).mono ?_;rintro r y ⟨rfl,h⟩;exact az8
 case rest=>
 obtain⟨M3,HZ',HM3⟩:=hcut;clear HZ;have HZ:=HZ';clear HZ';go_upto_region 7 with fail
 go_cut [33] (λs wc'=>s=.bool (b128&& !b256)/\wc'=wc)
 case first=>
  cases b128
  .go_wp2_with fail;refine(F128.out _ (by trivial)).mono ?_;rintro r wx ⟨rfl,rfl⟩;go_wp2_with fail;go_meet;exact⟨rfl,rfl⟩
  .go_wp2_with fail;refine(F128.out _ (by trivial)).mono ?_;rintro r wx ⟨rfl,rfl⟩;go_wp2_with fail;refine(F256.out _ (by trivial)).mono ?_;rintro r wx ⟨rfl,rfl⟩;go_wp2_with fail;go_meet;exact⟨by cases b256<;>rfl,rfl⟩
 case rest=>
 obtain⟨rfl,rfl⟩:=hcut;clear F128 F256;obtain⟨bc,hbc⟩:=xj (b128&& !b256);have HBC:Hid ((b128&& !b256)=bc):=hbc;rw[hbc];clear hbc;go_upto_if 33 with fail
 go_cut [] (λwc=>∃M,Hid (Pz w B b pb e ao cp M wc/\M.length<=1228)/\Hid (M3++(if bc then Am e.ws.length else[])=M))
 case first=>
  cases bc
  .go_wp2_with fail;go_meet;exact⟨M3,⟨HZ.out.1,ak HZ.out.2 (by decide)⟩,jo _⟩
  .have p:ce _ b 12 (.slice ao e.ws.length cp):=Aa HZ.out.1.x rfl;have x:=ani (n:=e.ws.length) (by omega);go_wp2_with fail;refine(HZ.out.1.num e.ws.length (by omega) (by have:=HZ.out.2;omega)).mono ?_;rintro r y ⟨rfl,h⟩;exact az8
 case rest=>
 obtain⟨M4,HZ',HM4⟩:=hcut;clear HZ;have HZ:=HZ';clear HZ';have p:ce _ b 12 (.slice ao e.ws.length cp):=Aa HZ.out.1.x rfl;go_wp2_with fail;clear p;have H4:Hid (M4.length<=1228):=HZ.out.2;have HW0:Hid (M4++Dz (e.ws.take 0)=M4):=by show _=_;simp[Dz]
 go_loopw [43] (λi wr=>∃m:Nat,m<=e.ws.length/\i=iw m/\Hid (Pz w B b pb e ao cp (M4++Dz (e.ws.take m)) wr)) (λi _=>e.ws.length-(intOf i).toNat)
 case atStart=>exact⟨0,eu _,rfl,by rw[HW0.out];exact HZ.out.1⟩
 case round=>
  obtain⟨m,hm,rfl,HE⟩:=hrel;clear HW0 HZ;by_cases hml:m<e.ws.length
  .obtain⟨c1,o1,rfl,d0,d1,d2⟩:=HE.out.ws.el hml;have hml1:(m:Int)<e.ws.length:=by omega
   have HX0:Hid (wOk (e.ws.getD m dw)=true):=HK.out.ws _ (Tc hml);have HT:Hid (M4++Dz (e.ws.take m)++Ld (e.ws.getD m dw)=M4++Dz (e.ws.take (m+1))):=by show _=_;rw[akv hml,gq]
   have HQ:Hid (m+1<=e.ws.length):=hml;obtain⟨K0,hK⟩:=xj (M4++Dz (e.ws.take m));have HK0:Hid (K0.length<=6140):=by
    show _<=_;rw[<-hK,af];have h1:=am8 (ws:=e.ws.take m) (λx hx=>HK.out.ws x (uk hx));have h2:(e.ws.take m).length<=16:=by have:=HK.out.len;rw[ig];omega
    have h3:=H4.out;omega
   rw[hK]at HE HT;clear hK;generalize e.ws.getD m dw=x at*;have HB0:Hid _:=HE.out.box x;go_upto_region 12 with fail
   obtain⟨y0,hy⟩:=xj (wr.alloc (.cells #[sd x.key,sd x.val,.bool x.dead] 106));obtain⟨bw,hbw⟩:=xj wr.heap.size;have HP:Hid (Pb w B b pb bw e (some ⟨c1,o1,none⟩) cp K0 x y0):=by rw[<-hy,<-hbw];exact HB0.out
   rw[hy,hbw];clear HB0 hy hbw HE d0 d1 d2;have g:ce y0 bw 0 (sd x.key):=Aa HP.out.bx rfl;go_wp2_with fail;refine(HP.out.text x.key (by have:=(Us HX0.out).1;omega) (by have:=HK0.out;omega)).mono ?_;rintro r y1 ⟨rfl,h⟩;have HP1:Hid _:=h;clear g HP h;have g:ce y1 bw 2 (.bool x.dead):=Aa HP1.out.1.bx rfl;go_wp2_with fail;refine(HP1.out.1.flag x.dead (by have:=HK0.out;have:=HP1.out.2;omega)).mono ?_;rintro r y2 ⟨rfl,h⟩;have HP2:Hid _:=h;clear g h;have g:ce y2 bw 1 (sd x.val):=Aa HP2.out.1.bx rfl;go_wp2_with fail;refine(HP2.out.1.text x.val (by have:=(Us HX0.out).2;omega) (by have:=HK0.out;have:=HP1.out.2;have:=HP2.out.2;omega)).mono ?_;rintro r y3 ⟨rfl,h⟩;have HP3:Hid (Pz w B b pb e (some ⟨c1,o1,none⟩) cp (M4++Dz (e.ws.take (m+1))) y3):=by have h:=h.1.z;rw[gq,gq]at h;rw[<-HT.out];exact h
   clear g HP1 HP2 h;go_wp2_with fail;go_roundw
   case rel=>exact⟨m+1,HQ.out,by go_num,HP3.out⟩
   case measure=>simp[intOf];omega
  .have hml1:¬(m:Int)<e.ws.length:=by omega
   have HTW:Hid (e.ws.take m=e.ws):=ay (by omega);rw[HTW.out]at HE;go_wp2_with fail;go_end0
   refine⟨rfl,?_,HE.out.k⟩;have h:=HE.out.wr;rw[<-HM4.out,<-HBC.out,<-HM3.out,<-HM2.out,<-HM1.out,<-HM0.out]at h;simpa only[rsF,gq]using h
def R10:Prop:=∀(e:En) (ao:Option Addr) (cp:Nat) (w:World),EnOk e->e.ws.length<=100->WsAt w.heap.size (.slice ao e.ws.length cp) e.ws w->cpr 47 #[.agg #[iw e.k,ui e.c,ui e.n,uw e.sp,ui e.sl,uw e.ap,ui e.al,uw e.mp,ui e.ml,sd e.prim,ub e.pt,.bool e.dn,.slice ao e.ws.length cp]] w λr w'=>r=.returned (.bool (Eo e))/\Bw w w'
def Eb.cs{w W:World}{b:Nat}{e:En}{ao:Option Addr}{cp:Nat}(h:Eb w b e ao cp W):ce W b 0 (iw e.k)/\ce W b 1 (ui e.c)/\ce W b 2 (ui e.n)/\ce W b 3 (uw e.sp)/\ce W b 4 (ui e.sl)/\ce W b 5 (uw e.ap)/\ce W b 6 (ui e.al)/\ce W b 7 (uw e.mp)/\ce W b 8 (ui e.ml)/\ce W b 9 (sd e.prim)/\ce W b 10 (ub e.pt)/\ce W b 11 (.bool e.dn)/\ce W b 12 (.slice ao e.ws.length cp):=
 ⟨Aa h.x rfl,Aa h.x rfl,Aa h.x rfl,Aa h.x rfl,Aa h.x rfl,Aa h.x rfl,Aa h.x rfl,Aa h.x rfl,Aa h.x rfl,Aa h.x rfl,Aa h.x rfl,Aa h.x rfl,Aa h.x rfl⟩
def F1(e:En):Bi:=hdF ((mask e.k &&& 1) != 0) ((mask e.k &&& 2) != 0) ((mask e.k &&& 4) != 0) ((mask e.k &&& 8) != 0) e
def F2(e:En):Bi:=rsF ((mask e.k &&& 16) != 0) ((mask e.k &&& 32) != 0) ((mask e.k &&& 64) != 0) ((mask e.k &&& 128) != 0) ((mask e.k &&& 256) != 0) e
def azc{e:En}(h:Wk e.c e.n e.sp e.sl e.ap e.al e.mp e.ml e.prim e.pt e.ws):(F1 e).length<=72:=by
 have a1:(Am e.c).length<=9:=G8 (by have:=h.c;omega);have a2:(Am e.n).length<=9:=G8 (by have:=h.n;omega);have a3:=Yn h.sp h.sq;have a4:=Yn h.ap h.aq;have a5:=Yn h.mp h.mq;unfold F1 hdF;simp only[af];have q:∀(c:Bool) (l:Bi) (n:Nat),l.length<=n->(if c then l else[]).length<=n:=by intro c l n h;cases c<;>simp_all
 have q1:=q ((mask e.k &&& 1) != 0) (Am e.c++Am e.n) 18 (by rw[af];omega);have q2:=q ((mask e.k &&& 2) != 0) _ _ a3;have q3:=q ((mask e.k &&& 4) != 0) _ _ a4;have q4:=q ((mask e.k &&& 8) != 0) _ _ a5;omega
def aqp{e:En}(h:Eo e=true):Am e.k.toNat++F1 e++F2 e=Iu e:=by
 obtain⟨⟨h1,h9⟩,hb,_⟩:=G5 h;have hw:Q8 e.k=false->e.ws=[]:=λhh=>by have:=iq En.ws hb;simpa[Js,hh]using this
 obtain⟨k,c,n,sp,sq,ap,aq,mp,mq,prim,pt,dn,ws⟩:=e;simp only at h1 h9 hw;have hc:k=1\/k=2\/k=3\/k=4\/k=5\/k=6\/k=7\/k=8\/k=9:=by omega
 clear h hb;rcases hc with rfl|rfl|rfl|rfl|rfl|rfl|rfl|rfl|rfl<;>first|(obtain rfl:=hw rfl;simp[F1,F2,hdF,rsF,mask,Iu,Xu,V5,Sr,Wv,Xo,Dz,Ox,Qn,Oy,Oc])|simp[F1,F2,hdF,rsF,mask,Iu,Xu,V5,Sr,Wv,Xo,Ox,Qn,Oy,Oc]
def P7(k:Int):mask k<1024:=by unfold mask;repeat' split<;>first|decide|skip
def wp8(I:R10)(e:En)(ao:Option Addr)(cp:Nat)(w:World)(hok:EnOk e)(hlen:e.ws.length<=100)(hws:WsAt w.heap.size (.slice ao e.ws.length cp) e.ws w):
  cpr 30 #[.agg #[iw e.k,ui e.c,ui e.n,uw e.sp,ui e.sl,uw e.ap,ui e.al,uw e.mp,ui e.ml,sd e.prim,ub e.pt,.bool e.dn,.slice ao e.ws.length cp]] w λr w'=>r=.returned (.tuple #[.string (bs (Bj e).1),iw (Bj e).2])/\Bw w w':=by
 have H0:Hid _:=Qh (e:=e) hws;obtain⟨W1,hW1⟩:=xj (w.alloc (.cells #[iw e.k,ui e.c,ui e.n,uw e.sp,ui e.sl,uw e.ap,ui e.al,uw e.mp,ui e.ml,sd e.prim,ub e.pt,.bool e.dn,.slice ao e.ws.length cp] 92));obtain⟨b,hb⟩:=xj w.heap.size;have H1:Hid (Eb w b e ao cp W1):=by rw[<-hb,<-hW1];exact H0.out
 have CR:Hid (cpr 47 #[.agg #[iw e.k,ui e.c,ui e.n,uw e.sp,ui e.sl,uw e.ap,ui e.al,uw e.mp,ui e.ml,sd e.prim,ub e.pt,.bool e.dn,.slice ao e.ws.length cp]] W1 λr w'=>r=.returned (.bool (Eo e))/\Bw W1 w'):=I e ao cp W1 hok hlen H1.out.wsx;have HR:Hid (RgE e):=hok.rg;unfold Bj;obtain⟨z,hz⟩:=xj (Eo e);have HZ:Hid (Eo e=z):=hz;rw[hz]at CR|-;clear hz;obtain⟨p0,p1,p2,p3,p4,p5,p6,p7,p8,p9,p10,p11,p12⟩:=H1.out.cs;clear H0 hws hok hlen;go_enter Tryz.func30,Tryz.ntmps30;go_wp2_with fail;refine CR.out.mono ?_;rintro r w1 ⟨rfl,hb1⟩;have Ha:Hid (Eb w b e ao cp w1):=H1.out.on hb1;clear p0 p1 p2 p3 p4 p5 p6 p7 p8 p9 p10 p11 p12 hb1 hb hW1 CR H1;cases z with
 |false=>
  go_wp2_with fail
  go_ret2
  exact⟨rfl,Ha.out.bel⟩
 |true=>
 have hr:=HZ.out;have HK:Hid _:=awm hr HR.out;have HF:Hid (_=Iu e):=aqp hr;obtain⟨k1,k9⟩:=(G5 hr).1;have x1:IntKind.u64.wrap e.k=((e.k.toNat:Nat):Int):=by
  have:=ani (n:=e.k.toNat) (by omega)
  rwa [show((e.k.toNat:Nat):Int)=e.k by omega]at this|-
 have HN:Hid (e.k.toNat<=9):=by show _<=_;omega
 obtain⟨k,hk⟩:=xj e.k.toNat;rw[hk]at x1 HF HN;clear k1 k9 hr HR HZ hk;have HN0:Hid _:=aw4 Ha.out;go_upto_region 4 with fail
 obtain⟨y0,hy0⟩:=xj (w1.alloc (.cells #[sy] 163));obtain⟨pb,hpb⟩:=xj w1.heap.size;have HZ0:Hid (Wz w b pb e ao cp [] y0):=by rw[<-hy0,<-hpb];exact HN0.out
 rw[hy0,hpb];clear HN0 hy0 hpb Ha;have p0:ce y0 b 0 (iw e.k):=HZ0.out.eb.cs.1;go_wp2_with fail;refine(abx pb [] k y0 (by have:=HN.out;omega) HZ0.out.wr (by simp)).mono ?_;rintro r y1 ⟨rfl,hw,hk⟩;have HZ1:Hid (Wz w b pb e ao cp (Am k) y1):=HZ0.out.go hw hk;clear p0 hw hk HZ0 x1;have HL:Hid ((Am k).length<=9):=G8 (by have:=HN.out;omega);obtain⟨M,hM⟩:=xj (Am k);rw[hM]at HF HZ1 HL;clear hM HN;have p0:ce y1 b 0 (iw e.k):=HZ1.out.eb.cs.1;go_wp2_with fail;refine(Vt e.k y1).mono ?_;rintro r wx ⟨rfl,rfl⟩;clear p0;obtain⟨p0,p1,p2,p3,p4,p5,p6,p7,p8,p9,p10,p11,p12⟩:=HZ1.out.eb.cs;go_wp2_with fail;refine(ph16 (mask e.k) _ _ _ _ (P7 _) rfl rfl rfl rfl e ao cp y1 w.heap.size pb M HK.out HZ1.out.eb.ws HZ1.out.le HZ1.out.wr (by have:=HL.out;omega)).mono ?_;rintro r y2 ⟨rfl,hw,hk⟩;have HZ2:Hid (Wz w b pb e ao cp (M++F1 e) y2):=HZ1.out.go hw hk;clear hw hk HZ1 p0 p1 p2 p3 p4 p5 p6 p7 p8 p9 p10 p11 p12;obtain⟨p0,p1,p2,p3,p4,p5,p6,p7,p8,p9,p10,p11,p12⟩:=HZ2.out.eb.cs;go_wp2_with fail;refine(pr17 (mask e.k) _ _ _ _ _ (P7 _) rfl rfl rfl rfl rfl e ao cp y2 w.heap.size pb (M++F1 e) HK.out HZ2.out.eb.ws HZ2.out.le HZ2.out.wr (by rw[af];have:=HL.out;have:=azc HK.out;omega)).mono ?_;rintro r y3 ⟨rfl,hw,hk⟩;have HZ3:Hid (Wz w b pb e ao cp (M++F1 e++F2 e) y3):=HZ2.out.go hw hk;clear hw hk HZ2 p0 p1 p2 p3 p4 p5 p6 p7 p8 p9 p10 p11 p12;rw[HF.out]at HZ3;go_wp2_with fail;refine(aeh pb (Iu e) y3 HZ3.out.wr).mono ?_;rintro r wx ⟨rfl,rfl⟩;go_wp2_with fail
 go_ret2
 exact⟨rfl,HZ3.out.eb.bel⟩
def am7:∀z1 z2 z4 z8 z16 z32 z64:Bool,(z1=false)\/(z1=true/\z2=false)\/(z1=true/\z2=true/\z4=false)\/(z1=true/\z2=true/\z4=true/\z8=false)\/(z1=true/\z2=true/\z4=true/\z8=true/\z16=false)\/(z1=true/\z2=true/\z4=true/\z8=true/\z16=true/\z32=false)\/(z1=true/\z2=true/\z4=true/\z8=true/\z16=true/\z32=true/\z64=false)\/(z1=true/\z2=true/\z4=true/\z8=true/\z16=true/\z32=true/\z64=true):=by rintro(_|_) (_|_) (_|_) (_|_) (_|_) (_|_) (_|_)<;>simp
def no25(f:Nat)(b1 b2 b4 b8 b16 b32 b64 b128:Bool)(hf:f<1024)(h1:((f &&& 1) != 0)=b1)(h2:((f &&& 2) != 0)=b2)(h4:((f &&& 4) != 0)=b4)(h8:((f &&& 8) != 0)=b8)(h16:((f &&& 16) != 0)=b16)(h32:((f &&& 32) != 0)=b32)(h64:((f &&& 64) != 0)=b64)(h128:((f &&& 128) != 0)=b128)(hb:(b1=false/\b2=false/\b4=true/\b8=false/\b16=false/\b32=false/\b64=false/\b128=false)\/(b1=true/\b2=true/\b4=false/\b8=true/\b16=true/\b32=false/\b64=false/\b128=true)\/(b1=true/\b2=true/\b4=true/\b8=false/\b16=false/\b32=true/\b64=false/\b128=false)\/(b1=true/\b2=false/\b4=true/\b8=false/\b16=false/\b32=false/\b64=false/\b128=false)\/(b1=true/\b2=true/\b4=false/\b8=false/\b16=false/\b32=false/\b64=false/\b128=false)\/(b1=true/\b2=false/\b4=false/\b8=false/\b16=false/\b32=false/\b64=false/\b128=false)\/(b1=true/\b2=false/\b4=true/\b8=false/\b16=false/\b32=false/\b64=false/\b128=true)\/(b1=true/\b2=true/\b4=true/\b8=false/\b16=false/\b32=true/\b64=true/\b128=false))(e:En)(ao:Option Addr)(cp:Nat)(w:World)(hws:WsAt w.heap.size (.slice ao e.ws.length cp) e.ws w):
  cpr 104 #[.agg #[iw e.k,ui e.c,ui e.n,uw e.sp,ui e.sl,uw e.ap,ui e.al,uw e.mp,ui e.ml,sd e.prim,ub e.pt,.bool e.dn,.slice ao e.ws.length cp],.int .u16 (f:Int)] w λr w'=>r=.returned (.bool ((b1||(e.c==0&&e.n==0))&&(b2||(e.sp==0&&e.sl==0))&&(b4||(e.ap==0&&e.al==0))&&(b8||(e.mp==0&&e.ml==0))&&(b16||e.prim.isEmpty)&&(b32||e.pt==0)&&(b64|| !e.dn)&&(b128||e.ws.isEmpty)))/\Bw w w':=by
 have H0:Hid _:=Qh (e:=e) hws;obtain⟨W1,hW1⟩:=xj (w.alloc (.cells #[iw e.k,ui e.c,ui e.n,uw e.sp,ui e.sl,uw e.ap,ui e.al,uw e.mp,ui e.ml,sd e.prim,ub e.pt,.bool e.dn,.slice ao e.ws.length cp] 92));obtain⟨b,hb'⟩:=xj w.heap.size;have H1:Hid (Eb w b e ao cp W1):=by rw[<-hb',<-hW1];exact H0.out
 have h1':Hid (∀W:World,1=1->cpr 98 #[.int .u16 (f:Int),.int .u16 1] W λr w'=>r=.returned (.bool b1)/\W=w'):=λW _=>h1▸He f 1 W hf (by decide);have h2':Hid (∀W:World,1=1->cpr 98 #[.int .u16 (f:Int),.int .u16 2] W λr w'=>r=.returned (.bool b2)/\W=w'):=λW _=>h2▸He f 2 W hf (by decide);have h4':Hid (∀W:World,1=1->cpr 98 #[.int .u16 (f:Int),.int .u16 4] W λr w'=>r=.returned (.bool b4)/\W=w'):=λW _=>h4▸He f 4 W hf (by decide);have h8':Hid (∀W:World,1=1->cpr 98 #[.int .u16 (f:Int),.int .u16 8] W λr w'=>r=.returned (.bool b8)/\W=w'):=λW _=>h8▸He f 8 W hf (by decide);have h16':Hid (∀W:World,1=1->cpr 98 #[.int .u16 (f:Int),.int .u16 16] W λr w'=>r=.returned (.bool b16)/\W=w'):=λW _=>h16▸He f 16 W hf (by decide);have h32':Hid (∀W:World,1=1->cpr 98 #[.int .u16 (f:Int),.int .u16 32] W λr w'=>r=.returned (.bool b32)/\W=w'):=λW _=>h32▸He f 32 W hf (by decide);have h64':Hid (∀W:World,1=1->cpr 98 #[.int .u16 (f:Int),.int .u16 64] W λr w'=>r=.returned (.bool b64)/\W=w'):=λW _=>h64▸He f 64 W hf (by decide);have h128':Hid (∀W:World,1=1->cpr 98 #[.int .u16 (f:Int),.int .u16 128] W λr w'=>r=.returned (.bool b128)/\W=w'):=λW _=>h128▸He f 128 W hf (by decide);clear H0 hws h1 h2 h4 h8 h16 h32 h64 h128 hf;obtain⟨z1,g1⟩:=xj (b1||(e.c==0&&e.n==0));obtain⟨z2,g2⟩:=xj (b2||(e.sp==0&&e.sl==0));obtain⟨z4,g4⟩:=xj (b4||(e.ap==0&&e.al==0));obtain⟨z8,g8⟩:=xj (b8||(e.mp==0&&e.ml==0));obtain⟨z16,g16⟩:=xj (b16||e.prim.isEmpty);obtain⟨z32,g32⟩:=xj (b32||e.pt==0);obtain⟨z64,g64⟩:=xj (b64|| !e.dn);obtain⟨z128,g128⟩:=xj (b128||e.ws.isEmpty);have E1:b1=false->∀W:World,(binOp .eql 36 (.agg #[ui e.c,ui e.n]) (.agg #[ui 0,ui 0])).run Tryz.prog W=.ok (.bool z1) W:=λhh W=>by rw[<-g1,hh,qy];exact ak8 e.c e.n 0 0 W
 have E2:b2=false->∀W:World,(binOp .eql 38 (.agg #[uw e.sp,ui e.sl]) (.agg #[uw 0,ui 0])).run Tryz.prog W=.ok (.bool z2) W:=λhh W=>by rw[<-g2,hh,qy];exact Sl e.sp e.sl 0 0 W
 have E4:b4=false->∀W:World,(binOp .eql 38 (.agg #[uw e.ap,ui e.al]) (.agg #[uw 0,ui 0])).run Tryz.prog W=.ok (.bool z4) W:=λhh W=>by rw[<-g4,hh,qy];exact Sl e.ap e.al 0 0 W
 have E8:b8=false->∀W:World,(binOp .eql 38 (.agg #[uw e.mp,ui e.ml]) (.agg #[uw 0,ui 0])).run Tryz.prog W=.ok (.bool z8) W:=λhh W=>by rw[<-g8,hh,qy];exact Sl e.mp e.ml 0 0 W
 have E16:b16=false->(((bs e.prim).toList=[])=(z16=true)):=λhh=>by rw[<-g16,hh,qy,I9];simp
 have E16':b16=false->(bs e.prim).toList.isEmpty=z16:=λhh=>by rw[<-g16,hh,qy,I9]
 have E32'':b32=false->((e.pt:Int)==0)=z32:=λhh=>by rw[<-g32,hh,qy];exact P5 e.pt 0
 have E32:b32=false->(((e.pt:Int)=0)=(z32=true)):=λhh=>by rw[<-g32,hh,qy];simp
 have E32':b32=false->((e.pt=0)=(z32=true)):=λhh=>by rw[<-g32,hh,qy];simp
 have E64:b64=false->(!e.dn)=z64:=λhh=>by rw[<-g64,hh,qy]
 have E64':b64=false->((e.dn=false)=(z64=true)):=λhh=>by rw[<-g64,hh,qy];simp
 have E64'':b64=false->((e.dn=true)=(z64=false)):=λhh=>by rw[<-g64,hh,qy];simp
 have E128:b128=false->((e.ws.length:Int)==0)=z128:=λhh=>by rw[<-g128,hh,qy];exact aum e.ws
 have G128:Hid (b128=true->z128=true):=λhh=>by rw[<-g128,hh];rfl
 rw[g1,g2,g4,g8,g16,g32,g64,g128];obtain⟨p0,p1,p2,p3,p4,p5,p6,p7,p8,p9,p10,p11,p12⟩:=H1.out.cs;clear p0;rcases hb with⟨rfl,rfl,rfl,rfl,rfl,rfl,rfl,rfl⟩|⟨rfl,rfl,rfl,rfl,rfl,rfl,rfl,rfl⟩|⟨rfl,rfl,rfl,rfl,rfl,rfl,rfl,rfl⟩|⟨rfl,rfl,rfl,rfl,rfl,rfl,rfl,rfl⟩|⟨rfl,rfl,rfl,rfl,rfl,rfl,rfl,rfl⟩|⟨rfl,rfl,rfl,rfl,rfl,rfl,rfl,rfl⟩|⟨rfl,rfl,rfl,rfl,rfl,rfl,rfl,rfl⟩|⟨rfl,rfl,rfl,rfl,rfl,rfl,rfl,rfl⟩<;>rcases am7 z1 z2 z4 z8 z16 z32 z64 with rfl|⟨rfl,rfl⟩|⟨rfl,rfl,rfl⟩|⟨rfl,rfl,rfl,rfl⟩|⟨rfl,rfl,rfl,rfl,rfl⟩|⟨rfl,rfl,rfl,rfl,rfl,rfl⟩|⟨rfl,rfl,rfl,rfl,rfl,rfl,rfl⟩|⟨rfl,rfl,rfl,rfl,rfl,rfl,rfl⟩<;>first
  |(exfalso;first|exact Bool.noConfusion g1|exact Bool.noConfusion g2|exact Bool.noConfusion g4|exact Bool.noConfusion g8|exact Bool.noConfusion g16|exact Bool.noConfusion g32|exact Bool.noConfusion g64)
  |(
     clear g1 g2 g4 g8 g16 g32 g64 g128;go_enter Tryz.func104,Tryz.ntmps104;simp only[List.append_eq,lu,mf];go_wp2_with (go_at_call 98;(first|with_reducible refine(h1'.out _ (by trivial)).mono ?_|with_reducible refine(h2'.out _ (by trivial)).mono ?_|with_reducible refine(h4'.out _ (by trivial)).mono ?_|with_reducible refine(h8'.out _ (by trivial)).mono ?_|with_reducible refine(h16'.out _ (by trivial)).mono ?_|with_reducible refine(h32'.out _ (by trivial)).mono ?_|with_reducible refine(h64'.out _ (by trivial)).mono ?_|with_reducible refine(h128'.out _ (by trivial)).mono ?_);rintro r wx ⟨rfl,rfl⟩);go_ret;exact⟨iq (λb=>Ending.returned (.bool b)) (show _=_ from by first|rfl|exact(G128.out (by trivial)).symm),H1.out.bel⟩)
