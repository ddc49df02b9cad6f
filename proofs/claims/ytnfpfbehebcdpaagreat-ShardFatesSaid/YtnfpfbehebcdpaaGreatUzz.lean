import Derived.Test.YtnfpfbehebcdpaaGreatUzy
import Derived.Deep.Strs
import Derived.KernelRfl
import Derived.Laws.AppendOwnNone
import Derived.Laws.Cover3
import Derived.Laws.IdiomCopy
import Derived.Laws.ResultCell
import Derived.Laws.Rows
import Derived.Laws.Tables
import Derived.Lib.IndexBytes
import Derived.Lib.SmallJoins
import Derived.LoopIn
import Derived.LoopNIn
import Derived.Maps.Range
import Derived.OpenShut
import Derived.OwnWalkIn
import Derived.ProofKit
import Derived.RangeFuncBound
import Derived.RangeFuncBox
import Derived.RangeFuncCalls
import Derived.RangeFuncLeaves
import Derived.RangeFuncNested
import Derived.Shelf.AbstractIn
import Derived.Shelf.RegionOpen
import Derived.Shelf.SlSortCmp.NoneTotal
import Derived.Shelf.SlSortCmp.WholeK
import Derived.Shelf.Sort.Plain
import Derived.Shelf.Strconv.Itoa0
import Derived.Shelf.Strings.Builder1
import Derived.ShutString
import Derived.SizedLaws
import Derived.Sort.Grow
import Derived.Sort.Walk0
import Derived.TacticsInMore
set_option linter.all false
namespace Go.Proofs.YtnfpfbehebcdpaaGreat
open Go.RowKit
def oh:=@List.drop_succ_cons
def o8:=@Option.map_eq_some_iff
def qx:=@List.drop_zero
def qy:=@Bool.false_or
def uf:=@Go.DataW.trod_int
def um:=@List.take_length
def xe:=@List.Perm.append_left
def xh:=@List.mem_of_getElem?
def yh:=@Bool.eq_iff_iff
def yj:=@Nat.min_eq_left
def yw:=@Go.wpList_append_own
variable {P:Prop}
def zl(h:P:=by
 have hL9:L.length<9223372036854775808:=by omega
 have HCap:Hid (L.length<=cap):=hlc;generalize Bf L=y at*;clear h hB hcm hlc;by_cases h1:(L.length:Int)<1
 .have hy:y=false:=HSz.out (by omega);subst hy;go_enter Tryz.func108,Tryz.ntmps108;go_wp2_with fail;go_ret;exact⟨rfl,aj _ _⟩
 by_cases h2:(16:Int)<L.length
 .have hy:y=false:=HSz.out (by omega);subst hy;go_enter Tryz.func108,Tryz.ntmps108;go_wp2_with fail;go_ret;exact⟨rfl,aj _ _⟩
 go_enter Tryz.func108,Tryz.ntmps108;go_wp2_with fail;go_loopw [15] (λi wr=>Bw w wr/\∃m:Nat,m<=L.length/\i=iw m/\RtN L m) (λi _=>L.length-(intOf i).toNat)
 case atStart=>exact⟨aj _ _,0,eu _,rfl,λ_ h=>by omega,λ_ _ _ h=>by omega⟩
 case round=>
  obtain⟨hbr,m,hm,rfl,hrt⟩:=hrel;have HBr:Hid (Bw w wr):=hbr;have HRt:Hid (RtN L m):=hrt;by_cases hml:m<L.length
  .obtain⟨b,off,rfl,e0,e1,e2⟩:=HE.out wr hbr m hml;have hml':(m:Int)<L.length:=by omega
   have hm0:¬(m:Int)<0:=by omega
   have hmc:(m:Int)<=cap:=by have:=HCap.out;omega
   have HQ:Hid (m+1<=L.length):=hml;have hAny:=aa2 (k:=(L.getD m dw).key) (og hml);have HNo:Hid (wOk (L.getD m dw)=false->y=false):=HBad.out m hml;have HTt:Hid (((L.take m).any λa=>a.key==(L.getD m dw).key)=true->y=false):=λht=>by obtain⟨i,hi,he⟩:=hAny.1 ht;exact HTw.out i m hi hml he
   have HNx:Hid (wOk (L.getD m dw)=true->((L.take m).any λa=>a.key==(L.getD m dw).key)=false->RtN L (m+1)):=λh3 h4=>HRt.out.next h3 (λi hi he=>by rw[hAny.2 ⟨i,hi,he⟩]at h4;cases h4)
   clear hAny hrt;generalize L.getD m dw=x at*;obtain⟨Wa,hWa⟩:=xj (wr.alloc (.cells #[sd x.key,sd x.val,.bool x.dead] 106));have hxa:Wa.heap[wr.heap.size]?=some (.cells #[sd x.key,sd x.val,.bool x.dead] 106 (0,0)):=by rw[<-hWa];exact ae wr _
   have hba:Bw w Wa:=by rw[<-hWa];exact hbr.alloc hbr.size _
   have a0:Wa.cell? ⟨wr.heap.size,0,none⟩=some (sd x.key):=Aa hxa rfl;have a1:Wa.cell? ⟨wr.heap.size,1,none⟩=some (sd x.val):=Aa hxa rfl;have a2:Wa.cell? ⟨wr.heap.size,2,none⟩=some (.bool x.dead):=Aa hxa rfl;obtain⟨bp,hbp⟩:=xj wr.heap.size;rw[hbp]at a0 a1 a2 hxa;have CR:Hid (1=1->cpr 173 #[.agg #[sd x.key,sd x.val,.bool x.dead]] Wa λe w'=>e=.returned (.bool (wOk x))/\Hid (Bw w w'/\w'.heap[bp]?=some (.cells #[sd x.key,sd x.val,.bool x.dead] 106 (0,0)))):=λ_=>by refine(ada x Wa).mono ?_;rintro e w' ⟨rfl,hb'⟩;exact⟨rfl,hba.trans (hb'.mono hba.size),by rw[hb'.block _ (gsz hxa)];exact hxa⟩
   have CC:Hid (∀W,Hid (Bw w W/\W.heap[bp]?=some (.cells #[sd x.key,sd x.val,.bool x.dead] 106 (0,0)))->cpr 112 #[.slice (some ⟨b,off,none⟩) m cap,.func (.func 174) #[] #[pz bp]] W λe w'=>e=.returned (.bool ((L.take m).any λa=>a.key==x.key))/\Hid (Bw w w')):=λW hW=>by
    have hws:=(HW.out W hW.out.1).tk hm;refine(aee 174 #[pz bp] (λa=>a.key==x.key) (L.take m) _ W (RwAt.le hws hW.out.1.size) aq1 (λa W2 hb2=>?_)).mono ?_
    .exact ag0 a bp x.key W2 (Aa (by rw[hb2.block _ (gsz hW.out.2)];exact hW.out.2) rfl)
    .rintro e w' ⟨rfl,hb'⟩;exact⟨rfl,hW.out.1.trans (hb'.mono hW.out.1.size)⟩
   clear hxa hba hbr HE HW HEnd HSz HBad HTw HRt;cases hwo:wOk x with
   |false=>
    have hy:y=false:=HNo.out hwo;subst hy;rw[hwo]at CR;clear hwo HNo HNx HTt CC;go_wp2_with fail;refine(CR.out (by trivial)).mono ?_;rintro e w1 ⟨rfl,HB1⟩;clear CR a0 a1 a2 hWa hbp e0 e1 e2;go_wp2_with fail;go_ret;exact⟨rfl,HB1.out.1⟩
   |true=>
    rw[hwo]at CR;cases han:(L.take m).any λa=>a.key==x.key with
    |true=>
     have hy:y=false:=HTt.out han;subst hy;rw[han]at CC;clear hwo han HNo HNx HTt;go_wp2_with fail;refine(CR.out (by trivial)).mono ?_;rintro e w1 ⟨rfl,HB1⟩;clear CR a0 a1 a2 hWa hbp e0 e1 e2;go_wp2_with fail;refine(CC.out _ HB1).mono ?_;rintro e w2 ⟨rfl,HB2⟩;clear CC HB1;go_wp2_with fail;go_ret;exact⟨rfl,HB2.out⟩
    |false=>
     rw[han]at CC;have HNN:Hid (RtN L (m+1)):=HNx.out hwo han;clear hwo han HNo HNx HTt;go_wp2_with fail;refine(CR.out (by trivial)).mono ?_;rintro e w1 ⟨rfl,HB1⟩;clear CR a0 a1 a2 hWa hbp e0 e1 e2;go_wp2_with fail;refine(CC.out _ HB1).mono ?_;rintro e w2 ⟨rfl,HB2⟩;clear CC HB1;go_wp2_with fail;go_roundw
     case rel=>exact⟨HB2.out,m+1,HQ.out,by go_num,HNN.out⟩
     case measure=>simp[intOf];omega
  .have hml':¬(m:Int)<L.length:=by omega
   have hm2:m=L.length:=by omega
   have hy:y=true:=by have:=HEnd.out (hm2▸hrt);rw[this];simp;omega
   subst hy;clear hbr hrt hm2;go_wp2_with fail;go_ret;exact⟨rfl,HBr.out⟩):P:=h
def aa9(h:P:=by
 have H6:Hid _:=NI.out _ _ _ (inC ok ox) H5.out;obtain⟨W6,hW6⟩:=xj (w5.alloc (.cells (inC ok ox) 155));rw[hW6]at H6;obtain⟨bi,hbi⟩:=xj w5.heap.size;rw[hbi]at H6;cases oz
 case false=>
  have hkn:ownF q.c q.n X=none:=by
   cases hkn:ownF q.c q.n X with
   |none=>rfl
   |some r=>have:=HOz.out.1;rw[hkn]at this;cases this
  have HE:Hid (Y=(G9 9,X,D)):=by show _=_;rw[HL2.out,hkn]
  have H6b:Hid _:=LS.out _ _ _ _ H6.out;clear CH CN CP CL hkn;have K:=H6b;exact re5
 case true=>
  have hkn:ownF q.c q.n X=some (ok,ox):=by
   cases hkn:ownF q.c q.n X with
   |none=>have:=HOz.out.1;rw[hkn]at this;cases this
   |some r=>rw[HOz.out.2 r hkn]
  rw[hkn]at HL2;clear hkn HOz;dsimp only at HL2;generalize (Az (I4 q.c q.n q.ap q.al) (Ah ph q.ap q.al X a D).2.1 a (Ah ph q.ap q.al X a D).2.2)=N at*;generalize (Ah ph q.ap q.al X a D)=H at*;generalize Clk.Ar q.ap q.al ox.mp ox.ml=lb at*;generalize Jd ox X=pr at*;obtain⟨n0,Xn,Dn⟩:=N;obtain⟨h0,Xh,Dh⟩:=H;dsimp only at CH CN HL2;obtain⟨i0,i1,i2,i3,i4,i5,i6,i7,i8,i9,-⟩:=Ic (SI.out _ _ _ _ H6.out);go_wp2_with fail;clear hW6 hbi;refine(CP.out _ _ H6.out).mono ?_;rintro e w7 ⟨rfl,hq⟩;have H7:Hid _:=hq;clear hq CP i0 i1 i2 i3 i4 i5 i6 i7 i8 i9 H6 H5;cases pr
  case true=>
   have HE:Hid (Y=(Cb 1,X,D)):=HL2.out;have H7b:Hid _:=LS.out _ _ _ _ H7.out;go_wp2_with fail;refine(CR.out _ _).mono ?_;rintro e w8 ⟨rfl,hb⟩;have H8:Hid _:=ON.out _ _ _ _ H7b.out hb;clear hb;have K:=H8;exact re5
  case false=>
   obtain⟨-,-,c5,c6⟩:=SB.out _ _ _ (LS.out _ _ _ _ H7.out);obtain⟨-,-,-,-,i4,i5,-⟩:=Ic (SI.out _ _ _ _ H7.out);go_wp2_with fail;refine(CL.out _ _ H7.out).mono ?_;rintro e w8 ⟨rfl,hq⟩;have H8:Hid _:=hq;clear hq CL c5 c6 i4 i5 H7;cases lb
   case true=>
    have HE:Hid (Y=(Cb 1,X,D)):=HL2.out;have H8b:Hid _:=LS.out _ _ _ _ H8.out;go_wp2_with fail;refine(CR.out _ _).mono ?_;rintro e w9 ⟨rfl,hb⟩;have H9:Hid _:=ON.out _ _ _ _ H8b.out hb;clear hb;have K:=H9;exact re5
   case false=>
    obtain⟨-,-,c5,c6⟩:=SB.out _ _ _ (LS.out _ _ _ _ H8.out);go_wp2_with fail;refine(CH.out _ _ H8.out).mono ?_;rintro e w9 ⟨rfl,hq⟩;have H9a:Hid _:=hq;have H9:Hid _:=LS.out _ _ _ _ H9a.out;clear hq CH c5 c6 H8 H9a;by_cases hh:h0=0
    case neg=>
     have hh':(h0 != 0)=true:=by simp[hh]
     have HE:Hid (Y=(Cb h0,Xh,Dh)):=by show _=_;rw[HL2.out];simp[hh]
     clear hh;go_wp2_with fail;refine(CR.out _ _).mono ?_;rintro e w10 ⟨rfl,hb⟩;have H10:Hid _:=ON.out _ _ _ _ H9.out hb;clear hb;have K:=H10;exact re5
    case pos=>
     subst hh;obtain⟨c1,c2,c5,c6⟩:=SB.out _ _ _ H9.out;go_wp2_with fail;refine(CN.out _ _ H9.out).mono ?_;rintro e w12 ⟨rfl,hq⟩;have H12:Hid _:=hq;clear hq CN c1 c2 c5 c6 H9;by_cases hh:n0=0
     case neg=>
      have hh':(n0 != 0)=true:=by simp[hh]
      have HE:Hid (Y=(Cb n0,Xn,Dn)):=by show _=_;rw[HL2.out];simp[hh]
      clear hh;go_wp2_with fail;refine(CR.out _ _).mono ?_;rintro e w13 ⟨rfl,hb⟩;have H13:Hid _:=ON.out _ _ _ _ H12.out hb;clear hb;have K:=H13;exact re5
     case pos=>
      subst hh;have HE:Hid (Y=(G9 9,Xn,Dn)):=by show _=_;rw[HL2.out];simp
      have K:=H12;exact re5):P:=h
def aob(h:P:=by
 obtain⟨xk,xv,xd⟩:=x;dsimp only;have hs:=Bq xv;have q0:((bs xv).toList==[])=xv.isEmpty:=by rw[I9];cases xv<;>rfl
 have CK:Hid (∀W,cpr 110 #[sd xk] W λe w'=>e=.returned (.bool (kOk xk))/\w'=W):=λW=>aj2 xk W;have HOk:Hid (∀kb,kOk xk=kb->∀eb,xv.isEmpty=eb->wOk ⟨xk,xv,xd⟩=(kb&&decide (xv.length<=256)&& !(xd&& !eb))):=λkb h1 eb h2=>by subst h1 h2;rfl
 obtain⟨kb,hkb⟩:=xj (kOk xk);obtain⟨eb,heb⟩:=xj xv.isEmpty;rw[HOk.out kb hkb eb heb];rw[hkb]at CK;rw[heb]at q0;have HB:Hid (∀o,Bw w (w.alloc o)):=λo=>al o;clear hkb heb HOk;cases kb
 .go_enter Tryz.func173,Tryz.ntmps173;go_wp2_with fail;refine(CK.out _).mono ?_;rintro e w1 ⟨rfl,rfl⟩;go_wp2_with fail;go_ret;exact⟨rfl,HB.out _⟩
 .by_cases hv:(xv.length:Int)<=256
  .have hv2:decide (xv.length<=256)=true:=by simp;omega
   rw[hv2];clear hv2;cases xd
   .go_enter Tryz.func173,Tryz.ntmps173;go_wp2_with fail;refine(CK.out _).mono ?_;rintro e w1 ⟨rfl,rfl⟩;go_wp2_with fail;go_ret;exact⟨rfl,HB.out _⟩
   .cases eb
    .go_enter Tryz.func173,Tryz.ntmps173;go_wp2_with fail;refine(CK.out _).mono ?_;rintro e w1 ⟨rfl,rfl⟩;go_wp2_with fail;go_ret;exact⟨rfl,HB.out _⟩
    .go_enter Tryz.func173,Tryz.ntmps173;go_wp2_with fail;refine(CK.out _).mono ?_;rintro e w1 ⟨rfl,rfl⟩;go_wp2_with fail;go_ret;exact⟨rfl,HB.out _⟩
  .have hv2:decide (xv.length<=256)=false:=by simp;omega
   rw[hv2];clear hv2;go_enter Tryz.func173,Tryz.ntmps173;go_wp2_with fail;refine(CK.out _).mono ?_;rintro e w1 ⟨rfl,rfl⟩;go_wp2_with fail;go_ret;exact⟨rfl,HB.out _⟩):P:=h
def aor(h:P:=by
 obtain⟨hbr,m,hm,rfl,hy⟩:=hrel;have HBr:Hid (Bw w wr):=hbr;by_cases hml:m<L.length
 .obtain⟨b,off,rfl,e0,e1,e2⟩:=HE.out wr hbr m hml;have hml':(m:Int)<L.length:=by omega
  have hm9:¬(m:Int)<0:=by omega
  have hst:=aa1 (P:=P) hml;rw[hy]at hst;have HQ:Hid (m+1<=L.length):=hml;generalize L.getD m dw=x at*;have CF:Hid (1=1->_):=λ_=>HF.out x wr hbr;obtain⟨z,hz⟩:=xj (P x);rw[hz]at CF hst;clear hz hbr hy HE;cases z
  .have HY:Hid ((L.drop (m+1)).any P=y):=by show _=_;rw[hst];rfl
   clear hst;go_wp2_with fail;refine(CF.out (by trivial)).mono ?_;rintro e w1 ⟨rfl,hb1⟩;have HB1:Hid (Bw w w1):=HBr.out.trans (hb1.mono HBr.out.size);clear hb1 CF e0 e1 e2;go_wp2_with fail;go_roundw
   case rel=>exact⟨HB1.out,m+1,HQ.out,by go_num,HY.out⟩
   case measure=>simp[intOf];omega
  .have hy1:y=true:=hst;subst hy1;clear hst;go_wp2_with fail;refine(CF.out (by trivial)).mono ?_;rintro e w1 ⟨rfl,hb1⟩;have HB1:Hid (Bw w w1):=HBr.out.trans (hb1.mono HBr.out.size);clear hb1 CF e0 e1 e2;go_wp2_with fail;go_ret;exact⟨_,rfl,by simp,HB1.out⟩
 .have hml':¬(m:Int)<L.length:=by omega
  have hy1:y=false:=by rw[<-hy,xy (by omega)];rfl
  subst hy1;clear hy hbr;go_wp2_with fail;go_ret;exact⟨_,rfl,by decide,HBr.out⟩):P:=h
def aot(h:P:=by
 go_enter Tryz.func105,Tryz.ntmps105;go_wp2_with fail;refine(h512.out _ (by trivial)).mono ?_;rintro r wx ⟨rfl,rfl⟩;go_wp2_with fail;refine(K1.out W1 (by trivial)).mono ?_;rintro r w3 ⟨rfl,hb3⟩;have H3:Hid (Eb w b e ao cp w3):=H1.out.on hb3;clear hb3 p3 p4 p5 p6 p7 p8 K1 H1 hb hW1;cases r1
 .go_wp2_with fail;go_ret;exact⟨by rw[HQ.out,HR1.out];rfl,H3.out.bel⟩
 .have p5:w3.cell? ⟨b,5,none⟩=some (uw e.ap):=Aa H3.out.x rfl;have p6:w3.cell? ⟨b,6,none⟩=some (ui e.al):=Aa H3.out.x rfl;go_wp2_with fail;refine(K2.out w3 (by trivial)).mono ?_;rintro r w4 ⟨rfl,hb4⟩;have H4:Hid (Eb w b e ao cp w4):=H3.out.on hb4;clear hb4 p5 p6 K2 H3;cases r2
  .go_wp2_with fail;go_ret;exact⟨by rw[HQ.out,HR1.out,HR2.out];rfl,H4.out.bel⟩
  .have p7:w4.cell? ⟨b,7,none⟩=some (uw e.mp):=Aa H4.out.x rfl;have p8:w4.cell? ⟨b,8,none⟩=some (ui e.ml):=Aa H4.out.x rfl;go_wp2_with fail;refine(K3.out w4 (by trivial)).mono ?_;rintro r w5 ⟨rfl,hb5⟩;have H5:Hid (Eb w b e ao cp w5):=H4.out.on hb5;clear hb5 p7 p8 K3 H4;go_wp2_with fail;go_ret;exact⟨by rw[HQ.out,HR1.out,HR2.out,HR3.out];rfl,H5.out.bel⟩):P:=h
def aqk(h:P:=by
 go_region_held3 (λW=>ce W f.sb 4 (pz f.ve)/\ce W w.heap.size 1 (ui q.c)/\ce W w.heap.size 2 (ui q.n)/\Bz W2 W) ((with_reducible refine SV.out _ ?_;with_reducible repeat (first|exact HZ.out|exact H2.out.1|refine Bz.dr ?_|refine Bz.al ?_ _|refine Bz.st ?_ HM.out _ _|refine Bz.st ?_ H2.out.2 _ _))) (first
  |(go_at_call 118;refine(CO.out _ (by with_reducible repeat (first|exact HZ.out|refine Bz.dr ?_|refine Bz.al ?_ _))).mono ?_;rintro e w2 ⟨rfl,hb2⟩;have H2:Hid (Bz W2 w2/\W2.heap.size<=w2.heap.size):=⟨(by refine Bz.on ?_ hb2;with_reducible repeat (first|exact HZ.out|refine Bz.dr ?_|refine Bz.al ?_ _)),ak (by simp) hb2.size⟩;first|((with_reducible have Y3:=Sto.Nc hb2);obtain⟨y0,y1,y2,y3,y4,y5,y6,y7,g0,g1,g2,g3,g4,g5,g6,g7⟩:=aar Y3;have Y4:Hid _:=Y3;clear Y3 hb2)|clear hb2))
 all_goals
  go_wp2_with fail;go_meet;first
  |with_reducible exact⟨_,rfl,rfl,Yi,Bz.al H2.out.1 _⟩
  |with_reducible exact⟨_,rfl,rfl,set8 Y4.out,bz8 H2.out.1 HM.out⟩):P:=h
def avp(h:P:=by
 obtain⟨l,e⟩:=st;obtain⟨c0,c1,f0,f1⟩:=Fg h;have H:Hid (RdAt 191 rb ⟨l,e⟩ w):=h;clear h;dsimp only at c0 c1;by_cases he:e=0
 .subst he;cases l with
  |nil=>
   have hb:=Iq;go_enter Tryz.func46,Tryz.ntmps46;go_wp2_with (go_at_call 95;refine(Kz rb _ _ H.out).mono ?_;rintro e w1 ⟨rfl,rfl⟩);go_ret;exact⟨rfl,rfl⟩
  |cons b r=>
   have hb:(bs (b::r)).toList.isEmpty=false:=by rw[Jo];rfl
   go_enter Tryz.func46,Tryz.ntmps46;go_wp2_with (go_at_call 95;refine(Kz rb _ _ H.out).mono ?_;rintro e w1 ⟨rfl,rfl⟩);go_ret;exact⟨rfl,rfl⟩
 .have he':((e:Int) != 0)=true:=by simp;omega
  go_enter Tryz.func46,Tryz.ntmps46;go_wp2_with (go_at_call 95;refine(Kz rb _ _ H.out).mono ?_;rintro e w1 ⟨rfl,rfl⟩);go_ret;exact⟨by simp[Tu,he],rfl⟩):P:=h
def avq(h:P:=by
 by_cases hG:l1.length<n
 .have hG':(l1.length:Int)<n:=by omega
  go_wp2_with (go_at_call 97;refine(Qg rb _ 4 _ HR.out.1).mono ?_;rintro e w3 ⟨rfl,hr,hs⟩;have HR3:Hid (RdAt 191 rb ⟨[],4⟩ w3/\Ff rb w w3):=⟨hr,HR.out.2.trans hs⟩;clear hr hs);go_ret;rw[HD.out,ag (by simp),ag (by omega),ah hG];exact⟨rfl,HR3.out⟩
 .have hG':¬(l1.length:Int)<n:=by omega
  have hnl:n<=(bs l1).size:=by omega
  go_wp2;go_ret;rw[HD.out,ag (by simp),ag (by omega),ag hG];have h2:=Ko (u:=.string ((bs l1).extract n (bs l1).size)) HR.out.1;rw[J8]at h2;have h3:=HR.out.2.setCell 0 (.string (bs (l1.drop n)));refine⟨?_,?_,?_⟩
  .rw[<-akl];rfl
  .rw[Vw];exact h2
  .rw[Vw];exact h3):P:=h
def ax1(h:P:=by
 go_wp2_with fail;go_region;go_wp2_with fail;go_roundw
 case rel=>exact⟨k+1,by omega,by go_num,by rw[HS.out],_,by rw[HS.out];exact ac7 H2.out.1 (uw c'.gen) (.slice ao' c'.recs.length cp') (iw c'.fin) (iw c'.beh),by rw[HS.out];exact ac6 H2.out.2.2.2.2 (by omega) (uw c'.gen) (.slice ao' c'.recs.length cp') (iw c'.fin) (iw c'.beh),Zj H2.out.2.2.1 (by omega) (uw c'.gen) (.slice ao' c'.recs.length cp') (iw c'.fin) (iw c'.beh),(Uc H2.out.2.2.2.1 (by omega) (uw c'.gen) (.slice ao' c'.recs.length cp') (iw c'.fin) (iw c'.beh)).drew⟩
 case measure=>simp[intOf];omega):P:=h
def ax3(h:P:=by
 have hq:=Ol x.key k;obtain⟨W0,hW0⟩:=xj (w.alloc (.cells #[sd x.key,sd x.val,.bool x.dead] 106));have hb0:Bw w W0:=by rw[<-hW0];exact al _
 have hx0:W0.heap[w.heap.size]?=some (.cells #[sd x.key,sd x.val,.bool x.dead] 106 (0,0)):=by rw[<-hW0];exact ae w _
 have z0:W0.cell? ⟨w.heap.size,0,none⟩=some (sd x.key):=Aa hx0 rfl;have h0:W0.cell? ⟨bp,0,none⟩=some (sd k):=by rw[hb0.cell (ed _ _ h)];exact h
 have HB:Hid (Bw w W0):=hb0;clear h hb0 hx0;generalize (x.key==k)=z at*;go_enter Tryz.func174,Tryz.ntmps174;go_wp2_with fail;go_ret;exact⟨rfl,HB.out⟩):P:=h
def ax4(h:P:=by
 obtain⟨c1,c2,c3,c4⟩:=SB.out _ _ _ H5.out;go_wp2_with fail;refine(CN.out _ _ H5.out).mono ?_;rintro e w6 ⟨rfl,hq⟩;have H6:Hid _:=hq;clear hq CN c1 c2 c3 c4 H5;by_cases hh:n0=0
 case neg=>
  have hh':(n0 != 0)=true:=by simp[hh]
  have HE:Hid (Y=(Cb n0,Xn,Dn)):=by show _=_;rw[HL2.out];simp[hh]
  clear hh;go_wp2_with fail;refine(CR.out _ _).mono ?_;rintro e w7 ⟨rfl,hb⟩;have H7:Hid _:=ON.out _ _ _ _ H6.out hb;clear hb;have K:=H7;exact re5
 case pos=>
  subst hh;have HE:Hid (Y=(G9 6,Xn,Dn)):=by show _=_;rw[HL2.out];simp
  have K:=H6;exact re5):P:=h
def ax6(h:P:=by
 have H7b:Hid _:=LS.out _ _ _ _ H7.out;go_wp2_with fail;refine(CR.out _ _).mono ?_;rintro e w8 ⟨rfl,hb⟩;have H8:Hid _:=ON.out _ _ _ _ H7b.out hb;clear hb;have K:=H8;exact re5):P:=h
def axg(h:P:=by
 have HL:r=true:=by
  rw[HR0.out];have:q.sk.length<=16:=by omega
  simp[this]
 subst HL;go_wp2_with fail;go_ret;exact⟨rfl,H4.out.bel⟩):P:=h
def ayu(h:P:=by
 have H11:Hid ((∀y∈m',y∈⟨x.q.c,x.q.n,r.ap,r.al⟩::m)/\Qn SA TA BA W1 pb bm (⟨x.q.c,x.q.n,r.ap,r.al⟩::m) m' (3*j+3) sb [(b10,.cells #[uw fv.p,ui fv.l] 38 (0,0)),(b8,.cells (rpD r ao nn cap) 48 (0,0)),(b6,.cells (q13 x sp sl) 42 (0,0)),(b5,.cells (c17 x) 45 (0,0))] w11):=⟨hs,h11⟩;clear hs h11;go_wp2_with fail;go_roundw
 case rel=>exact⟨j+1,sb,m',by omega,by omega,by go_num,rfl,HQ.out (H11.out.2.sub H11.out.1) (by omega)⟩
 case measure=>simp[intOf];omega):P:=h
def az1(h:P:=by
 subst HL;go_wp2_with fail;go_ret;exact⟨rfl,H4.out.bel⟩):P:=h
def az2(h:P:=by
 rcases Ja (G:=λ_=>False) (Kept.of_below hb) hi with e|e|e
 .exact h2 i e
 .exact .inr (ak h4.size e)
 .exact e.elim):P:=h
def az3(h:P:=by
 rcases Ja (G:=λ_=>False) (Kept.of_below hb) hi with e|e|e
 .exact h3 p hp e
 .have:=h5.lt p hp;omega
 .exact e.elim):P:=h
def az7(h:P:=by
 have CI:Hid (1=1->_):=λ_=>ad1 f cf P L v w hL ef HF;obtain⟨ao,cap,rfl,hlc,hcm⟩:=hL.shape;clear hL HF ef hlc hcm;generalize L.any P=y at*;go_enter Tryz.func112,Tryz.ntmps112;go_wp2_with fail;refine(CI.out (by trivial)).mono ?_;rintro e w1 ⟨i,rfl,hi,hb1⟩;have HB:Hid _:=hb1;have HI:Hid (decide (0<=i)=y):=hi;clear CI hb1 hi;go_wp2_with fail;go_ret;exact⟨by rw[<-HI.out];rfl,HB.out⟩):P:=h
def az8(h:P:=by
 go_wp2_with fail;go_meet;exact⟨_,⟨h.1,by have:=h.2;have:=HZ.out.2;omega⟩,rfl⟩):P:=h
def az9(h:P:=by
 rw[HR0.out];have:q.sk.length<=16:=by omega
 simp[this]):P:=h
def azq(h:P:=by
 cases hkn:ownF q.c q.n X with
 |none=>rfl
 |some r=>have:=HOz.out.1;rw[hkn]at this;cases this):P:=h
def azr(h:P:=by
 rw[List.any_eq_true];constructor
 .rintro⟨a,ha,he⟩;obtain⟨i,hi,rfl⟩:=List.mem_take_iff_getElem.1 ha;exact⟨i,by omega,by rw[List.getD,bf (by omega)];simpa using he⟩
 .rintro⟨i,hi,he⟩;refine⟨L.getD i dw,?_,by simpa using he⟩;rw[List.getD,bf (by omega)];exact List.mem_take_iff_getElem.2 ⟨i,by omega,rfl⟩):P:=h
def azv(h:P:=by
 go_wp2_with fail;go_meet;exact H.out):P:=h
def azz(h:P:=by
 go_enter Tryz.func133,Tryz.ntmps133;go_wp2;go_ret;exact⟨rfl,rfl⟩):P:=h
def ba3(h:P:=by
 have HE:Hid (Y=(kr,X,D)):=by
  show _=_;rw[HL.out];cases hkn:Cj q.c q.n X with
  |none=>have:=HKz.out.1;rw[hkn]at this;cases this
  |some r=>rw[HKz.out.2 r hkn]
 obtain⟨i0,i1,i2,i3,i4,i5,i6,i7,i8,i9,i10,i11,i12,i13,-⟩:=Ep hob;clear hob;have K:=H4;exact re5):P:=h
def ba4(h:P:=by
 cases hkn:Cj q.c q.n X with
 |none=>rfl
 |some r=>have:=HKz.out.1;rw[hkn]at this;cases this):P:=h
def ba7(h:P:=by
 rcases au.1 hp with rfl|hp
 .exact .tail _ tq0
 .rcases au.1 hp with rfl|hp
  .exact .head _
  .exact .tail _ (.tail _ hp)):P:=h
def bae(h:P:=by
 cases o with
 |none=>exact⟨_,_,rfl,rfl,λx e=>by cases e⟩
 |some x=>exact⟨_,_,rfl,rfl,λx e=>by injection e⟩):P:=h
def bag(h:P:=by
 obtain⟨y,hy,rfl⟩:=je.1 hz';obtain⟨x,hx,rfl|rfl⟩:=hz y hy
 .exact o.t _ (je.2 ⟨_,hx,rfl⟩)
 .have:=o.t _ (je.2 ⟨x,hx,rfl⟩);dsimp only;rw[(Fh _ _ _ _ x.2).1,(Fh _ _ _ _ x.2).2.1];exact this):P:=h
def bai(h:P:=by
 have h2:=gp h.blk;have h3:=Lgs.Md.lt h.lg.blk;have h4:=h.lg.drum.lt;exact⟨by omega,by omega,by omega⟩):P:=h
def bam(h:P:=by
 clear n2 n3 n4 z3 z4;go_wp2_with fail;go_roundw
 case rel=>exact⟨j+1,sb,m,by omega,by omega,by go_num,rfl,(H6.out.1.less λp hp=>by cases hp).up (by omega)⟩
 case measure=>simp[intOf];omega):P:=h
def bao(h:P:=by
 have H9b:Hid _:=LS.out _ _ _ _ H9.out;clear hh;go_wp2_with fail;refine(CR.out _ _).mono ?_;rintro e w10 ⟨rfl,hb⟩;have H10:Hid _:=ON.out _ _ _ _ H9b.out hb;clear hb;have K:=H10;exact re5):P:=h
def bas(h:P:=by
 obtain⟨q,rfl,-,r1,-⟩:=Bh (.inr (.inl rfl)) w1;simp only[pg,and_true]at e0 e1;subst e0 e1;have:=r0 rfl;have:=r1 rfl;exact⟨p,q,rfl,⟨by omega,by omega⟩,by omega,by omega⟩):P:=h
def bav(h:P:=by
 go_enter Tryz.func107,Tryz.ntmps107;go_wp2_with fail;refine(C1.out _ (by trivial)).mono ?_;rintro r wx ⟨rfl,rfl⟩;go_wp2_with fail;go_ret;exact⟨by rw[HK.out];rfl,H1.out.bel⟩):P:=h
def bax(h:P:=by
 clear hHeld;go_wp2_with fail;go_end0
 exact⟨rfl,H2.out.to⟩):P:=h
def bay(h:P:=by
 have h0':(er != 0)=true:=by simp[h0]
 have HN2:Hid (Y=(er,X,D)):=by show _=_;rw[HN.out,ah h0]
 clear HN h0;go_wp2_with fail;go_ret;rw[HN2.out];exact⟨rfl,H2.out.to⟩):P:=h
def baz(h:P:=by
 clear hf hnx;go_enter Tryz.func164,Tryz.ntmps164;go_wp2_with (go_at_call 206;refine(HN.out _ (by trivial)).mono ?_;rintro e w2 ⟨rfl,hb2⟩)
 go_ret3
 exact⟨rfl,hb2⟩):P:=h
def bba(h:P:=by
 go_roundw
 case rel=>exact⟨k+1,by omega,by go_num,by rw[HS.out];exact HR.out.2.2,by rw[HS.out];exact HR.out.1,HR.out.2.1⟩
 case measure=>simp[intOf];omega):P:=h
def bbb(h:P:=by
 cases fb
 .go_wp2_with fail;go_meet;exact⟨rfl,rfl⟩
 .obtain⟨v1,v2⟩:=HV.out rfl;rw[v1]at x0;rw[v2]at x1;go_wp2_with fail;go_meet;exact⟨rfl,rfl⟩):P:=h
def bbd(h:P:=by
 clear hh;go_wp2_with fail;refine(CR.out _ _).mono ?_;rintro e w11 ⟨rfl,hb⟩;have H11:Hid _:=ON.out _ _ _ _ H10b.out hb;clear hb;have K:=H11;exact re5):P:=h
def bbe(h:P:=by
 go_wp2_with fail;refine(CS.out _ _ _ _).mono ?_;rintro e w9 ⟨rfl,hb⟩;have H9:Hid _:=ON.out _ _ _ _ H8b.out hb;clear hb i4 i5;have K:=H9;exact re5):P:=h
def bbf(h:P:=by
 go_enter Tryz.func153,Tryz.ntmps153;go_wp2;go_ret;exact⟨by rw[HC.out];rfl,rfl⟩):P:=h
def bbh(h:P:=by
 unfold Cm at h;split at h
 .injection h with h;rw[<-h];rfl
 .split at h
  .injection h with h;rw[<-h];rfl
  .obtain⟨x,-,e⟩:=o8.1 h;rw[<-e];rfl):P:=h
def bbk(h:P:=by
 obtain⟨x,hx,rfl|rfl⟩:=hz y hy
 .exact o.i _ hx
 .have:=o.i x hx;dsimp only;unfold Lat.Hg;split
  .exact⟨this.1,hn⟩
  .exact this):P:=h
def bbm(h:P:=by
 go_wp2_with fail;refine az (Lh rfl rfl rfl (Jg (SP.out _ H6.out))) rfl ?_;rw[HE.out];exact⟨rfl,agc (TB.out _ H6.out) HB1.out.1⟩):P:=h
def bbn(h:P:=by
 go_wp2_with fail;go_ret;exact⟨rfl,H1.out.bel⟩):P:=h
def bbo(h:P:=by
 go_wp2_with fail;go_ret;exact⟨by rw[HO.out];rfl,HX.out _ HB3.out⟩):P:=h
def bbq(h:P:=by
 have HE:Hid (Y=(G9 9,X,D)):=HL.out;clear CN HL;have K:=H4;exact re5):P:=h
def bbs(h:P:=by
 go_wp2_with fail;refine az (aoo rfl rfl rfl (ai7 (SP.out _ H1.out.1))) rfl ?_;exact⟨rfl,bz10 H1.out.1.bel HB1.out.1⟩):P:=h
def bbt(h:P:=by
 have H2:Hid (Eb w b e ao cp w2):=H1.out.on hb2;clear hb2;go_wp2_with fail;go_ret;exact⟨by rw[HK.out];rfl,H2.out.bel⟩):P:=h
def bbv(h:P:=by
 unfold Lat.rseF at hy;split at hy
 .obtain⟨x,hx,rfl⟩:=je.1 hy;exact⟨x,hx,.inr rfl⟩
 .exact⟨y,hy,.inl rfl⟩):P:=h
def bbw(h:P:=by
 exact⟨rfl,(HR2.out.1.setOther (by omega) _ _).setOther (by omega) _ _,(HR2.out.2.ac5 (ai _) _ _).ac5 (ai _) _ _⟩):P:=h
def bbx(h:P:=by
 clear hl0;go_wp2_with fail
 go_ret3
 rw[<-HQ.out,HY.out.2];exact .inl ⟨HY.out.1,rfl,H4.out.2.2.1,H4.out.2.2.2.1⟩):P:=h
def bbz(h:P:=by
 go_wp2_with fail;go_roundw
 case rel=>exact⟨j+1,by omega,by go_num,HB9.out⟩
 case measure=>simp[intOf];omega):P:=h
def bc5(h:P:=by
 go_enter Tryz.func106,Tryz.ntmps106;go_wp2_with fail;go_ret;exact⟨by rw[HK.out,HQ.out,HP.out];rfl,H1.out.bel⟩):P:=h
def bc6(h:P:=by
 cases hg:Ver.getB q.c q.n X.K with
 |none=>rw[hg]at hz;rw[hz];rfl
 |some u=>rw[hg]at hz;rw[hz,hy u hg];rfl):P:=h
def bc8(h:P:=by
 exact this.mono λr w' h=>⟨h.1,hW.next h8 h7 h.2⟩):P:=h
def bc9(h:P:=by
 unfold Ent.Bj at hw;split at hw
 .assumption
 .cases hw):P:=h
def bca(h:P:=by
 unfold Bf;by_cases h1:1<=L.length
 .have h2:¬L.length<=16:=λe=>hn ⟨h1,e⟩;simp[h2]
 .simp[h1]):P:=h
def bcc(h:P:=by
 injection e with e;injection e with _ e _;exact ht e):P:=h
def bcj(h:P:=by
 have hp:=Yr h (by decide);rw[ah h,ah h,ih g _ _ _ (by rw[jr];omega) (by rw[jr];omega)]):P:=h
def bco(h:P:=by
 exact Sto.Hy e (by intro cs fz e;injection e with _ e _;exact absurd e (by decide))):P:=h
