import Derived.Laws.AppendOwnNone
import Derived.Shelf.Abstract
import Derived.Test.YtdplfgcoaddbdaaGreatXap
set_option maxHeartbeats 4000000
set_option maxRecDepth 100000
set_option linter.unusedVariables false
set_option linter.unusedSimpArgs false
namespace Go.Proofs.YtdplfgcoaddbdaaGreat.Ent
structure En where
 k:Int
 c:Nat
 n:Nat
 sp:Nat
 sl:Nat
 ap:Nat
 al:Nat
 mp:Nat
 ml:Nat
 prim:List UInt8
 pt:Nat
 dn:Bool
 ws:List Wr
def hasBy(k:Int):Bool:= !(k==1)&& !(k==6)
def hasSt(k:Int):Bool:=k==2||k==3||k==5||k==9
def hasAt(k:Int):Bool:=k==1||k==3||k==4||k==6||k==8||k==9
def hasPt(k:Int):Bool:=k==3||k==9
def hasWs(k:Int):Bool:=k==2||k==8
def rightS(p l:Nat):Bool:=decide (p<=281474976710656)&&decide (l<=4095)
def bareE(e:En):En:=
 {k:=e.k,c:=if hasBy e.k then e.c else 0,n:=if hasBy e.k then e.n else 0,sp:=if hasSt e.k then e.sp else 0,sl:=if hasSt e.k then e.sl else 0,ap:=if hasAt e.k then e.ap else 0,al:=if hasAt e.k then e.al else 0,mp:=if e.k=2 then e.mp else 0,ml:=if e.k=2 then e.ml else 0,prim:=if e.k=2 then e.prim else[],pt:=if hasPt e.k then e.pt else 0,dn:=if e.k=9 then e.dn else false,ws:=if hasWs e.k then e.ws else[]}
def eqW(a b:Wr):Bool:=a.key==b.key&&a.val==b.val&&a.dead==b.dead
def eqWs:List Wr->List Wr->Bool
 |[],[]=>true
 |a::r,b::q=>eqW a b&&eqWs r q
 |_,_=>false
def sameE(a b:En):Bool:=eqWs a.ws b.ws&&a.k==b.k&&(a.c==b.c&&a.n==b.n)&&(a.sp==b.sp&&a.sl==b.sl)&&(a.ap==b.ap&&a.al==b.al)&&(a.mp==b.mp&&a.ml==b.ml)&&a.prim==b.prim&&a.pt==b.pt&&a.dn==b.dn
def noneAt(e:En):Bool:=e.ap==0&&e.al==0
def kindOk(e:En):Bool:=
 if e.k=2 then kOk e.prim&&rightW e.ws else if e.k=3\/e.k=4 then !noneAt e else if e.k=8 then e.ws.length==1&&rightW e.ws else if e.k=9 then !noneAt e||(e.pt==0&& !e.dn)else true
def rightE(e:En):Bool:=decide (1<=e.k)&&decide (e.k<=9)&&sameE e (bareE e)&&(rightS e.sp e.sl&&rightS e.ap e.al&&rightS e.mp e.ml)&&kindOk e
theorem eqW_iff{a b:Wr}:eqW a b=true↔a=b:=by obtain⟨k,v,d⟩:=a;obtain⟨k',v',d'⟩:=b;simp[eqW,and_assoc]
theorem eqWs_iff:∀{a b:List Wr},eqWs a b=true↔a=b
 |[],[]=>by simp[eqWs]
 |[],b::q=>by simp[eqWs]
 |a::r,[]=>by simp[eqWs]
 |a::r,b::q=>by simp[eqWs,eqW_iff,eqWs_iff (a:=r) (b:=q)]
theorem sameE_iff{a b:En}:sameE a b=true↔a=b:=by
 obtain⟨k,c,n,sp,sl,ap,al,mp,ml,prim,pt,dn,ws⟩:=a;obtain⟨k',c',n',sp',sl',ap',al',mp',ml',prim',pt',dn',ws'⟩:=b;simp only[sameE,Bool.and_eq_true,eqWs_iff,beq_iff_eq,En.mk.injEq];constructor
 ·rintro⟨⟨⟨⟨⟨⟨⟨⟨h1,h2⟩,h3,h4⟩,h5,h6⟩,h7,h8⟩,h9,h10⟩,h11⟩,h12⟩,h13⟩;exact⟨h2,h3,h4,h5,h6,h7,h8,h9,h10,h11,h12,h13,h1⟩
 ·rintro⟨h2,h3,h4,h5,h6,h7,h8,h9,h10,h11,h12,h13,h1⟩;exact⟨⟨⟨⟨⟨⟨⟨⟨h1,h2⟩,h3,h4⟩,h5,h6⟩,h7,h8⟩,h9,h10⟩,h11⟩,h12⟩,h13⟩
def wrForm(w:Wr):List UInt8:=textForm w.key++(flagForm w.dead++textForm w.val)
def byForm(e:En):List UInt8:=if hasBy e.k then numForm e.c++numForm e.n else[]
def stForm(e:En):List UInt8:=if hasSt e.k then stampForm e.sp e.sl else[]
def midForm(e:En):List UInt8:=if e.k=2 then stampForm e.mp e.ml++(textForm e.prim++numForm e.ws.length)else if hasAt e.k then stampForm e.ap e.al else[]
def wsForm(ws:List Wr):List UInt8:=ws.flatMap wrForm
def ptForm(e:En):List UInt8:=if hasPt e.k then numForm e.pt else[]
def dnForm(e:En):List UInt8:=if e.k=9 then flagForm e.dn else[]
def formE(e:En):List UInt8:=numForm e.k.toNat++(byForm e++(stForm e++(midForm e++(wsForm e.ws++(ptForm e++dnForm e)))))
def writeE(e:En):List UInt8×Int:=if rightE e then(formE e,0)else([],1)
structure RgE(e:En):Prop where
 c:e.c<4294967296
 n:e.n<4294967296
 pt:e.pt<256
theorem rightE_iff{e:En}(h:rightE e=true):(1<=e.k/\e.k<=9)/\e=bareE e/\(rightS e.sp e.sl=true/\rightS e.ap e.al=true/\rightS e.mp e.ml=true)/\kindOk e=true:=by unfold rightE at h;simp only[Bool.and_eq_true,decide_eq_true_eq,sameE_iff]at h;obtain⟨⟨⟨⟨h1,h2⟩,h3⟩,⟨h4,h5⟩,h6⟩,h7⟩:=h;exact⟨⟨h1,h2⟩,h3,⟨h4,h5,h6⟩,h7⟩
theorem rightS_iff{p l:Nat}:rightS p l=true↔p<=281474976710656/\l<=4095:=by simp[rightS]
theorem kOk_iff{s:List UInt8}:kOk s=true↔1<=s.length/\s.length<=32:=by simp[kOk]
theorem wOk_iff{w:Wr}(h:wOk w=true):(1<=w.key.length/\w.key.length<=32)/\w.val.length<=256:=by simp only[wOk,Bool.and_eq_true,kOk_iff,decide_eq_true_eq]at h;exact⟨h.1.1,h.1.2⟩
theorem right_ws{e:En}(h:rightE e=true):(∀w∈e.ws,wOk w=true)/\e.ws.length<=16/\(e.k≠2->e.ws.length=if e.k=8 then 1 else 0):=by
 obtain⟨_,hb,_,hk⟩:=rightE_iff h;have hw:e.ws=if hasWs e.k then e.ws else[]:=congrArg En.ws hb;by_cases h2:e.k=2
 ·unfold kindOk at hk;rw[if_pos h2]at hk;simp only[rightW,Bool.and_eq_true,decide_eq_true_eq,List.all_eq_true]at hk;exact⟨hk.2.1.1.1,hk.2.2,fun h=>absurd h2 h⟩
 ·by_cases h8:e.k=8
  ·unfold kindOk at hk;rw[if_neg h2,if_neg (by omega),if_pos h8]at hk;simp only[rightW,Bool.and_eq_true,decide_eq_true_eq,List.all_eq_true,beq_iff_eq]at hk;exact⟨hk.2.1.1.1,hk.2.2,fun _=>by rw[if_pos h8];exact hk.1⟩
  ·have:hasWs e.k=false:=by simp[hasWs,h2,h8]
   rw[this]at hw;simp only[Bool.false_eq_true,if_false]at hw;rw[hw];exact⟨by simp,by simp,fun _=>by rw[if_neg h8];rfl⟩
theorem ws_snoc(ws:List Wr)(w:Wr):wsForm (ws++[w])=wsForm ws++wrForm w:=by simp[wsForm]
theorem nf_len{n:Nat}(h:n<18446744073709551616):(numForm n).length<=9:=by rw[numForm_length];exact sz_le h
theorem ws_len{ws:List Wr}(h:∀w∈ws,wOk w=true):(wsForm ws).length<=307*ws.length:=by
 induction ws with
 |nil=>simp[wsForm]
 |cons w r ih=>
  have h1:=ih (fun x hx=>h x (List.mem_cons_of_mem _ hx));obtain⟨⟨_,h2⟩,h3⟩:=wOk_iff (h w (List.mem_cons_self ..));have e1:=nf_len (n:=w.key.length) (by omega);have e2:=nf_len (n:=w.val.length) (by omega);have:wsForm (w::r)=wrForm w++wsForm r:=rfl;rw[this];simp only[wrForm,textForm,flagForm,List.length_append,List.length_cons,List.length_nil];omega
open Go.RowKit
theorem block_cell{w:World}{b j:Nat}{cs:Array Value}{ty:TypeId}{u:Value}(h:w.heap[b]?=some (.cells cs ty (0,0)))(hj:cs[j]?=some u):w.cell? ⟨b,j,none⟩=some u:=by unfold World.cell?;rw[h];exact hj
theorem own_nil(base e size:Nat)(w:World):w.ownsRow base e size sy 0 []:=World.ownsRow_nil w base e size
theorem ret_bool{a b:Bool}(h:a=b):Ending.returned (.bool a)=.returned (.bool b):=by rw[h]
def rightB(p l:Int):Bool:=decide (p<=281474976710656/\l<=4095)
def wrc(x:Wr):List Value:=[sd x.key,sd x.val,.bool x.dead]
theorem wrc_len(x:Wr):(wrc x).length=3:=rfl
def dw:Wr:=⟨[],[],false⟩
structure WtAt(w:World)(b off:Nat)(x:Wr):Prop where
 c0:w.cell? ⟨b,off,none⟩=some (sd x.key)
 c1:w.cell? ⟨b,off+1,none⟩=some (sd x.val)
 c2:w.cell? ⟨b,off+2,none⟩=some (.bool x.dead)
def WsAt(B:Nat)(v:Value)(L:List Wr)(w:World):Prop:=RwAt B 3 v L.length (rowC wrc L) w
theorem WsAt.el{B:Nat}{ao:Option Addr}{cap:Nat}{L:List Wr}{w:World}(h:WsAt B (.slice ao L.length cap) L w){i:Nat}(hi:i<L.length):∃b off,ao=some ⟨b,off,none⟩/\WtAt w b (off+i*3) (L.getD i dw):=by obtain⟨b,off,e,hc⟩:=rowC_el wrc_len dw (by omega) rfl h hi;exact⟨b,off,e,hc 0 _ (by omega) rfl,hc 1 _ (by omega) rfl,hc 2 _ (by omega) rfl⟩
theorem WsAt.shape{B:Nat}{v:Value}{L:List Wr}{w:World}(h:WsAt B v L w):∃ao cap,v=.slice ao L.length cap/\L.length<=cap/\cap<=9223372036854775807:=by obtain⟨ao,cap,e,_,h1,h2,_⟩:=h;exact⟨ao,cap,e,h1,h2⟩
theorem WsAt.on{B:Nat}{v:Value}{L:List Wr}{w w':World}(h:WsAt B v L w)(hb:Below B w w'):WsAt B v L w':=RwAt.on h hb
def RtN(L:List Wr)(m:Nat):Prop:=(∀i,i<m->wOk (L.getD i dw)=true)/\∀i j,i<j->j<m->(L.getD i dw).key≠(L.getD j dw).key
theorem getD_memW{L:List Wr}{i:Nat}(h:i<L.length):L.getD i dw∈L:=by rw[List.getD,List.getElem?_eq_getElem h];exact List.getElem_mem h
theorem right_bad{L:List Wr}{m:Nat}(h:m<L.length)(hw:wOk (L.getD m dw)=false):rightW L=false:=by
 unfold rightW;have:L.all wOk=false:=by rw[List.all_eq_false];exact⟨_,getD_memW h,by rw[hw];simp⟩
 rw[this];simp
theorem nodup_keys{L:List Wr}:(L.map (·.key)).Nodup↔∀i j,i<j->j<L.length->(L.getD i dw).key≠(L.getD j dw).key:=by
 rw[List.nodup_iff_pairwise_ne,List.pairwise_map,List.pairwise_iff_getElem];refine⟨fun h i j hij hj=>?_,fun h i j hi hj hij=>?_⟩
 ·have:=h i j (by omega) hj hij;simpa[List.getD,hj,show i<L.length by omega]using this
 ·have:=h i j hij hj;simpa[List.getD,hj,hi]using this
theorem right_twice{L:List Wr}{k m:Nat}(hk:k<m)(h:m<L.length)(he:(L.getD k dw).key=(L.getD m dw).key):rightW L=false:=by
 unfold rightW;have:decide ((L.map (·.key)).Nodup)=false:=by rw[decide_eq_false_iff_not,nodup_keys];exact fun hn=>hn k m hk h he
 rw[this];simp
theorem right_end{L:List Wr}(h:RtN L L.length):rightW L=(decide (1<=L.length)&&decide (L.length<=16)):=by
 unfold rightW;have h1:L.all wOk=true:=by rw[List.all_eq_true];intro x hx;obtain⟨i,hi,rfl⟩:=List.mem_iff_getElem.1 hx;have:=h.1 i hi;simpa[List.getD,hi]using this
 have h2:decide ((L.map (·.key)).Nodup)=true:=by rw[decide_eq_true_eq,nodup_keys];exact h.2
 rw[h1,h2];simp
theorem RtN.next{L:List Wr}{m:Nat}(h:RtN L m)(hw:wOk (L.getD m dw)=true)(hk:∀i,i<m->(L.getD i dw).key≠(L.getD m dw).key):RtN L (m+1):=by
 refine⟨fun i hi=>?_,fun i j hij hj=>?_⟩
 ·by_cases e:i=m
  ·subst e;exact hw
  ·exact h.1 i (by omega)
 ·by_cases e:j=m
  ·subst e;exact hk i hij
  ·exact h.2 i j hij (by omega)
open Go.RowKit Go.Shelf
theorem rightP(p l:Int)(w:World):
  Calls Tryz.prog 81 #[.agg #[uw p,ui l]] w fun e w'=>e=.returned (.bool (rightB p l))/\Below w.heap.size w w':=by
 by_cases h1:p<=281474976710656<;>by_cases h2:l<=4095
 all_goals
  go_enter Tryz.func81,Tryz.ntmps81;go_wp2;go_ret;exact⟨ret_bool (by simp[rightB,h1,h2]),(Below.refl _ _).alloc (Nat.le_refl _) _⟩
theorem key28(k:List UInt8)(w:World):Calls Tryz.prog 136 #[sd k] w fun e w'=>e=.returned (.bool (kOk k))/\w'=w:=by
 have hs:=bs_size k;by_cases h1:1<=k.length
 ·by_cases h2:k.length<=32
  ·have hk:kOk k=true:=by simp[kOk,h1,h2]
   rw[hk];have h1':(1:Int)<=k.length:=by omega
   have h2':(k.length:Int)<=32:=by omega
   clear hk;go_enter Tryz.func136,Tryz.ntmps136;go_wp2_with fail;go_ret;exact⟨rfl,rfl⟩
  ·have hk:kOk k=false:=by simp[kOk,h2]
   rw[hk];have h1':(1:Int)<=k.length:=by omega
   have h2':¬(k.length:Int)<=32:=by omega
   clear hk;go_enter Tryz.func136,Tryz.ntmps136;go_wp2_with fail;go_ret;exact⟨rfl,rfl⟩
 ·have hk:kOk k=false:=by simp[kOk,h1]
  rw[hk];have h1':¬(1:Int)<=k.length:=by omega
  clear hk;go_enter Tryz.func136,Tryz.ntmps136;go_wp2_with fail;go_ret;exact⟨rfl,rfl⟩
theorem right50(x:Wr)(w:World):Calls Tryz.prog 155 #[.agg #[sd x.key,sd x.val,.bool x.dead]] w fun e w'=>e=.returned (.bool (wOk x))/\Below w.heap.size w w':=by
 obtain⟨xk,xv,xd⟩:=x;dsimp only;have hs:=bs_size xv;have q0:((bs xv).toList==[])=xv.isEmpty:=by rw[bs_list];cases xv<;>rfl
 have CK:Hid (∀W,Calls Tryz.prog 136 #[sd xk] W fun e w'=>e=.returned (.bool (kOk xk))/\w'=W):=fun W=>key28 xk W;have HOk:Hid (∀kb,kOk xk=kb->∀eb,xv.isEmpty=eb->wOk ⟨xk,xv,xd⟩=(kb&&decide (xv.length<=256)&& !(xd&& !eb))):=fun kb h1 eb h2=>by subst h1 h2;rfl
 obtain⟨kb,hkb⟩:=xj (kOk xk);obtain⟨eb,heb⟩:=xj xv.isEmpty;rw[HOk.out kb hkb eb heb];rw[hkb]at CK;rw[heb]at q0;have HB:Hid (∀o,Below w.heap.size w (w.alloc o)):=fun o=>al o;clear hkb heb HOk;cases kb
 ·go_enter Tryz.func155,Tryz.ntmps155;go_wp2_with fail;refine(CK.out _).mono ?_;rintro e w1 ⟨rfl,rfl⟩;go_wp2_with fail;go_ret;exact⟨rfl,HB.out _⟩
 ·by_cases hv:(xv.length:Int)<=256
  ·have hv2:decide (xv.length<=256)=true:=by simp;omega
   rw[hv2];clear hv2;cases xd
   ·go_enter Tryz.func155,Tryz.ntmps155;go_wp2_with fail;refine(CK.out _).mono ?_;rintro e w1 ⟨rfl,rfl⟩;go_wp2_with fail;go_ret;exact⟨rfl,HB.out _⟩
   ·cases eb
    ·go_enter Tryz.func155,Tryz.ntmps155;go_wp2_with fail;refine(CK.out _).mono ?_;rintro e w1 ⟨rfl,rfl⟩;go_wp2_with fail;go_ret;exact⟨rfl,HB.out _⟩
    ·go_enter Tryz.func155,Tryz.ntmps155;go_wp2_with fail;refine(CK.out _).mono ?_;rintro e w1 ⟨rfl,rfl⟩;go_wp2_with fail;go_ret;exact⟨rfl,HB.out _⟩
  ·have hv2:decide (xv.length<=256)=false:=by simp;omega
   rw[hv2];clear hv2;go_enter Tryz.func155,Tryz.ntmps155;go_wp2_with fail;refine(CK.out _).mono ?_;rintro e w1 ⟨rfl,rfl⟩;go_wp2_with fail;go_ret;exact⟨rfl,HB.out _⟩
theorem same51(x:Wr)(bp:Nat)(k:List UInt8)(w:World)(h:w.cell? ⟨bp,0,none⟩=some (sd k)):Calls Tryz.prog 156 #[.agg #[sd x.key,sd x.val,.bool x.dead],pz bp] w fun e w'=>e=.returned (.bool (x.key==k))/\Below w.heap.size w w':=by
 have hq:=bs_beq x.key k;obtain⟨W0,hW0⟩:=xj (w.alloc (.cells #[sd x.key,sd x.val,.bool x.dead] 67));have hb0:Below w.heap.size w W0:=by rw[<-hW0];exact al _
 have hx0:W0.heap[w.heap.size]?=some (.cells #[sd x.key,sd x.val,.bool x.dead] 67 (0,0)):=by rw[<-hW0];exact heap_alloc_new w _
 have z0:W0.cell? ⟨w.heap.size,0,none⟩=some (sd x.key):=block_cell hx0 rfl;have h0:W0.cell? ⟨bp,0,none⟩=some (sd k):=by rw[hb0.cell (World.block_lt_of_cell? _ _ h)];exact h
 have HB:Hid (Below w.heap.size w W0):=hb0;clear h hb0 hx0;generalize (x.key==k)=z at*;go_enter Tryz.func156,Tryz.ntmps156;go_wp2_with fail;go_ret;exact⟨rfl,HB.out⟩
theorem any_step{L:List Wr}{P:Wr->Bool}{m:Nat}(h:m<L.length):(L.drop m).any P=(P (L.getD m dw)||(L.drop (m+1)).any P):=by rw[List.drop_eq_getElem_cons h,List.any_cons,List.getD,List.getElem?_eq_getElem h];rfl
theorem index52(f:Nat)(cf:Array Value)(P:Wr->Bool)(L:List Wr)(v:Value)(w:World)(hL:WsAt w.heap.size v L w)(ef:∀args w,(callFunc f args).run Tryz.prog w=.ok (.enter f args) w)
  (HF:Hid (∀(x:Wr) W,Below w.heap.size w W->Calls Tryz.prog f (#[.agg #[sd x.key,sd x.val,.bool x.dead]]++cf) W fun e w'=>e=.returned (.bool (P x))/\Below W.heap.size W w')):
  Calls Tryz.prog 191 #[v,.func (.func f) #[] cf] w fun e w'=>∃i:Int,e=.returned (iw i)/\decide (0<=i)=L.any P/\Below w.heap.size w w':=by
 have HL:Hid (WsAt w.heap.size v L w):=hL;obtain⟨ao,cap,rfl,hlc,hcm⟩:=hL.shape;have hL9:L.length<9223372036854775808:=by omega
 have H0:Hid ((L.drop 0).any P=L.any P):=by show _=_;rw[List.drop_zero]
 have HE:Hid (∀W,Below w.heap.size w W->∀i,i<L.length->∃b off,ao=some ⟨b,off,none⟩/\WtAt W b (off+i*3) (L.getD i dw)):=fun W hW i hi=>(HL.out.on hW).el hi;obtain⟨y,hy⟩:=xj (L.any P);rw[hy]at H0|-;clear hL hlc hcm HL hy;go_enter Tryz.func191,Tryz.ntmps191;go_wp2_with fail;go_loopw [8] (fun i wr=>Below w.heap.size w wr/\∃m:Nat,m<=L.length/\i=iw m/\(L.drop m).any P=y) (fun i _=>L.length-(intOf i).toNat)
 case atStart=>exact⟨Below.refl _ _,0,Nat.zero_le _,rfl,H0.out⟩
 case round=>
  obtain⟨hbr,m,hm,rfl,hy⟩:=hrel;have HBr:Hid (Below w.heap.size w wr):=hbr;by_cases hml:m<L.length
  ·obtain⟨b,off,rfl,e0,e1,e2⟩:=HE.out wr hbr m hml;have hml':(m:Int)<L.length:=by omega
   have hm9:¬(m:Int)<0:=by omega
   have hst:=any_step (P:=P) hml;rw[hy]at hst;have HQ:Hid (m+1<=L.length):=hml;generalize L.getD m dw=x at*;have CF:Hid (1=1->_):=fun _=>HF.out x wr hbr;obtain⟨z,hz⟩:=xj (P x);rw[hz]at CF hst;clear hz hbr hy HE;cases z
   ·have HY:Hid ((L.drop (m+1)).any P=y):=by show _=_;rw[hst];rfl
    clear hst;go_wp2_with fail;refine(CF.out (by trivial)).mono ?_;rintro e w1 ⟨rfl,hb1⟩;have HB1:Hid (Below w.heap.size w w1):=HBr.out.trans (hb1.mono HBr.out.size);clear hb1 CF e0 e1 e2;go_wp2_with fail;go_roundw
    case rel=>exact⟨HB1.out,m+1,HQ.out,by go_num,HY.out⟩
    case measure=>simp[intOf];omega
   ·have hy1:y=true:=hst;subst hy1;clear hst;go_wp2_with fail;refine(CF.out (by trivial)).mono ?_;rintro e w1 ⟨rfl,hb1⟩;have HB1:Hid (Below w.heap.size w w1):=HBr.out.trans (hb1.mono HBr.out.size);clear hb1 CF e0 e1 e2;go_wp2_with fail;go_ret;exact⟨_,rfl,by simp,HB1.out⟩
  ·have hml':¬(m:Int)<L.length:=by omega
   have hy1:y=false:=by rw[<-hy,List.drop_eq_nil_of_le (by omega)];rfl
   subst hy1;clear hy hbr;go_wp2_with fail;go_ret;exact⟨_,rfl,by decide,HBr.out⟩
theorem cont30(f:Nat)(cf:Array Value)(P:Wr->Bool)(L:List Wr)(v:Value)(w:World)(hL:WsAt w.heap.size v L w)(ef:∀args w,(callFunc f args).run Tryz.prog w=.ok (.enter f args) w)
  (HF:Hid (∀(x:Wr) W,Below w.heap.size w W->Calls Tryz.prog f (#[.agg #[sd x.key,sd x.val,.bool x.dead]]++cf) W fun e w'=>e=.returned (.bool (P x))/\Below W.heap.size W w')):
  Calls Tryz.prog 138 #[v,.func (.func f) #[] cf] w fun e w'=>e=.returned (.bool (L.any P))/\Below w.heap.size w w':=by
 have CI:Hid (1=1->_):=fun _=>index52 f cf P L v w hL ef HF;obtain⟨ao,cap,rfl,hlc,hcm⟩:=hL.shape;clear hL HF ef hlc hcm;generalize L.any P=y at*;go_enter Tryz.func138,Tryz.ntmps138;go_wp2_with fail;refine(CI.out (by trivial)).mono ?_;rintro e w1 ⟨i,rfl,hi,hb1⟩;have HB:Hid _:=hb1;have HI:Hid (decide (0<=i)=y):=hi;clear CI hb1 hi;go_wp2_with fail;go_ret;exact⟨by rw[<-HI.out];rfl,HB.out⟩
theorem any_keys{L:List Wr}{k:List UInt8}{m:Nat}(hm:m<=L.length):((L.take m).any fun a=>a.key==k)=true↔∃i,i<m/\(L.getD i dw).key=k:=by
 rw[List.any_eq_true];constructor
 ·rintro⟨a,ha,he⟩;obtain⟨i,hi,rfl⟩:=List.mem_take_iff_getElem.1 ha;exact⟨i,by omega,by rw[List.getD,List.getElem?_eq_getElem (by omega)];simpa using he⟩
 ·rintro⟨i,hi,he⟩;refine⟨L.getD i dw,?_,by simpa using he⟩;rw[List.getD,List.getElem?_eq_getElem (by omega)];exact List.mem_take_iff_getElem.2 ⟨i,by omega,rfl⟩
theorem WsAt.tk{B:Nat}{ao:Option Addr}{cap:Nat}{L:List Wr}{w:World}(h:WsAt B (.slice ao L.length cap) L w){m:Nat}(hm:m<=L.length):WsAt B (.slice ao m cap) (L.take m) w:=by have:=RwAt.take h hm;rw[rowC_take wrc_len]at this;unfold WsAt;rw[List.length_take,Nat.min_eq_left hm];exact this
theorem ent51:∀args w,(callFunc 156 args).run Tryz.prog w=.ok (.enter 156 args) w:=enters_of Tryz.func156 (by kernel_rfl) rfl
theorem right24(B:Nat)(L:List Wr)(v:Value)(w:World)(h:WsAt B v L w)(hB:B<=w.heap.size):
  Calls Tryz.prog 83 #[v] w fun e w'=>e=.returned (.bool (rightW L))/\Below w.heap.size w w':=by
 obtain⟨ao,cap,rfl,hlc,hcm⟩:=h.shape;have HW:Hid (∀W,Below w.heap.size w W->WsAt w.heap.size (.slice ao L.length cap) L W):=fun W hW=>RwAt.le (h.on (hW.mono hB)) hB;have HE:Hid (∀W,Below w.heap.size w W->∀i,i<L.length->∃b off,ao=some ⟨b,off,none⟩/\WtAt W b (off+i*3) (L.getD i dw)):=fun W hW i hi=>(HW.out W hW).el hi;have HBad:Hid (∀m,m<L.length->wOk (L.getD m dw)=false->rightW L=false):=fun m hm hw=>right_bad hm hw;have HTw:Hid (∀k m,k<m->m<L.length->(L.getD k dw).key=(L.getD m dw).key->rightW L=false):=fun k m hk hm he=>right_twice hk hm he;have HEnd:Hid (RtN L L.length->rightW L=(decide (1<=L.length)&&decide (L.length<=16))):=right_end;have HSz:Hid (¬(1<=L.length/\L.length<=16)->rightW L=false):=fun hn=>by
  unfold rightW;by_cases h1:1<=L.length
  ·have h2:¬L.length<=16:=fun e=>hn ⟨h1,e⟩;simp[h2]
  ·simp[h1]
 have hL9:L.length<9223372036854775808:=by omega
 have HCap:Hid (L.length<=cap):=hlc;generalize rightW L=y at*;clear h hB hcm hlc;by_cases h1:(L.length:Int)<1
 ·have hy:y=false:=HSz.out (by omega);subst hy;go_enter Tryz.func83,Tryz.ntmps83;go_wp2_with fail;go_ret;exact⟨rfl,Below.refl _ _⟩
 by_cases h2:(16:Int)<L.length
 ·have hy:y=false:=HSz.out (by omega);subst hy;go_enter Tryz.func83,Tryz.ntmps83;go_wp2_with fail;go_ret;exact⟨rfl,Below.refl _ _⟩
 go_enter Tryz.func83,Tryz.ntmps83;go_wp2_with fail;go_loopw [15] (fun i wr=>Below w.heap.size w wr/\∃m:Nat,m<=L.length/\i=iw m/\RtN L m) (fun i _=>L.length-(intOf i).toNat)
 case atStart=>exact⟨Below.refl _ _,0,Nat.zero_le _,rfl,fun _ h=>by omega,fun _ _ _ h=>by omega⟩
 case round=>
  obtain⟨hbr,m,hm,rfl,hrt⟩:=hrel;have HBr:Hid (Below w.heap.size w wr):=hbr;have HRt:Hid (RtN L m):=hrt;by_cases hml:m<L.length
  ·obtain⟨b,off,rfl,e0,e1,e2⟩:=HE.out wr hbr m hml;have hml':(m:Int)<L.length:=by omega
   have hm0:¬(m:Int)<0:=by omega
   have hmc:(m:Int)<=cap:=by have:=HCap.out;omega
   have HQ:Hid (m+1<=L.length):=hml;have hAny:=any_keys (k:=(L.getD m dw).key) (Nat.le_of_lt hml);have HNo:Hid (wOk (L.getD m dw)=false->y=false):=HBad.out m hml;have HTt:Hid (((L.take m).any fun a=>a.key==(L.getD m dw).key)=true->y=false):=fun ht=>by obtain⟨i,hi,he⟩:=hAny.1 ht;exact HTw.out i m hi hml he
   have HNx:Hid (wOk (L.getD m dw)=true->((L.take m).any fun a=>a.key==(L.getD m dw).key)=false->RtN L (m+1)):=fun h3 h4=>HRt.out.next h3 (fun i hi he=>by rw[hAny.2 ⟨i,hi,he⟩]at h4;cases h4)
   clear hAny hrt;generalize L.getD m dw=x at*;obtain⟨Wa,hWa⟩:=xj (wr.alloc (.cells #[sd x.key,sd x.val,.bool x.dead] 67));have hxa:Wa.heap[wr.heap.size]?=some (.cells #[sd x.key,sd x.val,.bool x.dead] 67 (0,0)):=by rw[<-hWa];exact heap_alloc_new wr _
   have hba:Below w.heap.size w Wa:=by rw[<-hWa];exact hbr.alloc hbr.size _
   have a0:Wa.cell? ⟨wr.heap.size,0,none⟩=some (sd x.key):=block_cell hxa rfl;have a1:Wa.cell? ⟨wr.heap.size,1,none⟩=some (sd x.val):=block_cell hxa rfl;have a2:Wa.cell? ⟨wr.heap.size,2,none⟩=some (.bool x.dead):=block_cell hxa rfl;obtain⟨bp,hbp⟩:=xj wr.heap.size;rw[hbp]at a0 a1 a2 hxa;have CR:Hid (1=1->Calls Tryz.prog 155 #[.agg #[sd x.key,sd x.val,.bool x.dead]] Wa fun e w'=>e=.returned (.bool (wOk x))/\Hid (Below w.heap.size w w'/\w'.heap[bp]?=some (.cells #[sd x.key,sd x.val,.bool x.dead] 67 (0,0)))):=fun _=>by refine(right50 x Wa).mono ?_;rintro e w' ⟨rfl,hb'⟩;exact⟨rfl,hba.trans (hb'.mono hba.size),by rw[hb'.block _ (gsz hxa)];exact hxa⟩
   have CC:Hid (∀W,Hid (Below w.heap.size w W/\W.heap[bp]?=some (.cells #[sd x.key,sd x.val,.bool x.dead] 67 (0,0)))->Calls Tryz.prog 138 #[.slice (some ⟨b,off,none⟩) m cap,.func (.func 156) #[] #[pz bp]] W fun e w'=>e=.returned (.bool ((L.take m).any fun a=>a.key==x.key))/\Hid (Below w.heap.size w w')):=fun W hW=>by
    have hws:=(HW.out W hW.out.1).tk hm;refine(cont30 156 #[pz bp] (fun a=>a.key==x.key) (L.take m) _ W (RwAt.le hws hW.out.1.size) ent51 (fun a W2 hb2=>?_)).mono ?_
    ·exact same51 a bp x.key W2 (block_cell (by rw[hb2.block _ (gsz hW.out.2)];exact hW.out.2) rfl)
    ·rintro e w' ⟨rfl,hb'⟩;exact⟨rfl,hW.out.1.trans (hb'.mono hW.out.1.size)⟩
   clear hxa hba hbr HE HW HEnd HSz HBad HTw HRt;cases hwo:wOk x with
   |false=>
    have hy:y=false:=HNo.out hwo;subst hy;rw[hwo]at CR;clear hwo HNo HNx HTt CC;go_wp2_with fail;refine(CR.out (by trivial)).mono ?_;rintro e w1 ⟨rfl,HB1⟩;clear CR a0 a1 a2 hWa hbp e0 e1 e2;go_wp2_with fail;go_ret;exact⟨rfl,HB1.out.1⟩
   |true=>
    rw[hwo]at CR;cases han:(L.take m).any fun a=>a.key==x.key with
    |true=>
     have hy:y=false:=HTt.out han;subst hy;rw[han]at CC;clear hwo han HNo HNx HTt;go_wp2_with fail;refine(CR.out (by trivial)).mono ?_;rintro e w1 ⟨rfl,HB1⟩;clear CR a0 a1 a2 hWa hbp e0 e1 e2;go_wp2_with fail;refine(CC.out _ HB1).mono ?_;rintro e w2 ⟨rfl,HB2⟩;clear CC HB1;go_wp2_with fail;go_ret;exact⟨rfl,HB2.out⟩
    |false=>
     rw[han]at CC;have HNN:Hid (RtN L (m+1)):=HNx.out hwo han;clear hwo han HNo HNx HTt;go_wp2_with fail;refine(CR.out (by trivial)).mono ?_;rintro e w1 ⟨rfl,HB1⟩;clear CR a0 a1 a2 hWa hbp e0 e1 e2;go_wp2_with fail;refine(CC.out _ HB1).mono ?_;rintro e w2 ⟨rfl,HB2⟩;clear CC HB1;go_wp2_with fail;go_roundw
     case rel=>exact⟨HB2.out,m+1,HQ.out,by go_num,HNN.out⟩
     case measure=>simp[intOf];omega
  ·have hml':¬(m:Int)<L.length:=by omega
   have hm2:m=L.length:=by omega
   have hy:y=true:=by have:=HEnd.out (hm2▸hrt);rw[this];simp;omega
   subst hy;clear hbr hrt hm2;go_wp2_with fail;go_ret;exact⟨rfl,HBr.out⟩
theorem nat_beq(a b:Nat):((a:Int)==(b:Int))=(a==b):=by rw[Bool.eq_iff_iff];simp only[beq_iff_eq];omega
theorem run_eql24(p l q m:Nat)(w:World):(binOp .eql 26 (.agg #[ui p,ui l]) (.agg #[ui q,ui m])).run Tryz.prog w=.ok (.bool (p==q&&l==m)) w:=by rw[<-nat_beq p q,<-nat_beq l m];generalize (p:Int)=p;generalize (l:Int)=l;generalize (q:Int)=q;generalize (m:Int)=m;by_cases h:p=q<;>by_cases h2:l=m<;>simp[go_sem,h,h2]
theorem run_eql27(p l q m:Nat)(w:World):(binOp .eql 28 (.agg #[uw p,ui l]) (.agg #[uw q,ui m])).run Tryz.prog w=.ok (.bool (p==q&&l==m)) w:=by rw[<-nat_beq p q,<-nat_beq l m];generalize (p:Int)=p;generalize (l:Int)=l;generalize (q:Int)=q;generalize (m:Int)=m;by_cases h:p=q<;>by_cases h2:l=m<;>simp[go_sem,h,h2]
open Go.RowKit Go.Sort
theorem run_eql27z(p l:Nat)(w:World):(binOp .eql 28 (.agg #[uw p,ui l]) (.agg #[uw 0,ui 0])).run Tryz.prog w=.ok (.bool (p==0&&l==0)) w:=run_eql27 p l 0 0 w
theorem rightB_S(p l:Nat):rightB (p:Int) (l:Int)=rightS p l:=by unfold rightB rightS;rw[Bool.eq_iff_iff];simp only[decide_eq_true_eq,Bool.and_eq_true];omega
structure Eb(w:World)(b:Nat)(e:En)(ao:Option Addr)(cp:Nat)(W:World):Prop where
 bel:Below w.heap.size w W
 x:W.heap[b]?=some (.cells #[iw e.k,ui e.c,ui e.n,uw e.sp,ui e.sl,uw e.ap,ui e.al,uw e.mp,ui e.ml,sd e.prim,ub e.pt,.bool e.dn,.slice ao e.ws.length cp] 108 (0,0))
 ws:WsAt w.heap.size (.slice ao e.ws.length cp) e.ws W
theorem Eb.on{w W W':World}{b:Nat}{e:En}{ao:Option Addr}{cp:Nat}(h:Eb w b e ao cp W)(hb:Below W.heap.size W W'):Eb w b e ao cp W':=
 ⟨h.bel.trans (hb.mono h.bel.size),by rw[hb.block _ (gsz h.x)];exact h.x,h.ws.on (hb.mono h.bel.size)⟩
theorem Eb.wsx{w W:World}{b:Nat}{e:En}{ao:Option Addr}{cp:Nat}(h:Eb w b e ao cp W):WsAt W.heap.size (.slice ao e.ws.length cp) e.ws W:=RwAt.le h.ws h.bel.size
theorem eb_new{w:World}{e:En}{ao:Option Addr}{cp:Nat}(h:WsAt w.heap.size (.slice ao e.ws.length cp) e.ws w):Eb w w.heap.size e ao cp (w.alloc (.cells #[iw e.k,ui e.c,ui e.n,uw e.sp,ui e.sl,uw e.ap,ui e.al,uw e.mp,ui e.ml,sd e.prim,ub e.pt,.bool e.dn,.slice ao e.ws.length cp] 108)):=⟨al _,heap_alloc_new w _,h.on (al _)⟩
theorem rightE_out{e:En}(h:¬(1<=e.k/\e.k<=9)):rightE e=false:=by
 unfold rightE;by_cases h1:1<=e.k
 ·have:¬e.k<=9:=fun h2=>h ⟨h1,h2⟩;simp[this]
 ·simp[h1]
theorem tf_len{s:List UInt8}(h:s.length<=1000):(textForm s).length<=1009:=by have:=nf_len (n:=s.length) (by omega);unfold textForm;rw[List.length_append];omega
theorem ff_len(b:Bool):(flagForm b).length=1:=rfl
structure Wk(c n sp sq ap aq mp mq:Nat)(prim:List UInt8)(pt:Nat)(ws:List Wr):Prop where
 c:c<4294967296
 n:n<4294967296
 sp:sp<=281474976710656
 sq:sq<=4095
 ap:ap<=281474976710656
 aq:aq<=4095
 mp:mp<=281474976710656
 mq:mq<=4095
 prim:prim.length<=1000
 pt:pt<256
 len:ws.length<=16
 ws:∀w∈ws,wOk w=true
theorem u64w{n:Nat}(h:n<9223372036854775808):IntKind.u64.wrap (n:Int)=n:=by simp[IntKind.wrap,IntKind.signed,IntKind.bits];omega
theorem stf_len{p q:Nat}(hp:p<=281474976710656)(hq:q<=4095):(stampForm p q).length<=18:=by have:=nf_len (n:=p) (by omega);have:=nf_len (n:=q) (by omega);unfold stampForm;rw[List.length_append];omega
theorem take_form{ws:List Wr}{m:Nat}(h:m<ws.length):wsForm (ws.take (m+1))=wsForm (ws.take m)++wrForm (ws.getD m dw):=by rw[List.take_succ_eq_append_getElem h,ws_snoc,show ws.getD m dw=ws[m]from by simp[List.getD,h]]
theorem wk_of{e:En}(h:rightE e=true)(hr:RgE e):Wk e.c e.n e.sp e.sl e.ap e.al e.mp e.ml e.prim e.pt e.ws:=by
 obtain⟨⟨hk1,hk9⟩,hb,⟨hs1,hs2,hs3⟩,hk⟩:=rightE_iff h;obtain⟨hw1,hw2,_⟩:=right_ws h;have hp:e.prim.length<=1000:=by
  by_cases h2:e.k=2
  ·unfold kindOk at hk;rw[if_pos h2]at hk;simp only[Bool.and_eq_true,kOk_iff]at hk;omega
  ·have:e.prim=[]:=by have:=congrArg En.prim hb;rw[bareE]at this;simpa[h2]using this
   rw[this];simp
 exact⟨hr.c,hr.n,(rightS_iff.1 hs1).1,(rightS_iff.1 hs1).2,(rightS_iff.1 hs2).1,(rightS_iff.1 hs2).2,(rightS_iff.1 hs3).1,(rightS_iff.1 hs3).2,hp,hr.pt,hw2,hw1⟩
structure EnOk(e:En):Prop where
 rg:RgE e
 k: -9223372036854775808<=e.k/\e.k<=9223372036854775807
 sp:e.sp<18446744073709551616/\e.sl<4294967296
 ap:e.ap<18446744073709551616/\e.al<4294967296
 mp:e.mp<18446744073709551616/\e.ml<4294967296
 prim:e.prim.length<=140737488351232
 wl:e.ws.length<=140737488351232
 ws:∀w∈e.ws,w.key.length<=140737488351232/\w.val.length<=140737488351232
structure Ife:Prop where
 wr:∀(e:En) (ao:Option Addr) (cp:Nat) (w:World),EnOk e->e.ws.length<=100->WsAt w.heap.size (.slice ao e.ws.length cp) e.ws w->Calls Tryz.prog 167 #[.agg #[iw e.k,ui e.c,ui e.n,uw e.sp,ui e.sl,uw e.ap,ui e.al,uw e.mp,ui e.ml,sd e.prim,ub e.pt,.bool e.dn,.slice ao e.ws.length cp]] w fun r w'=>r=.returned (.tuple #[.string (bs (writeE e).1),iw (writeE e).2])/\Below w.heap.size w w'
end Go.Proofs.YtdplfgcoaddbdaaGreat.Ent
