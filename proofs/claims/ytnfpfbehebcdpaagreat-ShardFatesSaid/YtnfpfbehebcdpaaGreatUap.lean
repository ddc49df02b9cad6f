import Derived.Laws.AppendOwnNone
import Derived.Shelf.Abstract
import Derived.Test.YtnfpfbehebcdpaaGreatUac
import Derived.Test.YtnfpfbehebcdpaaGreatUao
set_option maxHeartbeats 0
set_option maxRecDepth 99999
set_option linter.all false
namespace Go.Proofs.YtnfpfbehebcdpaaGreat.Ent
structure En where
 k:Int
 c:Nat
 n:Nat
 sp:Nat
 sl:Nat
 ap:Nat
 al:Nat
 mp:Nat
 ml:Nat
 prim:Bi
 pt:Nat
 dn:Bool
 ws:List Wr
def Ox(k:Int):Bool:= !(k==1)&& !(k==6)
def Qn(k:Int):Bool:=k==2||k==3||k==5||k==9
def Oy(k:Int):Bool:=k==1||k==3||k==4||k==6||k==8||k==9
def Oc(k:Int):Bool:=k==3||k==9
def Q8(k:Int):Bool:=k==2||k==8
def Ec(p l:Nat):Bool:=decide (p<=281474976710656)&&decide (l<=4095)
def Js(e:En):En:=
 {k:=e.k,c:=if Ox e.k then e.c else 0,n:=if Ox e.k then e.n else 0,sp:=if Qn e.k then e.sp else 0,sl:=if Qn e.k then e.sl else 0,ap:=if Oy e.k then e.ap else 0,al:=if Oy e.k then e.al else 0,mp:=if e.k=2 then e.mp else 0,ml:=if e.k=2 then e.ml else 0,prim:=if e.k=2 then e.prim else[],pt:=if Oc e.k then e.pt else 0,dn:=if e.k=9 then e.dn else false,ws:=if Q8 e.k then e.ws else[]}
def eqW(a b:Wr):Bool:=a.key==b.key&&a.val==b.val&&a.dead==b.dead
def eqWs:List Wr->List Wr->Bool
 |[],[]=>true
 |a::r,b::q=>eqW a b&&eqWs r q
 |_,_=>false
def ai8(a b:En):Bool:=eqWs a.ws b.ws&&a.k==b.k&&(a.c==b.c&&a.n==b.n)&&(a.sp==b.sp&&a.sl==b.sl)&&(a.ap==b.ap&&a.al==b.al)&&(a.mp==b.mp&&a.ml==b.ml)&&a.prim==b.prim&&a.pt==b.pt&&a.dn==b.dn
def Pv(e:En):Bool:=e.ap==0&&e.al==0
def kindOk(e:En):Bool:=
 if e.k=2 then kOk e.prim&&Bf e.ws else if e.k=3\/e.k=4 then !Pv e else if e.k=8 then e.ws.length==1&&Bf e.ws else if e.k=9 then !Pv e||(e.pt==0&& !e.dn)else true
def Eo(e:En):Bool:=decide (1<=e.k)&&decide (e.k<=9)&&ai8 e (Js e)&&(Ec e.sp e.sl&&Ec e.ap e.al&&Ec e.mp e.ml)&&kindOk e
def avc{a b:Wr}:eqW a b=true↔a=b:=by obtain⟨k,v,d⟩:=a;obtain⟨k',v',d'⟩:=b;simp[eqW,and_assoc]
def af5:∀{a b:List Wr},eqWs a b=true↔a=b
 |[],[]=>by simp[eqWs]
 |[],b::q=>by simp[eqWs]
 |a::r,[]=>by simp[eqWs]
 |a::r,b::q=>by simp[eqWs,avc,af5 (a:=r) (b:=q)]
def abm{a b:En}:ai8 a b=true↔a=b:=by
 obtain⟨k,c,n,sp,sl,ap,al,mp,ml,prim,pt,dn,ws⟩:=a;obtain⟨k',c',n',sp',sl',ap',al',mp',ml',prim',pt',dn',ws'⟩:=b;simp only[ai8,cu,af5,uq,En.mk.injEq];constructor
 .rintro⟨⟨⟨⟨⟨⟨⟨⟨h1,h2⟩,h3,h4⟩,h5,h6⟩,h7,h8⟩,h9,h10⟩,h11⟩,h12⟩,h13⟩;exact⟨h2,h3,h4,h5,h6,h7,h8,h9,h10,h11,h12,h13,h1⟩
 .rintro⟨h2,h3,h4,h5,h6,h7,h8,h9,h10,h11,h12,h13,h1⟩;exact⟨⟨⟨⟨⟨⟨⟨⟨h1,h2⟩,h3,h4⟩,h5,h6⟩,h7,h8⟩,h9,h10⟩,h11⟩,h12⟩,h13⟩
def Ld(w:Wr):Bi:=Au w.key++(D7 w.dead++Au w.val)
def Xu(e:En):Bi:=if Ox e.k then Am e.c++Am e.n else[]
def V5(e:En):Bi:=if Qn e.k then A7 e.sp e.sl else[]
def Sr(e:En):Bi:=if e.k=2 then A7 e.mp e.ml++(Au e.prim++Am e.ws.length)else if Oy e.k then A7 e.ap e.al else[]
def Dz(ws:List Wr):Bi:=ws.flatMap Ld
def Wv(e:En):Bi:=if Oc e.k then Am e.pt else[]
def Xo(e:En):Bi:=if e.k=9 then D7 e.dn else[]
def Iu(e:En):Bi:=Am e.k.toNat++(Xu e++(V5 e++(Sr e++(Dz e.ws++(Wv e++Xo e)))))
def Bj(e:En):Bi×Int:=if Eo e then(Iu e,0)else([],1)
structure RgE(e:En):Prop where
 c:e.c<4294967296
 n:e.n<4294967296
 pt:e.pt<256
def G5{e:En}(h:Eo e=true):(1<=e.k/\e.k<=9)/\e=Js e/\(Ec e.sp e.sl=true/\Ec e.ap e.al=true/\Ec e.mp e.ml=true)/\kindOk e=true:=by unfold Eo at h;simp only[cu,jc,abm]at h;obtain⟨⟨⟨⟨h1,h2⟩,h3⟩,⟨h4,h5⟩,h6⟩,h7⟩:=h;exact⟨⟨h1,h2⟩,h3,⟨h4,h5,h6⟩,h7⟩
def F7{p l:Nat}:Ec p l=true↔p<=281474976710656/\l<=4095:=by simp[Ec]
def Yx{s:Bi}:kOk s=true↔1<=s.length/\s.length<=32:=by simp[kOk]
def Us{w:Wr}(h:wOk w=true):(1<=w.key.length/\w.key.length<=32)/\w.val.length<=256:=by simp only[wOk,cu,Yx,jc]at h;exact⟨h.1.1,h.1.2⟩
def Qx{e:En}(h:Eo e=true):(∀w∈e.ws,wOk w=true)/\e.ws.length<=16/\(e.k≠2->e.ws.length=if e.k=8 then 1 else 0):=by
 obtain⟨_,hb,_,hk⟩:=G5 h;have hw:e.ws=if Q8 e.k then e.ws else[]:=iq En.ws hb;by_cases h2:e.k=2
 .unfold kindOk at hk;rw[ah h2]at hk;simp only[Bf,cu,jc,xg]at hk;exact⟨hk.2.1.1.1,hk.2.2,λh=>absurd h2 h⟩
 .by_cases h8:e.k=8
  .unfold kindOk at hk;rw[ag h2,ag (by omega),ah h8]at hk;simp only[Bf,cu,jc,xg,uq]at hk;exact⟨hk.2.1.1.1,hk.2.2,λ_=>by rw[ah h8];exact hk.1⟩
  .have:Q8 e.k=false:=by simp[Q8,h2,h8]
   rw[this]at hw;simp only[o7,if_false]at hw;rw[hw];exact⟨by simp,by simp,λ_=>by rw[ag h8];rfl⟩
def ail(ws:List Wr)(w:Wr):Dz (ws++[w])=Dz ws++Ld w:=by simp[Dz]
def G8{n:Nat}(h:n<18446744073709551616):(Am n).length<=9:=by rw[Eg];exact aew h
def am8{ws:List Wr}(h:∀w∈ws,wOk w=true):(Dz ws).length<=307*ws.length:=by
 induction ws with
 |nil=>simp[Dz]
 |cons w r ih=>
  have h1:=ih (λx hx=>h x (gy _ hx));obtain⟨⟨_,h2⟩,h3⟩:=Us (h w (ji ..));have e1:=G8 (n:=w.key.length) (by omega);have e2:=G8 (n:=w.val.length) (by omega);have:Dz (w::r)=Ld w++Dz r:=rfl;rw[this];simp only[Ld,Au,D7,af,bg,o9];omega
def aqo{e:En}(h:Eo e=true)(hr:RgE e):(Iu e).length<=16000:=by
 obtain⟨⟨hk1,hk9⟩,_,⟨hs1,hs2,hs3⟩,hk⟩:=G5 h;obtain⟨hw1,hw2,_⟩:=Qx h;have hw:=am8 hw1;have hc:=hr.c;have hn:=hr.n;have hp:=hr.pt;obtain⟨s1,s2⟩:=F7.1 hs1;obtain⟨s3,s4⟩:=F7.1 hs2;obtain⟨s5,s6⟩:=F7.1 hs3;have b0:=G8 (n:=e.k.toNat) (by omega);have b1:(Xu e).length<=18:=by
  have:=G8 (n:=e.c) (by omega);have:=G8 (n:=e.n) (by omega);unfold Xu;split
  .rw[af];omega
  .simp
 have b2:(V5 e).length<=18:=by
  have:=G8 (n:=e.sp) (by omega);have:=G8 (n:=e.sl) (by omega);unfold V5 A7;split
  .rw[af];omega
  .simp
 have b3:(Sr e).length<=68:=by
  have:=G8 (n:=e.ap) (by omega);have:=G8 (n:=e.al) (by omega);have:=G8 (n:=e.mp) (by omega);have:=G8 (n:=e.ml) (by omega);have:=G8 (n:=e.ws.length) (by omega);unfold Sr A7 Au;split
  .rename_i h2;unfold kindOk at hk;rw[ah h2]at hk;simp only[cu,Yx]at hk;have:=G8 (n:=e.prim.length) (by omega);simp only[af];omega
  .split
   .rw[af];omega
   .simp
 have b4:(Wv e).length<=9:=by
  have:=G8 (n:=e.pt) (by omega);unfold Wv;split
  .omega
  .simp
 have b5:(Xo e).length<=1:=by unfold Xo D7;split<;>simp
 unfold Iu;simp only[af];omega
open Go.RowKit
def Af{w:World}{b j:Nat}{cs:Array Value}{ty:TypeId}(u:Value)(h:w.heap[b]?=some (.cells cs ty (0,0))):(w.setCell ⟨b,j,none⟩ u).heap[b]?=some (.cells (cs.setIfInBounds j u) ty (0,0)):=by show(w.heap.modify b _)[b]?=_;rw[qg,ah rfl,h];rfl
def Aa{w:World}{b j:Nat}{cs:Array Value}{ty:TypeId}{u:Value}(h:w.heap[b]?=some (.cells cs ty (0,0)))(hj:cs[j]?=some u):w.cell? ⟨b,j,none⟩=some u:=by unfold World.cell?;rw[h];exact hj
def Ad{w:World}{b:Nat}{cs:Array Value}{ty:TypeId}(h:w.heap[b]?=some (.cells cs ty (0,0)))(j:Nat):w.frozen? ⟨b,j,none⟩=false:=by unfold World.frozen?;rw[h];simp
def Ai(w:World)(b j:Nat)(u:Value):Kept (λc=>c=b) w (w.setCell ⟨b,j,none⟩ u):=by have hb:Below b w (w.setCell ⟨b,j,none⟩ u):=(aj b w).setCell (p:=⟨b,j,none⟩) (ai b) u;exact⟨hb.os,hb.tape,hb.output,hb.size,λk _ hF=>jl w ⟨b,j,none⟩ u k hF⟩
def Ip(base e size:Nat)(w:World):w.ownsRow base e size sy 0 []:=qi w base e size
def Lt(w:World)(o:Obj):(w.alloc o).heap.size=w.heap.size+1:=by simp
def Dj{a b:Bool}(h:a=b):Ending.returned (.bool a)=.returned (.bool b):=by rw[h]
def Ag(p l:Int):Bool:=decide (p<=281474976710656/\l<=4095)
def wrc(x:Wr):List Value:=[sd x.key,sd x.val,.bool x.dead]
def Rx(x:Wr):(wrc x).length=3:=rfl
def ar7:∀x,∀u∈wrc x,u.oneCell'=true:=λx u hu=>by simp only[wrc,au,List.not_mem_nil,or_false]at hu;rcases hu with rfl|rfl|rfl<;>rfl
def dw:Wr:=⟨[],[],false⟩
structure WtAt(w:World)(b off:Nat)(x:Wr):Prop where
 c0:w.cell? ⟨b,off,none⟩=some (sd x.key)
 c1:w.cell? ⟨b,off+1,none⟩=some (sd x.val)
 c2:w.cell? ⟨b,off+2,none⟩=some (.bool x.dead)
def WsAt(B:Nat)(v:Value)(L:List Wr)(w:World):Prop:=RwAt B 3 v L.length (rowC wrc L) w
def WsAt.el{B:Nat}{ao:Option Addr}{cap:Nat}{L:List Wr}{w:World}(h:WsAt B (.slice ao L.length cap) L w){i:Nat}(hi:i<L.length):∃b off,ao=some ⟨b,off,none⟩/\WtAt w b (off+i*3) (L.getD i dw):=by obtain⟨b,off,e,hc⟩:=O6 Rx dw (by omega) rfl h hi;exact⟨b,off,e,hc 0 _ (by omega) rfl,hc 1 _ (by omega) rfl,hc 2 _ (by omega) rfl⟩
def WsAt.shape{B:Nat}{v:Value}{L:List Wr}{w:World}(h:WsAt B v L w):∃ao cap,v=.slice ao L.length cap/\L.length<=cap/\cap<=9223372036854775807:=by obtain⟨ao,cap,e,_,h1,h2,_⟩:=h;exact⟨ao,cap,e,h1,h2⟩
def WsAt.on{B:Nat}{v:Value}{L:List Wr}{w w':World}(h:WsAt B v L w)(hb:Below B w w'):WsAt B v L w':=RwAt.on h hb
def RtN(L:List Wr)(m:Nat):Prop:=(∀i,i<m->wOk (L.getD i dw)=true)/\∀i j,i<j->j<m->(L.getD i dw).key≠(L.getD j dw).key
def Tc{L:List Wr}{i:Nat}(h:i<L.length):L.getD i dw∈L:=by rw[List.getD,bf h];exact rq h
def Wp{L:List Wr}{m:Nat}(h:m<L.length)(hw:wOk (L.getD m dw)=false):Bf L=false:=by
 exact bc7
def Nu{L:List Wr}:(L.map (·.key)).Nodup↔∀i j,i<j->j<L.length->(L.getD i dw).key≠(L.getD j dw).key:=by
 exact ba8
def Qy{L:List Wr}{k m:Nat}(hk:k<m)(h:m<L.length)(he:(L.getD k dw).key=(L.getD m dw).key):Bf L=false:=by
 exact bc4
def Wn{L:List Wr}(h:RtN L L.length):Bf L=(decide (1<=L.length)&&decide (L.length<=16)):=by
 exact bab
def RtN.next{L:List Wr}{m:Nat}(h:RtN L m)(hw:wOk (L.getD m dw)=true)(hk:∀i,i<m->(L.getD i dw).key≠(L.getD m dw).key):RtN L (m+1):=by
 exact bap
open Go.RowKit Go.Shelf
def Jb(p l:Int)(w:World):
  cpr 109 #[.agg #[uw p,ui l]] w λe w'=>e=.returned (.bool (Ag p l))/\Bw w w':=by
 exact axh
def aj2(k:Bi)(w:World):cpr 110 #[sd k] w λe w'=>e=.returned (.bool (kOk k))/\w'=w:=by
 have hs:=Bq k;by_cases h1:1<=k.length
 .by_cases h2:k.length<=32
  .have hk:kOk k=true:=by simp[kOk,h1,h2]
   rw[hk];have h1':(1:Int)<=k.length:=by omega
   have h2':(k.length:Int)<=32:=by omega
   clear hk;exact arx
  .have hk:kOk k=false:=by simp[kOk,h2]
   rw[hk];have h1':(1:Int)<=k.length:=by omega
   have h2':¬(k.length:Int)<=32:=by omega
   clear hk;exact arx
 .have hk:kOk k=false:=by simp[kOk,h1]
  rw[hk];have h1':¬(1:Int)<=k.length:=by omega
  clear hk;exact arx
def ada(x:Wr)(w:World):cpr 173 #[.agg #[sd x.key,sd x.val,.bool x.dead]] w λe w'=>e=.returned (.bool (wOk x))/\Bw w w':=by
 exact aob
def ag0(x:Wr)(bp:Nat)(k:Bi)(w:World)(h:w.cell? ⟨bp,0,none⟩=some (sd k)):cpr 174 #[.agg #[sd x.key,sd x.val,.bool x.dead],pz bp] w λe w'=>e=.returned (.bool (x.key==k))/\Bw w w':=by
 exact ax3
def aa1{L:List Wr}{P:Wr->Bool}{m:Nat}(h:m<L.length):(L.drop m).any P=(P (L.getD m dw)||(L.drop (m+1)).any P):=by rw[ng h,List.any_cons,List.getD,bf h];rfl
def ad1(f:Nat)(cf:Array Value)(P:Wr->Bool)(L:List Wr)(v:Value)(w:World)(hL:WsAt w.heap.size v L w)(ef:∀args w,(callFunc f args).run Tryz.prog w=.ok (.enter f args) w)
  (HF:Hid (∀(x:Wr) W,Bw w W->cpr f (#[.agg #[sd x.key,sd x.val,.bool x.dead]]++cf) W λe w'=>e=.returned (.bool (P x))/\Bw W w')):
  cpr 175 #[v,.func (.func f) #[] cf] w λe w'=>∃i:Int,e=.returned (iw i)/\decide (0<=i)=L.any P/\Bw w w':=by
 have HL:Hid (WsAt w.heap.size v L w):=hL;obtain⟨ao,cap,rfl,hlc,hcm⟩:=hL.shape;have hL9:L.length<9223372036854775808:=by omega
 have H0:Hid ((L.drop 0).any P=L.any P):=by show _=_;rw[qx]
 have HE:Hid (∀W,Bw w W->∀i,i<L.length->∃b off,ao=some ⟨b,off,none⟩/\WtAt W b (off+i*3) (L.getD i dw)):=λW hW i hi=>(HL.out.on hW).el hi;obtain⟨y,hy⟩:=xj (L.any P);rw[hy]at H0|-;clear hL hlc hcm HL hy;go_enter Tryz.func175,Tryz.ntmps175;go_wp2_with fail;go_loopw [8] (λi wr=>Bw w wr/\∃m:Nat,m<=L.length/\i=iw m/\(L.drop m).any P=y) (λi _=>L.length-(intOf i).toNat)
 case atStart=>exact⟨aj _ _,0,eu _,rfl,H0.out⟩
 case round=>
  exact aor
def aee(f:Nat)(cf:Array Value)(P:Wr->Bool)(L:List Wr)(v:Value)(w:World)(hL:WsAt w.heap.size v L w)(ef:∀args w,(callFunc f args).run Tryz.prog w=.ok (.enter f args) w)
  (HF:Hid (∀(x:Wr) W,Bw w W->cpr f (#[.agg #[sd x.key,sd x.val,.bool x.dead]]++cf) W λe w'=>e=.returned (.bool (P x))/\Bw W w')):
  cpr 112 #[v,.func (.func f) #[] cf] w λe w'=>e=.returned (.bool (L.any P))/\Bw w w':=by
 exact az7
def aa2{L:List Wr}{k:Bi}{m:Nat}(hm:m<=L.length):((L.take m).any λa=>a.key==k)=true↔∃i,i<m/\(L.getD i dw).key=k:=by
 exact azr
def WsAt.tk{B:Nat}{ao:Option Addr}{cap:Nat}{L:List Wr}{w:World}(h:WsAt B (.slice ao L.length cap) L w){m:Nat}(hm:m<=L.length):WsAt B (.slice ao m cap) (L.take m) w:=by have:=RwAt.take h hm;rw[Wl Rx]at this;unfold WsAt;rw[ig,yj hm];exact this
def aq1:∀args w,(callFunc 174 args).run Tryz.prog w=.ok (.enter 174 args) w:=enters_of Tryz.func174 (by kernel_rfl) rfl
def Sm(B:Nat)(L:List Wr)(v:Value)(w:World)(h:WsAt B v L w)(hB:B<=w.heap.size):
  cpr 108 #[v] w λe w'=>e=.returned (.bool (Bf L))/\Bw w w':=by
 obtain⟨ao,cap,rfl,hlc,hcm⟩:=h.shape;have HW:Hid (∀W,Bw w W->WsAt w.heap.size (.slice ao L.length cap) L W):=λW hW=>RwAt.le (h.on (hW.mono hB)) hB;have HE:Hid (∀W,Bw w W->∀i,i<L.length->∃b off,ao=some ⟨b,off,none⟩/\WtAt W b (off+i*3) (L.getD i dw)):=λW hW i hi=>(HW.out W hW).el hi;have HBad:Hid (∀m,m<L.length->wOk (L.getD m dw)=false->Bf L=false):=λm hm hw=>Wp hm hw;have HTw:Hid (∀k m,k<m->m<L.length->(L.getD k dw).key=(L.getD m dw).key->Bf L=false):=λk m hk hm he=>Qy hk hm he;have HEnd:Hid (RtN L L.length->Bf L=(decide (1<=L.length)&&decide (L.length<=16))):=Wn;have HSz:Hid (¬(1<=L.length/\L.length<=16)->Bf L=false):=λhn=>by
  exact bca
 exact zl
def P5(a b:Nat):((a:Int)==(b:Int))=(a==b):=by rw[yh];simp only[uq];omega
def ak8(p l q m:Nat)(w:World):(binOp .eql 36 (.agg #[ui p,ui l]) (.agg #[ui q,ui m])).run Tryz.prog w=.ok (.bool (p==q&&l==m)) w:=by rw[<-P5 p q,<-P5 l m];generalize (p:Int)=p;generalize (l:Int)=l;generalize (q:Int)=q;generalize (m:Int)=m;by_cases h:p=q<;>by_cases h2:l=m<;>simp[go_sem,h,h2]
def Sl(p l q m:Nat)(w:World):(binOp .eql 38 (.agg #[uw p,ui l]) (.agg #[uw q,ui m])).run Tryz.prog w=.ok (.bool (p==q&&l==m)) w:=by rw[<-P5 p q,<-P5 l m];generalize (p:Int)=p;generalize (l:Int)=l;generalize (q:Int)=q;generalize (m:Int)=m;by_cases h:p=q<;>by_cases h2:l=m<;>simp[go_sem,h,h2]
open Go.RowKit Go.Sort
def ag2(p l:Nat)(w:World):(binOp .eql 38 (.agg #[uw p,ui l]) (.agg #[uw 0,ui 0])).run Tryz.prog w=.ok (.bool (p==0&&l==0)) w:=Sl p l 0 0 w
def Zq(p l:Nat):Ag (p:Int) (l:Int)=Ec p l:=by unfold Ag Ec;rw[yh];simp only[jc,cu];omega
structure Eb(w:World)(b:Nat)(e:En)(ao:Option Addr)(cp:Nat)(W:World):Prop where
 bel:Bw w W
 x:W.heap[b]?=some (.cells #[iw e.k,ui e.c,ui e.n,uw e.sp,ui e.sl,uw e.ap,ui e.al,uw e.mp,ui e.ml,sd e.prim,ub e.pt,.bool e.dn,.slice ao e.ws.length cp] 92 (0,0))
 ws:WsAt w.heap.size (.slice ao e.ws.length cp) e.ws W
def Eb.on{w W W':World}{b:Nat}{e:En}{ao:Option Addr}{cp:Nat}(h:Eb w b e ao cp W)(hb:Bw W W'):Eb w b e ao cp W':=
 ⟨h.bel.trans (hb.mono h.bel.size),by rw[hb.block _ (gsz h.x)];exact h.x,h.ws.on (hb.mono h.bel.size)⟩
def Eb.wsx{w W:World}{b:Nat}{e:En}{ao:Option Addr}{cp:Nat}(h:Eb w b e ao cp W):WsAt W.heap.size (.slice ao e.ws.length cp) e.ws W:=RwAt.le h.ws h.bel.size
def Qh{w:World}{e:En}{ao:Option Addr}{cp:Nat}(h:WsAt w.heap.size (.slice ao e.ws.length cp) e.ws w):Eb w w.heap.size e ao cp (w.alloc (.cells #[iw e.k,ui e.c,ui e.n,uw e.sp,ui e.sl,uw e.ap,ui e.al,uw e.mp,ui e.ml,sd e.prim,ub e.pt,.bool e.dn,.slice ao e.ws.length cp] 92)):=⟨al _,ae w _,h.on (al _)⟩
def ag6{e:En}(h:¬(1<=e.k/\e.k<=9)):Eo e=false:=by
 unfold Eo;by_cases h1:1<=e.k
 .have:¬e.k<=9:=λh2=>h ⟨h1,h2⟩;simp[this]
 .simp[h1]
def anq{s:Bi}(h:s.length<=1000):(Au s).length<=1009:=by have:=G8 (n:=s.length) (by omega);unfold Au;rw[af];omega
def aqx(b:Bool):(D7 b).length=1:=rfl
structure Wk(c n sp sq ap aq mp mq:Nat)(prim:Bi)(pt:Nat)(ws:List Wr):Prop where
 c:c<4294967296
 n:n<4294967296
 sp:sp<=281474976710656
 sq:sq<=4095
 ap:ap<=281474976710656
 aq:aq<=4095
 mp:mp<=281474976710656
 mq:mq<=4095
 prim:prim.length<=1000
 pt:pt<256
 len:ws.length<=16
 ws:∀w∈ws,wOk w=true
def ani{n:Nat}(h:n<9223372036854775808):IntKind.u64.wrap (n:Int)=n:=by simp[IntKind.wrap,IntKind.signed,IntKind.bits];omega
def Yn{p q:Nat}(hp:p<=281474976710656)(hq:q<=4095):(A7 p q).length<=18:=by have:=G8 (n:=p) (by omega);have:=G8 (n:=q) (by omega);unfold A7;rw[af];omega
def akv{ws:List Wr}{m:Nat}(h:m<ws.length):Dz (ws.take (m+1))=Dz (ws.take m)++Ld (ws.getD m dw):=by rw[jk h,ail,show ws.getD m dw=ws[m]from by simp[List.getD,h]]
def awm{e:En}(h:Eo e=true)(hr:RgE e):Wk e.c e.n e.sp e.sl e.ap e.al e.mp e.ml e.prim e.pt e.ws:=by
 obtain⟨⟨hk1,hk9⟩,hb,⟨hs1,hs2,hs3⟩,hk⟩:=G5 h;obtain⟨hw1,hw2,_⟩:=Qx h;have hp:e.prim.length<=1000:=by
  by_cases h2:e.k=2
  .unfold kindOk at hk;rw[ah h2]at hk;simp only[cu,Yx]at hk;omega
  .have:e.prim=[]:=by have:=iq En.prim hb;rw[Js]at this;simpa[h2]using this
   rw[this];simp
 exact⟨hr.c,hr.n,(F7.1 hs1).1,(F7.1 hs1).2,(F7.1 hs2).1,(F7.1 hs2).2,(F7.1 hs3).1,(F7.1 hs3).2,hp,hr.pt,hw2,hw1⟩
theorem _root_.Go.Proofs.YtnfpfbehebcdpaaGreat.Ff.kept{rb:Nat}{w w':World}(h:Ff rb w w'):Kept (λc=>c=rb) w w':=⟨h.os,h.tape,h.output,h.size,λk hk hn=>h.block k hk hn⟩
structure Rz(T B:Nat)(w:World)(bx br be:Nat)(cs:Array Value)(v:Value)(ws:List Wr)(st:St)(W:World):Prop where
 bel:Bw w W
 x:W.heap[bx]?=some (.cells #[iw 0,ui 0,ui 0,uw 0,ui 0,uw 0,ui 0,uw 0,ui 0,su,ub 0,.bool false,sy] 92 (0,0))
 r:RdAt T br st W
 y:W.heap[be]?=some (.cells cs 92 (0,0))
 own:W.ownsRow B 106 3 v ws.length (rowC wrc ws)
 lx:w.heap.size<=bx
 lr:w.heap.size<=br
 le:w.heap.size<=be
 xb:bx<B
 rb:br<B
 eb:be<B
 nxr:bx≠br
 nxe:bx≠be
 nre:br≠be
 big:B<=W.heap.size
 len:st.l.length<4611686018427387904
variable {T B:Nat}{w W W':World}{bx br be:Nat}{cs:Array Value}{v:Value}{ws:List Wr}{st:St}
def Rz.ob(h:Rz T B w bx br be cs v ws st W):∀k,v.ownBlock=some k->B<=k/\k<W.heap.size:=λk hk=>jm h.own k hk
def Rz.on(h:Rz T B w bx br be cs v ws st W)(hb:Bw W W'):Rz T B w bx br be cs v ws st W':=
 ⟨h.bel.trans (hb.mono h.bel.size),by rw[hb.block _ (gsz h.x)];exact h.x,h.r.on hb,by rw[hb.block _ (gsz h.y)];exact h.y,Jy h.own hb,h.lx,h.lr,h.le,h.xb,h.rb,h.eb,h.nxr,h.nxe,h.nre,ak h.big hb.size,h.len⟩
def Rz.rd(h:Rz T B w bx br be cs v ws st W){st':St}(hr:RdAt T br st' W')(hs:Ff br W W')(hl:st'.l.length<=st.l.length):Rz T B w bx br be cs v ws st' W':=by
 have hk:=hs.kept;have h1:=h.rb;have h4:=h.len;have h5:=h.lr;refine⟨?_,?_,hr,?_,Gt h.own hk (λk hk hf=>by have:=h.ob k hk;omega),h.lx,h.lr,h.le,h.xb,h.rb,h.eb,h.nxr,h.nxe,h.nre,ak h.big hk.size,by omega⟩
 .exact h.bel.trans (hk.below h.bel.size (λk hf=>by subst hf;exact h5))
 .rw[hk.block bx (gsz h.x) h.nxr];exact h.x
 .rw[hk.block be (gsz h.y) (Ne.symm h.nre)];exact h.y
def Rz.put(h:Rz T B w bx br be cs v ws st W)(j:Nat)(u:Value):Rz T B w bx br be (cs.setIfInBounds j u) v ws st (W.setCell ⟨be,j,none⟩ u):=by
 have hk:=Ai W be j u;have h1:=h.eb;have h5:=h.le;refine⟨h.bel.trans (hk.below h.bel.size (λk hf=>by subst hf;exact h5)),?_,?_,Af _ h.y,Gt h.own hk (λk hk hf=>by have:=h.ob k hk;omega),h.lx,h.lr,h.le,h.xb,h.rb,h.eb,h.nxr,h.nxe,h.nre,ak h.big hk.size,h.len⟩
 .rw[hk.block bx (gsz h.x) h.nxe];exact h.x
 .show _=_;rw[hk.block br (gsz h.r) h.nre];exact h.r
structure Rb(T B:Nat)(w:World)(bx br be bw:Nat)(cs:Array Value)(v:Value)(ws:List Wr)(st:St)(x:Wr)(W:World):Prop where
 z:Rz T B w bx br be cs v ws st W
 b:W.heap[bw]?=some (.cells #[sd x.key,sd x.val,.bool x.dead] 106 (0,0))
 lb:B<=bw
 nb:∀k,v.ownBlock=some k->k<bw
variable {bw:Nat}{x:Wr}
def Rz.box(h:Rz T B w bx br be cs v ws st W)(x:Wr):Rb T B w bx br be W.heap.size cs v ws st x (W.alloc (.cells #[sd x.key,sd x.val,.bool x.dead] 106)):=
 ⟨h.on (al _),ae W _,h.big,λk hk=>(h.ob k hk).2⟩
def Rb.rd(h:Rb T B w bx br be bw cs v ws st x W){st':St}(hr:RdAt T br st' W')(hs:Ff br W W')(hl:st'.l.length<=st.l.length):Rb T B w bx br be bw cs v ws st' x W':=by have h1:=h.lb;have h2:=h.z.rb;exact⟨h.z.rd hr hs hl,by rw[hs.block bw (gsz h.b) (by omega)];exact h.b,h.lb,h.nb⟩
def Rb.set(h:Rb T B w bx br be bw cs v ws st x W)(j:Nat)(u:Value)(y:Wr)(hy:(#[Value.string (bs x.key),sd x.val,.bool x.dead]:Array Value).setIfInBounds j u=#[sd y.key,sd y.val,.bool y.dead]):Rb T B w bx br be bw cs v ws st y (W.setCell ⟨bw,j,none⟩ u):=by
 have hk:=Ai W bw j u;have h0:=h.lb;have h1:=h.z.xb;have h2:=h.z.rb;have h3:=h.z.eb;have h4:=h.z.lx;refine⟨⟨h.z.bel.trans (hk.below h.z.bel.size (λk hf=>by subst hf;omega)),?_,?_,?_,Gt h.z.own hk (λk hk hf=>by have:=h.nb k hk;omega),h.z.lx,h.z.lr,h.z.le,h.z.xb,h.z.rb,h.z.eb,h.z.nxr,h.z.nxe,h.z.nre,ak h.z.big hk.size,h.z.len⟩,?_,h.lb,h.nb⟩
 .rw[hk.block bx (gsz h.z.x) (by omega)];exact h.z.x
 .show _=_;rw[hk.block br (gsz h.z.r) (by omega)];exact h.z.r
 .rw[hk.block be (gsz h.z.y) (by omega)];exact h.z.y
 .rw[<-hy];exact Af _ h.b
def rz_mk(hb:Bw w W)(hx:W.heap[bx]?=some (.cells #[iw 0,ui 0,ui 0,uw 0,ui 0,uw 0,ui 0,uw 0,ui 0,su,ub 0,.bool false,sy] 92 (0,0)))(hr:RdAt T br st W)(lx:w.heap.size<=bx)(xr:bx<br)(hl:st.l.length<4611686018427387904)(cs:Array Value):Rz T (W.heap.size+1) w bx br W.heap.size cs sy [] st (W.alloc (.cells cs 92)):=by have h1:=(gsz hx);have h2:=(gsz hr);have h3:=hb.size;exact⟨hb.alloc hb.size _,by rw[(al (W:=W) _).block _ h1];exact hx,hr.alloc _,ae W _,Ip _ _ _ _,lx,by omega,h3,by omega,by omega,by omega,by omega,by omega,by omega,by rw[Lt];exact ai _,hl⟩
def ay3:(Tryz.prog.info? 106).map (λi=>(i.zero,i.size,i.bytes))=some (some (.agg #[su,su,.bool false]),3,40):=by kernel_rfl
def wr_ow{base n:Nat}{va:Value}{l:List Wr}{w:World}(x:Wr)(ho:w.ownsRow base 106 3 va n (rowC wrc l))(hb:base<=w.heap.size)(hl:n<1000000):
  Ow base 106 3 va n (rowC wrc l) (w.heap.size+1) (.slice (some ⟨w.heap.size,0,none⟩) 1 1) 1 (rowC wrc [x]) (w.alloc (.cells #[sd x.key,sd x.val,.bool x.dead] 106)):=
 ⟨o6 ho _,row_one wrc 3 Rx x 106 w (λj u hj=>Aa (ae w _) (by simpa using hj)),O7 wrc ar7 _,ak hb (by simp),by omega⟩
def abp(a b:Int)(st:St):(Cf a b st).2.l.length<=st.l.length:=by
 have h1:=Gs 18446744073709551615 st;unfold Cf;split
 .exact h1.2.1
 .split
  .simp
  .split
   .simp
   .simp only[jr];omega
def alc(st:St):(Ig st).2.l.length<=st.l.length:=by
 unfold Ig;split
 .exact ai _
 .split
  .simp
  .rename_i h;rw[h];split<;>simp
def u32w{n:Nat}(h:n<=4294967295):IntKind.u32.wrap (n:Int)=n:=by simp[IntKind.wrap,IntKind.signed,IntKind.bits];omega
def u8w{n:Nat}(h:n<=255):IntKind.u8.wrap (n:Int)=n:=by simp[IntKind.wrap,IntKind.signed,IntKind.bits];omega
structure EnOk(e:En):Prop where
 rg:RgE e
 k: -9223372036854775808<=e.k/\e.k<=9223372036854775807
 sp:e.sp<18446744073709551616/\e.sl<4294967296
 ap:e.ap<18446744073709551616/\e.al<4294967296
 mp:e.mp<18446744073709551616/\e.ml<4294967296
 prim:e.prim.length<=140737488351232
 wl:e.ws.length<=140737488351232
 ws:∀w∈e.ws,w.key.length<=140737488351232/\w.val.length<=140737488351232
structure Ife:Prop where
 wr:∀(e:En) (ao:Option Addr) (cp:Nat) (w:World),EnOk e->e.ws.length<=100->WsAt w.heap.size (.slice ao e.ws.length cp) e.ws w->cpr 30 #[.agg #[iw e.k,ui e.c,ui e.n,uw e.sp,ui e.sl,uw e.ap,ui e.al,uw e.mp,ui e.ml,sd e.prim,ub e.pt,.bool e.dn,.slice ao e.ws.length cp]] w λr w'=>r=.returned (.tuple #[.string (bs (Bj e).1),iw (Bj e).2])/\Bw w w'
 rd:∀(e:En) (w:World),Eo e=true->EnOk e->cpr 23 #[sd (Iu e)] w λr w'=>Bw w w'/\∃ao cp,r=.returned (.tuple #[.agg #[iw e.k,ui e.c,ui e.n,uw e.sp,ui e.sl,uw e.ap,ui e.al,uw e.mp,ui e.ml,sd e.prim,ub e.pt,.bool e.dn,.slice ao e.ws.length cp],iw 0])/\WsAt w'.heap.size (.slice ao e.ws.length cp) e.ws w'/\∃B,w.heap.size<=B/\w'.ownsRow B 106 3 (.slice ao e.ws.length cp) e.ws.length (rowC wrc e.ws)
