import Derived.Deep.Trees
import Derived.WideKeyRuns
import Derived.Test.YtnfpfbehebcdpaaGreatUac
set_option maxHeartbeats 0
set_option maxRecDepth 99999
set_option linter.all false
namespace Go.Proofs.YtnfpfbehebcdpaaGreat.Lat
structure Ii where
 c:Int
 n:Int
 sp:Int
 sl:Int
 mp:Int
 ml:Int
 prim:Bi
 val:Bi
 dead:Bool
abbrev Tb:=Kv Ii
def ofBy(c n:Int)(x:Ii):Bool:=x.c==c&&x.n==n
def byF(c n:Int)(T:Tb):Tb:=T.filter λx=>ofBy c n x.2
def Ee(c n:Int)(T:Tb):Tb:=T.filter λx=> !ofBy c n x.2
def mkI(c n sp sl mp ml:Int)(prim:Bi)(w:Wr):Ii:=⟨c,n,sp,sl,mp,ml,prim,w.val,w.dead⟩
def Gj(f:Wr->Ii):List Wr->Tb->Tb
 |[],T=>T
 |w::l,T=>Gj f l (setF w.key (f w) T)
def ltT(a b c d:Int):Bool:=decide (a<c)||decide (a=c)&&decide (b<d)
def Hg(c n mp ml:Int)(x:Ii):Ii:=if ofBy c n x&&ltT x.mp x.ml mp ml then{x with mp:=mp,ml:=ml}else x
def Jv(c n mp ml:Int)(T:Tb):Tb:=T.map λx=>(x.1,Hg c n mp ml x.2)
def aiz(lo hi:Bi)(ap al:Int)(but:List (Int×Int))(x:Bi×Ii):Bool:=inR lo hi x.1&& !ltT ap al x.2.mp x.2.ml&& !but.contains (x.2.c,x.2.n)
def Oj(lo hi:Bi)(ap al:Int)(but:List (Int×Int))(T:Tb):Option (Bi×Ii):=T.find? (aiz lo hi ap al but)
section
variable {α:Type}
def Gf{L:Kv α}(h:Srt L)(p:Bi×α->Bool):Srt (L.filter p):=List.Pairwise.sublist List.filter_sublist h
def aui{β:Type}{L:Kv α}(h:Srt L)(f:Bi×α->β):Srt (L.map λx=>(x.1,f x)):=by
 induction L with
 |nil=>exact tq
 |cons a L ih=>
  obtain⟨h1,h2⟩:=dh.1 h;refine dh.2 ⟨λx hx=>?_,ih h2⟩;obtain⟨y,hy,rfl⟩:=je.1 hx;exact h1 y hy
def Hw{L:Kv α}(h:Srt L)(p:Bi×α->Bool)(k:Bi)(v:α):getF k (L.filter p)=some v↔getF k L=some v/\p (k,v)=true:=by rw[Dy (Gf h p),Dy h,jh]
def akd{β:Type}(f:Bi×α->β)(k:Bi):∀(L:Kv α),getF k (L.map λx=>(x.1,f x))=(getF k L).map λv=>f (k,v)
 |[]=>rfl
 |(a,v)::L=>by
  simp only[jd];unfold getF;by_cases e:(a==k)=true
  .rw[ah e,ah e];have:a=k:=by simpa using e
   subst this;rfl
  .rw[ag e,ag e];exact akd f k L
def aav{k:Bi}{v:α}(p:Bi×α->Bool):∀{L:Kv α},getF k L=none->((setF k v L).filter p).length=(L.filter p).length+(if p (k,v)then 1 else 0)
 |[],_=>by unfold setF;by_cases e:p (k,v)=true<;>simp[e]
 |(a,u)::L,h=>by
  unfold getF at h;by_cases e:(a==k)=true
  .rw[ah e]at h;cases h
  .rw[ag e]at h;unfold setF;by_cases h1:ltK a k=true
   .rw[ah h1];have ih:=aav (v:=v) p h;by_cases h2:p (a,u)=true
    .rw[List.filter_cons_of_pos h2,List.filter_cons_of_pos h2,bg,bg,ih];omega
    .rw[List.filter_cons_of_neg h2,List.filter_cons_of_neg h2,ih]
   .rw[ag h1,ag e];by_cases h2:p (k,v)=true
    .rw[List.filter_cons_of_pos h2,ah h2];rfl
    .rw[List.filter_cons_of_neg h2,ag h2];rfl
def afd(p:Bi×α->Bool):∀(L:Kv α),(L.filter p).length+(L.filter λx=> !p x).length=L.length
 |[]=>rfl
 |a::L=>by have ih:=afd p L;cases h:p a<;>simp[h]<;>omega
end
def aaj{f:Wr->Ii}:∀{l:List Wr} {T:Tb},Srt T->Srt (Gj f l T)
 |[],_,h=>h
 |w::l,T,h=>by unfold Gj;exact aaj (Es h)
def Qa{f:Wr->Ii}{k:Bi}:∀{l:List Wr} {T:Tb},Srt T->(∀w∈l,w.key≠k)->getF k (Gj f l T)=getF k T
 |[],_,_,_=>rfl
 |w::l,T,h,hk=>by unfold Gj;rw[Qa (Es h) (λx hx=>hk x (gy _ hx)),Qc h,ag];simpa using hk w (ji ..)
def aak{f:Wr->Ii}:∀{l:List Wr} {T:Tb},Srt T->(l.map (·.key)).Nodup->∀w∈l,getF w.key (Gj f l T)=some (f w)
 |[],_,_,_,w,hw=>by cases hw
 |x::l,T,h,hn,w,hw=>by
  simp only[jd,gz]at hn;unfold Gj;rcases au.1 hw with rfl|hw
  .rw[Qa (Es h) (λy hy e=>hn.1 (je.2 ⟨y,hy,e⟩)),Qc h];simp
  .exact aak (Es h) hn.2 w hw
def NewK(l:List Wr)(T:Tb):Prop:=∀w∈l,getF w.key T=none
def als{f:Wr->Ii}{x:Wr}{l:List Wr}{T:Tb}(h:Srt T)(hn:((x::l).map (·.key)).Nodup)(hk:NewK (x::l) T):NewK l (setF x.key (f x) T):=λw hw=>by
 simp only[jd,gz]at hn;rw[Qc h,ag]
 .exact hk w (gy _ hw)
 .simp only[uq];exactλe=>hn.1 (je.2 ⟨w,hw,e.symm⟩)
def Yb{f:Wr->Ii}(p:Bi×Ii->Bool):∀{l:List Wr} {T:Tb},Srt T->(l.map (·.key)).Nodup->NewK l T->((Gj f l T).filter p).length=(T.filter p).length+(l.filter λw=>p (w.key,f w)).length
 |[],_,_,_,_=>rfl
 |x::l,T,h,hn,hk=>by
  unfold Gj;rw[Yb p (Es h) (by simp only[jd,gz]at hn;exact hn.2) (als h hn hk),aav p (hk x (ji ..))];by_cases e:p (x.key,f x)=true
  .rw[ah e,List.filter_cons_of_pos (p:=λw=>p (w.key,f w)) e,bg];omega
  .rw[ag e,List.filter_cons_of_neg (p:=λw=>p (w.key,f w)) e];omega
def ap4{f:Wr->Ii}{l:List Wr}{T:Tb}(h:Srt T)(hn:(l.map (·.key)).Nodup)(hk:NewK l T):(Gj f l T).length=T.length+l.length:=by have:=Yb (f:=f) (λ_=>true) h hn hk;rw[o5.2 (λ_ _=>rfl),o5.2 (λ_ _=>rfl),o5.2 (λ_ _=>rfl)]at this;exact this
def akk(c n:Int)(T:Tb):(byF c n T).length+(Ee c n T).length=T.length:=afd _ T
def aoq{c n mp ml c' n':Int}{x:Ii}:ofBy c' n' (Hg c n mp ml x)=ofBy c' n' x:=by unfold Hg;split<;>rfl
def ald{c n mp ml:Int}{T:Tb}(h:Srt T):Srt (Jv c n mp ml T):=aui h _
def layF(r:Bool)(c n sp sl mp ml:Int)(prim:Bi)(l:List Wr)(T:Tb):Tb×Int:=
 if Bf l&&r then(if(byF c n T).isEmpty&&l.all (λw=>(getF w.key T).isNone)then(Gj (mkI c n sp sl mp ml prim) l T,0)else(T,40))else(T,1)
def Na(r:Bool)(c n sp sl mp ml:Int)(prim:Bi)(l:List Wr)(T:Tb):
  (∃e,layF r c n sp sl mp ml prim l T=(T,e)/\(e=1\/e=40))\/(layF r c n sp sl mp ml prim l T=(Gj (mkI c n sp sl mp ml prim) l T,0)/\Bf l=true/\r=true/\byF c n T=[]/\NewK l T/\(l.map (·.key)).Nodup):=by
 unfold layF;by_cases h1:(Bf l&&r)=true
 .rw[ah h1];by_cases h2:((byF c n T).isEmpty&&l.all (λw=>(getF w.key T).isNone))=true
  .rw[ah h2];simp only[cu,xg,Option.isNone_iff_eq_none,List.isEmpty_iff]at h1 h2;refine .inr ⟨rfl,h1.1,h1.2,h2.1,h2.2,?_⟩;have:=h1.1;simp only[Bf,cu,jc]at this;exact this.1.1.2
  .rw[ag h2];exact .inl ⟨40,rfl,.inr rfl⟩
 .rw[ag h1];exact .inl ⟨1,rfl,.inl rfl⟩
def ajn{c n c' n' sp sl mp ml:Int}{prim:Bi}{w:Wr}:ofBy c' n' (mkI c n sp sl mp ml prim w)=(c==c'&&n==n'):=rfl
structure TOk(T:Tb):Prop where
 srt:Srt T
 keys:∀x∈T,kOk x.1=true
def TOk.nil:TOk []:=⟨tq,λ_ h=>by cases h⟩
def Jc{l:List Wr}(h:Bf l=true):(∀w∈l,wOk w=true)/\(l.map (·.key)).Nodup/\1<=l.length/\l.length<=16:=by simp only[Bf,cu,jc,xg]at h;exact⟨h.1.1.1,h.1.1.2,h.1.2,h.2⟩
def asa{w:Wr}(h:wOk w=true):kOk w.key=true:=by simp only[wOk,cu]at h;exact h.1.1
def ab6{f:Wr->Ii}:∀{l:List Wr} {T:Tb},(∀w∈l,kOk w.key=true)->(∀x∈T,kOk x.1=true)->∀x∈Gj f l T,kOk x.1=true
 |[],_,_,h2=>h2
 |w::l,T,h1,h2=>by
  unfold Gj;refine ab6 (λx hx=>h1 x (gy _ hx)) (λx hx=>?_);rcases F5 hx with rfl|hx
  .exact h1 w (ji ..)
  .exact h2 x hx
def TOk.rest{T:Tb}(h:TOk T)(c n:Int):TOk (Ee c n T):=⟨Gf h.srt _,λx hx=>h.keys x (jh.1 hx).1⟩
def TOk.raise{T:Tb}(h:TOk T)(c n mp ml:Int):TOk (Jv c n mp ml T):=⟨ald h.srt,λx hx=>by obtain⟨y,hy,rfl⟩:=je.1 hx;exact h.keys y hy⟩
def aul{T:Tb}(h:TOk T)(r:Bool)(c n sp sl mp ml:Int)(prim:Bi)(l:List Wr):(layF r c n sp sl mp ml prim l T).1.length<=T.length+16:=by
 rcases Na r c n sp sl mp ml prim l T with⟨e,h1,_⟩|⟨h1,hr,_,_,hk,hn⟩
 .rw[h1];simp
 .rw[h1];have:=ap4 (f:=mkI c n sp sl mp ml prim) h.srt hn hk;have:=(Jc hr).2.2.2;simp only;omega
def al1(c n mp ml:Int)(T:Tb):(Jv c n mp ml T).length=T.length:=by simp[Jv]
def aht(c n:Int)(T:Tb):(byF c n T).length<=T.length:=by have:=akk c n T;omega
def di:Bi×Ii:=([],⟨0,0,0,0,0,0,[],[],false⟩)
def Uw{T:Tb}{m:Nat}(h:m<T.length):T.take (m+1)=T.take m++[T.getD m di]:=by rw[jk h];simp[List.getD,h]
def aeu{T:Tb}{m:Nat}(h:m<T.length):T.drop m=T.getD m di::T.drop (m+1):=by rw[ng h];simp[List.getD,h]
def Xi{T:Tb}{m:Nat}(h:m<T.length):T.getD m di∈T:=by rw[List.getD,bf h];exact rq h
def aqv(p:Bi×Ii->Bool)(T:Tb)(m:Nat):Option (Bi×Ii):=(T.take m).find? p
def aqu{p:Bi×Ii->Bool}{T:Tb}{m:Nat}(h:m<T.length)(hn:aqv p T m=none)(hp:p (T.getD m di)=true):T.find? p=some (T.getD m di):=by
 have h1:T=T.take m++T.getD m di::T.drop (m+1):=by rw[<-aeu h,jg]
 rw[h1,qj];unfold aqv at hn;rw[hn];have h2:(T.take m++T.getD m di::T.drop (m+1)).getD m di=T.getD m di:=by rw[<-h1]
 simp only[Option.none_or,List.find?_cons,hp];rw[h2]
open Go.RowKit
def inc(x:Bi×Ii):List Value:=[ui x.2.c,ui x.2.n,uw x.2.sp,ui x.2.sl,uw x.2.mp,ui x.2.ml,sd x.2.prim,sd x.1,sd x.2.val,.bool x.2.dead]
def inV(x:Bi×Ii):Value:=.agg #[ui x.2.c,ui x.2.n,uw x.2.sp,ui x.2.sl,uw x.2.mp,ui x.2.ml,sd x.2.prim,sd x.1,sd x.2.val,.bool x.2.dead]
def aj9(x:Bi×Ii):(inc x).length=10:=rfl
def aux:∀x,∀u∈inc x,u.oneCell'=true:=λx u hu=>by simp only[inc,au,List.not_mem_nil,or_false]at hu;rcases hu with rfl|rfl|rfl|rfl|rfl|rfl|rfl|rfl|rfl|rfl<;>rfl
structure abe(w:World)(b off:Nat)(x:Bi×Ii):Prop where
 c0:w.cell? ⟨b,off,none⟩=some (ui x.2.c)
 c1:w.cell? ⟨b,off+1,none⟩=some (ui x.2.n)
 c2:w.cell? ⟨b,off+2,none⟩=some (uw x.2.sp)
 c3:w.cell? ⟨b,off+3,none⟩=some (ui x.2.sl)
 c4:w.cell? ⟨b,off+4,none⟩=some (uw x.2.mp)
 c5:w.cell? ⟨b,off+5,none⟩=some (ui x.2.ml)
 c6:w.cell? ⟨b,off+6,none⟩=some (sd x.2.prim)
 c7:w.cell? ⟨b,off+7,none⟩=some (sd x.1)
 c8:w.cell? ⟨b,off+8,none⟩=some (sd x.2.val)
 c9:w.cell? ⟨b,off+9,none⟩=some (.bool x.2.dead)
def abe.on{w w':World}{b off:Nat}{x:Bi×Ii}(h:abe w b off x)(hb:Bw w w'):abe w' b off x:=by have hl:b<w.heap.size:=ed _ _ h.c0;have g:∀o,w'.cell? ⟨b,o,none⟩=w.cell? ⟨b,o,none⟩:=λo=>hb.cell hl;exact⟨by rw[g];exact h.c0,by rw[g];exact h.c1,by rw[g];exact h.c2,by rw[g];exact h.c3,by rw[g];exact h.c4,by rw[g];exact h.c5,by rw[g];exact h.c6,by rw[g];exact h.c7,by rw[g];exact h.c8,by rw[g];exact h.c9⟩
def IsAt(B:Nat)(v:Value)(T:Tb)(w:World):Prop:=RwAt B 10 v T.length (rowC inc T) w
def IsAt.el{B:Nat}{ao:Option Addr}{cap:Nat}{T:Tb}{w:World}(h:IsAt B (.slice ao T.length cap) T w){i:Nat}(hi:i<T.length):∃b off,ao=some ⟨b,off,none⟩/\abe w b (off+i*10) (T.getD i di):=by obtain⟨b,off,e,hc⟩:=O6 aj9 di (by omega) rfl h hi;exact⟨b,off,e,⟨hc 0 _ (by omega) rfl,hc 1 _ (by omega) rfl,hc 2 _ (by omega) rfl,hc 3 _ (by omega) rfl,hc 4 _ (by omega) rfl,hc 5 _ (by omega) rfl,hc 6 _ (by omega) rfl,hc 7 _ (by omega) rfl,hc 8 _ (by omega) rfl,hc 9 _ (by omega) rfl⟩⟩
def IsAt.shape{B:Nat}{v:Value}{T:Tb}{w:World}(h:IsAt B v T w):∃ao cap,v=.slice ao T.length cap/\T.length<=cap/\cap<=9223372036854775807:=by obtain⟨ao,cap,e,_,h1,h2,_⟩:=h;exact⟨ao,cap,e,h1,h2⟩
def Af{w:World}{b j:Nat}{cs:Array Value}{ty:TypeId}(u:Value)(h:w.heap[b]?=some (.cells cs ty (0,0))):(w.setCell ⟨b,j,none⟩ u).heap[b]?=some (.cells (cs.setIfInBounds j u) ty (0,0)):=by show(w.heap.modify b _)[b]?=_;rw[qg,ah rfl,h];rfl
def Aa{w:World}{b j:Nat}{cs:Array Value}{ty:TypeId}{u:Value}(h:w.heap[b]?=some (.cells cs ty (0,0)))(hj:cs[j]?=some u):w.cell? ⟨b,j,none⟩=some u:=by unfold World.cell?;rw[h];exact hj
def Ad{w:World}{b:Nat}{cs:Array Value}{ty:TypeId}(h:w.heap[b]?=some (.cells cs ty (0,0)))(j:Nat):w.frozen? ⟨b,j,none⟩=false:=by unfold World.frozen?;rw[h];simp
def Ym{W:World}{b:Nat}(x:Bi×Ii)(h:W.heap[b]?=some (.cells #[ui 0,ui 0,uw 0,ui 0,uw 0,ui 0,su,su,su,.bool false] 155 (0,0))):
  abe ((((((((((W.setCell ⟨b,0,none⟩ (ui x.2.c)).setCell ⟨b,1,none⟩ (ui x.2.n)).setCell ⟨b,2,none⟩ (uw x.2.sp)).setCell ⟨b,3,none⟩ (ui x.2.sl)).setCell ⟨b,4,none⟩ (uw x.2.mp)).setCell ⟨b,5,none⟩ (ui x.2.ml)).setCell ⟨b,6,none⟩ (sd x.2.prim)).setCell ⟨b,7,none⟩ (sd x.1)).setCell ⟨b,8,none⟩ (sd x.2.val)).setCell ⟨b,9,none⟩ (.bool x.2.dead)) b 0 x:=by
 have h1:(W.setCell ⟨b,0,none⟩ (ui x.2.c)).heap[b]?=some (.cells #[ui x.2.c,ui 0,uw 0,ui 0,uw 0,ui 0,su,su,su,.bool false] 155 (0,0)):=Af _ h;generalize W.setCell ⟨b,0,none⟩ (ui x.2.c)=W1 at*;have h2:(W1.setCell ⟨b,1,none⟩ (ui x.2.n)).heap[b]?=some (.cells #[ui x.2.c,ui x.2.n,uw 0,ui 0,uw 0,ui 0,su,su,su,.bool false] 155 (0,0)):=Af _ h1;generalize W1.setCell ⟨b,1,none⟩ (ui x.2.n)=W2 at*;have h3:(W2.setCell ⟨b,2,none⟩ (uw x.2.sp)).heap[b]?=some (.cells #[ui x.2.c,ui x.2.n,uw x.2.sp,ui 0,uw 0,ui 0,su,su,su,.bool false] 155 (0,0)):=Af _ h2;generalize W2.setCell ⟨b,2,none⟩ (uw x.2.sp)=W3 at*;have h4:(W3.setCell ⟨b,3,none⟩ (ui x.2.sl)).heap[b]?=some (.cells #[ui x.2.c,ui x.2.n,uw x.2.sp,ui x.2.sl,uw 0,ui 0,su,su,su,.bool false] 155 (0,0)):=Af _ h3;generalize W3.setCell ⟨b,3,none⟩ (ui x.2.sl)=W4 at*;have h5:(W4.setCell ⟨b,4,none⟩ (uw x.2.mp)).heap[b]?=some (.cells #[ui x.2.c,ui x.2.n,uw x.2.sp,ui x.2.sl,uw x.2.mp,ui 0,su,su,su,.bool false] 155 (0,0)):=Af _ h4;generalize W4.setCell ⟨b,4,none⟩ (uw x.2.mp)=W5 at*;have h6:(W5.setCell ⟨b,5,none⟩ (ui x.2.ml)).heap[b]?=some (.cells #[ui x.2.c,ui x.2.n,uw x.2.sp,ui x.2.sl,uw x.2.mp,ui x.2.ml,su,su,su,.bool false] 155 (0,0)):=Af _ h5;generalize W5.setCell ⟨b,5,none⟩ (ui x.2.ml)=W6 at*;have h7:(W6.setCell ⟨b,6,none⟩ (sd x.2.prim)).heap[b]?=some (.cells #[ui x.2.c,ui x.2.n,uw x.2.sp,ui x.2.sl,uw x.2.mp,ui x.2.ml,sd x.2.prim,su,su,.bool false] 155 (0,0)):=Af _ h6;generalize W6.setCell ⟨b,6,none⟩ (sd x.2.prim)=W7 at*;have h8:(W7.setCell ⟨b,7,none⟩ (sd x.1)).heap[b]?=some (.cells #[ui x.2.c,ui x.2.n,uw x.2.sp,ui x.2.sl,uw x.2.mp,ui x.2.ml,sd x.2.prim,sd x.1,su,.bool false] 155 (0,0)):=Af _ h7;generalize W7.setCell ⟨b,7,none⟩ (sd x.1)=W8 at*;have h9:(W8.setCell ⟨b,8,none⟩ (sd x.2.val)).heap[b]?=some (.cells #[ui x.2.c,ui x.2.n,uw x.2.sp,ui x.2.sl,uw x.2.mp,ui x.2.ml,sd x.2.prim,sd x.1,sd x.2.val,.bool false] 155 (0,0)):=Af _ h8;generalize W8.setCell ⟨b,8,none⟩ (sd x.2.val)=W9 at*;have h10:(W9.setCell ⟨b,9,none⟩ (.bool x.2.dead)).heap[b]?=some (.cells #[ui x.2.c,ui x.2.n,uw x.2.sp,ui x.2.sl,uw x.2.mp,ui x.2.ml,sd x.2.prim,sd x.1,sd x.2.val,.bool x.2.dead] 155 (0,0)):=Af _ h9;exact⟨Aa h10 rfl,Aa h10 rfl,Aa h10 rfl,Aa h10 rfl,Aa h10 rfl,Aa h10 rfl,Aa h10 rfl,Aa h10 rfl,Aa h10 rfl,Aa h10 rfl⟩
def V4{B b:Nat}{w W:World}(x:Bi×Ii)(h:Below B w W)(hb:B<=b):Below B w ((((((((((W.setCell ⟨b,0,none⟩ (ui x.2.c)).setCell ⟨b,1,none⟩ (ui x.2.n)).setCell ⟨b,2,none⟩ (uw x.2.sp)).setCell ⟨b,3,none⟩ (ui x.2.sl)).setCell ⟨b,4,none⟩ (uw x.2.mp)).setCell ⟨b,5,none⟩ (ui x.2.ml)).setCell ⟨b,6,none⟩ (sd x.2.prim)).setCell ⟨b,7,none⟩ (sd x.1)).setCell ⟨b,8,none⟩ (sd x.2.val)).setCell ⟨b,9,none⟩ (.bool x.2.dead)):=((((((((((h.setCell (p:=⟨b,0,none⟩) hb _).setCell (p:=⟨b,1,none⟩) hb _).setCell (p:=⟨b,2,none⟩) hb _).setCell (p:=⟨b,3,none⟩) hb _).setCell (p:=⟨b,4,none⟩) hb _).setCell (p:=⟨b,5,none⟩) hb _).setCell (p:=⟨b,6,none⟩) hb _).setCell (p:=⟨b,7,none⟩) hb _).setCell (p:=⟨b,8,none⟩) hb _).setCell (p:=⟨b,9,none⟩) hb _)
def zi:Ii:=⟨0,0,0,0,0,0,[],[],false⟩
def ofV(k:Bi):Option Ii->Value
 |some x=>.tuple #[inV (k,x),.bool true]
 |none=>.tuple #[inV ([],zi),.bool false]
def Ip(base e size:Nat)(w:World):w.ownsRow base e size sy 0 []:=qi w base e size
def J4{base e size:Nat}{v:Value}{n:Nat}{cs:List Value}{a w w':World}(hb:Below base a w)(hs:base<=w.heap.size)(hI:w.ownsRow base e size v n cs)(hg:w.grownBy w' v.ownBlock):Below base a w':=
 hb.grown hg hs λk hk=>(jm hI k hk).1
def ay4:(Tryz.prog.info? 155).map (λi=>(i.zero,i.size,i.bytes))=some (some (.agg #[ui 0,ui 0,uw 0,ui 0,uw 0,ui 0,su,su,su,.bool false]),10,96):=by kernel_rfl
def Wi(p l q m:Int)(w:World):(binOp .eql 36 (.agg #[ui p,ui l]) (.agg #[ui q,ui m])).run Tryz.prog w=.ok (.bool (p==q&&l==m)) w:=by by_cases h:p=q<;>by_cases h2:l=m<;>simp[go_sem,h,h2]
def in_ow{base n:Nat}{sa:Option Addr}{sc:Nat}{l:Tb}{w:World}(x:Bi×Ii)(ho:w.ownsRow base 155 10 (.slice sa n sc) n (rowC inc l))(hb:base<=w.heap.size)(hl:n<1000000):
  Ow base 155 10 (.slice sa n sc) n (rowC inc l) (w.heap.size+1) (.slice (some ⟨w.heap.size,0,none⟩) 1 1) 1 (rowC inc [x]) (w.alloc (.cells (inc x).toArray 155)):=
 ⟨o6 ho _,row_one inc 10 aj9 x 155 w (λj u hj=>Aa (ae w _) (by simpa using hj)),O7 inc aux _,ak hb (by simp),by omega⟩
def Ai(w:World)(b j:Nat)(u:Value):Kept (λc=>c=b) w (w.setCell ⟨b,j,none⟩ u):=by have hb:Below b w (w.setCell ⟨b,j,none⟩ u):=(aj b w).setCell (p:=⟨b,j,none⟩) (ai b) u;exact⟨hb.os,hb.tape,hb.output,hb.size,λk _ hF=>jl w ⟨b,j,none⟩ u k hF⟩
def Ag(p l:Int):Bool:=decide (p<=281474976710656/\l<=4095)
def Ar(p l q m:Int):Bool:=decide (p<q\/p=q/\l<m)
def Dj{a b:Bool}(h:a=b):Ending.returned (.bool a)=.returned (.bool b):=by rw[h]
def Jb(p l:Int)(w:World):
  cpr 109 #[.agg #[uw p,ui l]] w λe w'=>e=.returned (.bool (Ag p l))/\Bw w w':=by
 exact axh
def Ya(p l q m:Int)(w:World):
  cpr 84 #[.agg #[uw p,ui l],.agg #[uw q,ui m]] w λe w'=>e=.returned (.bool (Ar p l q m))/\Bw w w':=by
 exact ato
def ajv(a b c d:Int):ltT a b c d=Ar a b c d:=by simp only[ltT,Ar];by_cases h1:a<c<;>by_cases h2:a=c<;>by_cases h3:b<d<;>simp[h1,h2,h3]
def txc(x:Int×Int):List Value:=[ui x.1,ui x.2]
def acv(x:Int×Int):(txc x).length=2:=rfl
def dtx:Int×Int:=(0,0)
def TsAt(B:Nat)(v:Value)(L:List (Int×Int))(w:World):Prop:=RwAt B 2 v L.length (rowC txc L) w
def TsAt.el{B:Nat}{ao:Option Addr}{cap:Nat}{L:List (Int×Int)}{w:World}(h:TsAt B (.slice ao L.length cap) L w){i:Nat}(hi:i<L.length):∃b off,ao=some ⟨b,off,none⟩/\ce w b (off+i*2) (ui (L.getD i dtx).1)/\ce w b (off+i*2+1) (ui (L.getD i dtx).2):=by obtain⟨b,off,e,hc⟩:=O6 acv dtx (by omega) rfl h hi;exact⟨b,off,e,hc 0 _ (by omega) rfl,hc 1 _ (by omega) rfl⟩
def TsAt.shape{B:Nat}{v:Value}{L:List (Int×Int)}{w:World}(h:TsAt B v L w):∃ao cap,v=.slice ao L.length cap/\L.length<=cap/\cap<=9223372036854775807:=by obtain⟨ao,cap,e,_,h1,h2,_⟩:=h;exact⟨ao,cap,e,h1,h2⟩
def aqg{L:List (Int×Int)}{m:Nat}{c n:Int}(h:m<L.length):(L.drop m).contains (c,n)=(((L.getD m dtx).1==c&&(L.getD m dtx).2==n)||(L.drop (m+1)).contains (c,n)):=by rw[ng h,show L.getD m dtx=L[m]from by simp[List.getD,h],List.contains_cons];congr 1;generalize L[m]=x;obtain⟨a,b⟩:=x;show((c==a)&&(n==b))=((a==c)&&(b==n));rw[show(c==a)=(a==c)from BEq.comm,show(n==b)=(b==n)from BEq.comm]
def wrc(x:Wr):List Value:=[sd x.key,sd x.val,.bool x.dead]
def Rx(x:Wr):(wrc x).length=3:=rfl
def dw:Wr:=⟨[],[],false⟩
structure Gm(w:World)(b off:Nat)(x:Wr):Prop where
 c0:ce w b off (sd x.key)
 c1:ce w b (off+1) (sd x.val)
 c2:ce w b (off+2) (.bool x.dead)
def WsAt(B:Nat)(v:Value)(L:List Wr)(w:World):Prop:=RwAt B 3 v L.length (rowC wrc L) w
def WsAt.el{B:Nat}{ao:Option Addr}{cap:Nat}{L:List Wr}{w:World}(h:WsAt B (.slice ao L.length cap) L w){i:Nat}(hi:i<L.length):∃b off,ao=some ⟨b,off,none⟩/\Gm w b (off+i*3) (L.getD i dw):=by obtain⟨b,off,e,hc⟩:=O6 Rx dw (by omega) rfl h hi;exact⟨b,off,e,hc 0 _ (by omega) rfl,hc 1 _ (by omega) rfl,hc 2 _ (by omega) rfl⟩
def WsAt.shape{B:Nat}{v:Value}{L:List Wr}{w:World}(h:WsAt B v L w):∃ao cap,v=.slice ao L.length cap/\L.length<=cap/\cap<=9223372036854775807:=by obtain⟨ao,cap,e,_,h1,h2,_⟩:=h;exact⟨ao,cap,e,h1,h2⟩
def WsAt.on{B:Nat}{v:Value}{L:List Wr}{w w':World}(h:WsAt B v L w)(hb:Below B w w'):WsAt B v L w':=RwAt.on h hb
def RtN(L:List Wr)(m:Nat):Prop:=(∀i,i<m->wOk (L.getD i dw)=true)/\∀i j,i<j->j<m->(L.getD i dw).key≠(L.getD j dw).key
def Tc{L:List Wr}{i:Nat}(h:i<L.length):L.getD i dw∈L:=by rw[List.getD,bf h];exact rq h
def Wp{L:List Wr}{m:Nat}(h:m<L.length)(hw:wOk (L.getD m dw)=false):Bf L=false:=by
 exact bc7
def Nu{L:List Wr}:(L.map (·.key)).Nodup↔∀i j,i<j->j<L.length->(L.getD i dw).key≠(L.getD j dw).key:=by
 exact ba8
def Qy{L:List Wr}{k m:Nat}(hk:k<m)(h:m<L.length)(he:(L.getD k dw).key=(L.getD m dw).key):Bf L=false:=by
 exact bc4
def Wn{L:List Wr}(h:RtN L L.length):Bf L=(decide (1<=L.length)&&decide (L.length<=16)):=by
 exact bab
def RtN.next{L:List Wr}{m:Nat}(h:RtN L m)(hw:wOk (L.getD m dw)=true)(hk:∀i,i<m->(L.getD i dw).key≠(L.getD m dw).key):RtN L (m+1):=by
 exact bap
def bl(a b:Bi):Op.bytesLess (bs a).toList (bs b).toList=ltK a b:=by rw[I9,I9];rfl
def azm{w W W':World}{bx:Nat}(e:w.heap.size=bx)(h:Below bx w W)(hb:Bw W W'):Below bx w W':=h.trans (hb.mono (e▸h.size))
def Wj(c n mp ml:Int)(T:Tb):Bool:=decide (0<(byF c n T).length)&&Ag mp ml
def rseF(c n mp ml:Int)(T:Tb):Tb:=if Wj c n mp ml T then Jv c n mp ml T else T
def aks(w:World)(a b:Obj):(((w.alloc a).alloc b).heap[w.heap.size]?=some a)/\(((w.alloc a).alloc b).heap[w.heap.size+1]?=some b)/\Bw w ((w.alloc a).alloc b):=by
 have h1:Below (w.alloc a).heap.size (w.alloc a) ((w.alloc a).alloc b):=al _;have s1:(w.alloc a).heap.size=w.heap.size+1:=by simp
 refine⟨?_,?_,?_⟩
 .rw[h1.block _ (by omega)];exact ae w a
 .rw[<-s1];exact ae (w.alloc a) b
 .exact(al a).trans (h1.mono (by omega))
def fsV:Option (Bi×Ii)->Value
 |some x=>.tuple #[inV x,.bool true]
 |none=>.tuple #[inV ([],zi),.bool false]
structure Fb(bx:Nat)(ap aq:Int)(w W:World):Prop where
 b0:W.heap[bx]?=some (.cells #[uw ap,ui aq] 38 (0,0))
 b1:W.heap[bx+1]?=some (.cells #[ui 0,ui 0,uw 0,ui 0,uw 0,ui 0,su,su,su,.bool false] 155 (0,0))
 bel:Below bx w W
def Fb.on{bx:Nat}{ap aq:Int}{w W W':World}(h:Fb bx ap aq w W)(e:w.heap.size=bx)(hb:Bw W W'):Fb bx ap aq w W':=
 ⟨by rw[hb.block bx (gsz h.b0)];exact h.b0,by rw[hb.block (bx+1) (gsz h.b1)];exact h.b1,azm e h.bel hb⟩
def Fb.two{bx:Nat}{ap aq:Int}{w W:World}(h:Fb bx ap aq w W):ce W bx 0 (uw ap)/\ce W bx 1 (ui aq):=⟨Aa h.b0 rfl,Aa h.b0 rfl⟩
def ay6(w:World)(k:Bi)(x:Ii):abe (w.alloc (.cells #[ui x.c,ui x.n,uw x.sp,ui x.sl,uw x.mp,ui x.ml,sd x.prim,sd k,sd x.val,.bool x.dead] 155)) w.heap.size 0 (k,x):=by have hc:=ae w (.cells #[ui x.c,ui x.n,uw x.sp,ui x.sl,uw x.mp,ui x.ml,sd x.prim,sd k,sd x.val,.bool x.dead] 155);exact⟨Aa hc rfl,Aa hc rfl,Aa hc rfl,Aa hc rfl,Aa hc rfl,Aa hc rfl,Aa hc rfl,Aa hc rfl,Aa hc rfl,Aa hc rfl⟩
abbrev Cv:=(Int×Int)×Wr
abbrev Tr:=Go.Deep.BT (Bi×Cv)
abbrev Tr.nil:Tr:=Go.Deep.BT.nil
abbrev Tr.node(b:Nat)(l:Tr)(k:Bi)(v:Cv)(x:Nat)(r:Tr):Tr:=Go.Deep.BT.node b x (k,v) l r
def Tr.ind{motive:Tr->Prop}(nil:motive .nil)(node:∀(b:Nat) (l:Tr) (k:Bi) (v:Cv) (x:Nat) (r:Tr),motive l->motive r->motive (.node b l k v x r))(t:Tr):motive t:=by
 induction t with
 |nil=>exact nil
 |node b x a l r ihl ihr=>
  obtain⟨k,v⟩:=a;exact node b l k v x r ihl ihr
def Tr.cas{motive:Tr->Prop}(nil:motive .nil)(node:∀(b:Nat) (l:Tr) (k:Bi) (v:Cv) (x:Nat) (r:Tr),motive (.node b l k v x r))(t:Tr):motive t:=Tr.ind nil (λb l k v x r _ _=>node b l k v x r) t
def Tr.toL:Tr->Kv Cv
 |Go.Deep.BT.nil=>[]
 |Go.Deep.BT.node _ _ (k,v) l r=>Tr.toL l++(k,v)::Tr.toL r
def Tr.ptr:Tr->Value
 |Go.Deep.BT.nil=>.pointer none
 |Go.Deep.BT.node b _ _ _ _=>.pointer (some ⟨b,0,none⟩)
def Tr.blocks:Tr->List Nat
 |Go.Deep.BT.nil=>[]
 |Go.Deep.BT.node b _ _ l r=>b::(Tr.blocks l++Tr.blocks r)
structure Lay where
 ty:TypeId
 cells:Bi->Cv->Nat->Value->Value->Array Value
def TrAt(Y:Lay):Tr->World->Prop
 |Go.Deep.BT.nil,_=>True
 |Go.Deep.BT.node b x (k,v) l r,w=>w.heap[b]?=some (.cells (Y.cells k v x (Tr.ptr l) (Tr.ptr r)) Y.ty (0,0))/\TrAt Y l w/\TrAt Y r w
def TrAt.lt{Y:Lay}{w:World}{t:Tr}:TrAt Y t w->∀b∈t.blocks,b<w.heap.size:=by
 induction t using Tr.ind with
 |nil=>
  intro _ b hb;simp[Tr.blocks]at hb
 |node c l k v x r ihl ihr=>
  intro h b hb;exact bbj
def TrAt.kept{Y:Lay}{F:Nat->Prop}{w w':World}(hk:Kept F w w'){t:Tr}:TrAt Y t w->(∀b∈t.blocks,¬F b)->TrAt Y t w':=by
 induction t using Tr.ind with
 |nil=>exactλ_ _=>trivial
 |node c l k v x r ihl ihr=>
  intro h hF;exact baj
def TrAt.on{Y:Lay}{w w':World}{t:Tr}(h:TrAt Y t w)(hb:Bw w w'):TrAt Y t w':=TrAt.kept (F:=λ_=>False) (Kept.of_below hb) h (λ_ _ h=>h)
def TrAt.new{Y:Lay}{w:World}{l r:Tr}(hl:TrAt Y l w)(hr:TrAt Y r w)(k:Bi)(v:Cv)(x:Nat):TrAt Y (.node w.heap.size l k v x r) (w.alloc (.cells (Y.cells k v x l.ptr r.ptr) Y.ty)):=
 ⟨ae w _,hl.on (al _),hr.on (al _)⟩
def TrAt.write{Y:Lay}{w w':World}{b:Nat}{l r:Tr}{k:Bi}{v:Cv}{x:Nat}(hk:Kept (λc=>c=b) w w')(hb:w'.heap[b]?=some (.cells (Y.cells k v x l.ptr r.ptr) Y.ty (0,0)))(hl:TrAt Y l w)(hr:TrAt Y r w)(hnl:b∉l.blocks)(hnr:b∉r.blocks):TrAt Y (.node b l k v x r) w':=
 ⟨hb,TrAt.kept hk hl (λ_ hc e=>hnl (e▸hc)),TrAt.kept hk hr (λ_ hc e=>hnr (e▸hc))⟩
def kc(K:List Bi):List Value:=K.map λk=>sd k
def Nb(K:List Bi):(kc K).length=K.length:=by simp[kc]
def Sz(K R:List Bi):kc (K++R)=kc K++kc R:=by simp[kc]
def ady(K:List Bi):∀u∈kc K,u.oneCell'=true:=by intro u hu;obtain⟨_,_,rfl⟩:=je.1 hu;rfl
def info9:(Tryz.prog.info? 9).map (λi=>(i.zero,i.size,i.bytes))=some (some su,1,16):=by kernel_rfl
def adu(w:World)(k:Bi):RwAt (w.heap.size+1) 1 (.slice (some ⟨w.heap.size,0,none⟩) 1 1) 1 (kc [k]) (w.alloc (.cells #[sd k] 9)):=by
 exact bau
structure Tm where
 sp:Int
 sl:Int
 mp:Int
 ml:Int
 prim:Bi
 sv:Option Addr×Nat×Nat
 kl:List Bi
def tmV(t:Tm):Value:=.agg #[uw t.sp,ui t.sl,uw t.mp,ui t.ml,sd t.prim,.slice t.sv.1 t.sv.2.1 t.sv.2.2]
def zt:Tm:=⟨0,0,0,0,[],(none,0,0),[]⟩
def kx(k:Int×Int):Value:=.agg #[ui k.1,ui k.2]
abbrev Mm:=List ((Int×Int)×Tm)
def getM(k:Int×Int):Mm->Option Tm
 |[]=>none
 |(a,t)::m=>if a=k then some t else getM k m
def setM(k:Int×Int)(v:Tm):Mm->Mm
 |[]=>[(k,v)]
 |(a,t)::m=>if a=k then(k,v)::m else(a,t)::setM k v m
def delM(k:Int×Int):Mm->Mm
 |[]=>[]
 |(a,t)::m=>if a=k then m else(a,t)::delM k m
def Jl(k k':Int×Int)(v:Tm):∀m:Mm,getM k' (setM k v m)=if k=k' then some v else getM k' m
 |[]=>by simp[setM,getM]
 |(a,t)::m=>by
  unfold setM;by_cases h:a=k
  .subst h;rw[ah rfl];simp only[getM];by_cases h2:a=k'
   .rw[ah h2,ah h2]
   .rw[ag h2,ag h2,ag h2]
  .rw[ag h];simp only[getM];rw[Jl k k' v m];exact bcn
def afx{k:Int×Int}:∀{m:Mm},k∉m.map (·.1)->getM k m=none
 |[],_=>rfl
 |(a,t)::m,h=>by simp only[jd,au,ug]at h;unfold getM;rw[ag (λe=>h.1 e.symm)];exact afx h.2
def get_mem{k:Int×Int}{t:Tm}:∀{m:Mm},getM k m=some t->(k,t)∈m
 |[],h=>by cases h
 |(a,u)::m,h=>by
  unfold getM at h;split at h
  .rename_i e;subst e;injection h with h;subst h;exact ji ..
  .exact gy _ (get_mem h)
def Q4{k:Int×Int}{v:Tm}{x:(Int×Int)×Tm}:∀{m:Mm},x∈setM k v m->x=(k,v)\/x∈m
 |[],h=>by simpa[setM]using h
 |(a,t)::m,h=>by
  unfold setM at h;split at h
  .rcases au.1 h with e|e
   .exact .inl e
   .exact .inr (gy _ e)
  .rcases au.1 h with e|e
   .exact .inr (by rw[e];exact ji ..)
   .rcases Q4 e with e|e
    .exact .inl e
    .exact .inr (gy _ e)
def ab9(k:Int×Int)(v:Tm):∀m:Mm,(setM k v m).map (·.1)=if k∈m.map (·.1)then m.map (·.1)else m.map (·.1)++[k]
 |[]=>by simp[setM]
 |(a,t)::m=>by
  unfold setM;by_cases h:a=k
  .subst h;simp
  .rw[ag h];simp only[jd];rw[ab9 k v m];by_cases h2:k∈m.map (·.1)
   .rw[ah h2,ah (gy _ h2)]
   .rw[ag h2,ag (by simp only[au,ug];exact⟨λe=>h e.symm,h2⟩)];rfl
def ajr{k:Int×Int}{v:Tm}{m:Mm}(h:(m.map (·.1)).Nodup):((setM k v m).map (·.1)).Nodup:=by
 rw[ab9];split
 .exact h
 .rename_i h2;rw[ik];exact⟨h,by simp,λa ha b hb=>by simp at hb;subst hb;exactλe=>h2 (e▸ha)⟩
def aeb{k:Int×Int}:∀m:Mm,(delM k m).Sublist m
 |[]=>List.Sublist.slnil
 |(a,t)::m=>by
  unfold delM;split
  .exact List.sublist_cons_self _ _
  .exact List.Sublist.cons_cons _ (aeb m)
def aub{k:Int×Int}{m:Mm}(h:(m.map (·.1)).Nodup):((delM k m).map (·.1)).Nodup:=h.sublist ((aeb m).map _)
def Vl{k k':Int×Int}:∀{m:Mm},(m.map (·.1)).Nodup->getM k' (delM k m)=if k=k' then none else getM k' m
 |[],_=>by simp[delM,getM]
 |(a,t)::m,hn=>by
  simp only[jd,gz]at hn;unfold delM;by_cases h:a=k
  .subst h;rw[ah rfl];by_cases h2:a=k'
   .subst h2;rw[ah rfl];exact afx hn.1
   .rw[ag h2];simp only[getM];rw[ag h2]
  .rw[ag h];simp only[getM];rw[Vl hn.2];exact bcn
def Rw(b:Nat)(m:Mm)(w:World):Prop:=∃es clock,w.heap[b]?=some (.map es clock)/\es.toList.map (λe=>(e.key,e.val))=m.map (λx=>(kx x.1,tmV x.2))
def Rw.kept{b:Nat}{m:Mm}{w w':World}{F:Nat->Prop}(h:Rw b m w)(hk:Kept F w w')(hF:¬F b):Rw b m w':=by obtain⟨es,cl,h1,h2⟩:=h;exact⟨es,cl,by rw[hk.block b (gsz h1) hF];exact h1,h2⟩
def Rw.lt{b:Nat}{m:Mm}{w:World}(h:Rw b m w):b<w.heap.size:=by obtain⟨es,cl,h1,_⟩:=h;exact(gsz h1)
def Rw.new(w:World):Rw w.heap.size [] (w.alloc (.map #[] 0)):=⟨#[],0,ae w _,rfl⟩
def Zl(a b:Int×Int)(w:World):(Op.equal 36 (kx a) (kx b)).run Tryz.prog w=.ok (decide (a=b)) w:=by obtain⟨p,l⟩:=a;obtain⟨q,m⟩:=b;show(Op.equalIn 10000 36 (.agg #[ui p,ui l]) (.agg #[ui q,ui m])).run Tryz.prog w=_;by_cases h:p=q<;>by_cases h2:l=m<;>simp[go_sem,h,h2]
def Uf(n:Nat)(k:Int)(em:Bool)(w:World):(Instr.checkKey em (n+1) 34 (ui k)).run Tryz.prog w=.ok () w:=by unfold Instr.checkKey;simp[go_sem]
def Ue(n:Nat)(k:Int×Int)(em:Bool)(w:World):(Instr.checkKey em (n+1+1) 36 (kx k)).run Tryz.prog w=.ok () w:=by unfold kx;unfold Instr.checkKey;simp[go_sem,Uf]
def Em(k:Int×Int)(em:Bool)(w:World):(Instr.checkKey em 10000 36 (kx k)).run Tryz.prog w=.ok () w:=Ue 9998 k em w
def Vr(k:Int×Int):Mm->Nat->Option (Nat×Value)
 |[],_=>none
 |(a,t)::m,i=>if k=a then some (i,tmV t)else Vr k m (i+1)
def O1{k:Int×Int}:∀{m:Mm} {i:Nat},getM k m=none->Vr k m i=none
 |[],_,_=>rfl
 |(a,t)::m,i,h=>by
  unfold getM at h;split at h
  .cases h
  .rename_i e;unfold Vr;rw[ag (λe2=>e e2.symm)];exact O1 h
def O0{k:Int×Int}{t:Tm}:∀{m:Mm} {i:Nat},getM k m=some t->∃j,Vr k m i=some (i+j,tmV t)/\m[j]?=some (k,t)/\(∀v,setM k v m=m.set j (k,v))/\delM k m=m.eraseIdx j
 |[],_,h=>by cases h
 |(a,u)::m,i,h=>by
  unfold getM at h;split at h
  .rename_i e;subst e;injection h with h;subst h;refine⟨0,by unfold Vr;rw[ah rfl];rfl,rfl,λv=>?_,?_⟩
   .unfold setM;rw[ah rfl];rfl
   .unfold delM;rw[ah rfl];rfl
  .rename_i e;obtain⟨j,h1,h2,h3,h4⟩:=O0 (i:=i+1) h;refine⟨j+1,?_,h2,λv=>?_,?_⟩
   .unfold Vr;rw[ag (λe2=>e e2.symm),h1];congr 2;omega
   .unfold setM;rw[ag e,h3 v];rfl
   .unfold delM;rw[ag e,h4];rfl
def U3(k:Int×Int)(w:World):∀(es:List MapEntry) (m:Mm) (i:Nat),es.map (λe=>(e.key,e.val))=m.map (λx=>(kx x.1,tmV x.2))->(Instr.findAsking 36 (kx k) es i).run Tryz.prog w=.ok (Vr k m i) w
 |[],[],i,_=>rfl
 |[],x::m,_,h=>by cases h
 |e::es,[],_,h=>by cases h
 |e::es,(a,t)::m,i,h=>by
  simp only[jd,pg,ny]at h;obtain⟨⟨h1,h2⟩,h3⟩:=h;unfold Instr.findAsking Vr;simp only[h1,h2,Sem.run_bind,Zl,Result.andThen];by_cases e1:k=a
  .rw[ah e1];simp[e1]
  .rw[ag e1];simp[e1,U3 k w es m (i+1) h3]
def Ej(k:Int×Int){es:List MapEntry}{m:Mm}(h:es.map (λe=>(e.key,e.val))=m.map (λx=>(kx x.1,tmV x.2)))(w:World):(Instr.findKey 36 (kx k) es).run Tryz.prog w=.ok (Vr k m 0) w:=by rw[run_findKey_eq w (by kernel_rfl)];exact U3 k w es m 0 h
def Zm{b:Nat}{m:Mm}{w:World}(h:Rw b m w)(k:Int×Int):(Instr.lookup 124 (.map (some b)) (kx k) false).run Tryz.prog w=.ok (tmV ((getM k m).getD zt)) w:=by
 exact ba2
def Wh{b:Nat}{m:Mm}{w:World}(h:Rw b m w)(k:Int×Int):(Instr.lookup 124 (.map (some b)) (kx k) true).run Tryz.prog w=.ok (.tuple #[tmV ((getM k m).getD zt),.bool (getM k m).isSome]) w:=by
 exact ba2
def setB{w:World}{b:Nat}{o o':Obj}(h:w.heap[b]?=some o):Kept (λi=>i=b) w {w with heap:=w.heap.setIfInBounds b o'}:=⟨rfl,rfl,rfl,by simp,λk _ hk=>(pq h).2 k hk⟩
def Qv(n:Nat)(k:Int×Int):Instr.sameBits (n+1) (kx k) (kx k)=true:=by simp[kx,Instr.sameBits]
def ai9{b:Nat}{m:Mm}{w:World}(h:Rw b m w)(k:Int×Int)(v:Tm):∃w',(Instr.mapUpdate 124 (.map (some b)) (kx k) (tmV v)).run Tryz.prog w=.ok () w'/\Rw b (setM k v m) w'/\Kept (λi=>i=b) w w':=by
 obtain⟨es,cl,h1,h2⟩:=h;cases hg:getM k m with
 |none=>
  refine⟨_,?_,⟨es.push ⟨kx k,tmV v,cl⟩,cl+1,(pq h1).1,?_⟩,setB h1⟩
  .simp[Instr.mapUpdate,jw Tryz.underlying124,jf h1,Em,Ej k h2,O1 (i:=0) hg,ru _ h1,Result.andThen]
  .have:setM k v m=m++[(k,v)]:=by
    clear h2;induction m with
    |nil=>rfl
    |cons x m ih=>
     obtain⟨a,t⟩:=x;unfold getM at hg;split at hg
     .cases hg
     .rename_i e;unfold setM;rw[ag e,ih hg];rfl
   rw[this,Array.toList_push,mi,mi,h2];rfl
 |some t=>
  obtain⟨j,g1,g2,g3,_⟩:=O0 (i:=0) hg;have hl:es.toList.length=m.length:=by have:=iq List.length h2;simpa using this
  have hj:j<m.length:=(gu.1 g2).1;have hje:es.toList[j]?=some (es.toList[j]'(by omega)):=bf (by omega);generalize es.toList[j]'(by omega)=e0 at hje;have hk0:e0.key=kx k:=by
   have a1:(es.toList.map (λe=>(e.key,e.val)))[j]?=some (e0.key,e0.val):=by rw[qm,hje];rfl
   rw[h2,qm,g2]at a1;simp only[yg,ja,ny]at a1;exact a1.1.symm
  have hja:es[j]?=some e0:=by simpa using hje
  refine⟨_,?_,⟨es.modify j (λe'=>{e' with key:=kx k,val:=tmV v}),cl,(pq h1).1,?_⟩,setB h1⟩
  .simp[Instr.mapUpdate,jw Tryz.underlying124,jf h1,Em,Ej k h2,g1,hja,hk0,Instr.keyThatStays,Qv 9999 k,ru _ h1,Result.andThen]
  .rw[g3 v,Array.toList_modify,ChangeMaps.modify_eq_set _ _ _ _ hje,List.map_set,List.map_set,h2]
def atb{b:Nat}{m:Mm}{w:World}(h:Rw b m w)(k:Int×Int):∃w',(∀ty:TypeId,(Builtin.delete_ #[124,36] ty #[.map (some b),kx k]).run Tryz.prog w=.ok (.tuple #[]) w')/\Rw b (delM k m) w'/\Kept (λi=>i=b) w w':=by
 obtain⟨es,cl,h1,h2⟩:=h;cases hg:getM k m with
 |none=>
  refine⟨_,λty=>?_,⟨es,cl,(pq h1).1,?_⟩,setB h1⟩
  .simp[Builtin.delete_,jw Tryz.underlying124,jf h1,Em,Ej k h2,O1 (i:=0) hg,ru _ h1,Result.andThen]
  .have:delM k m=m:=by
    clear h2;induction m with
    |nil=>rfl
    |cons x m ih=>
     obtain⟨a,t⟩:=x;unfold getM at hg;split at hg
     .cases hg
     .rename_i e;unfold delM;rw[ag e,ih hg]
   rw[this,h2]
 |some t=>
  obtain⟨j,g1,g2,_,g4⟩:=O0 (i:=0) hg;have hl:es.toList.length=m.length:=by have:=iq List.length h2;simpa using this
  have hj:j<m.length:=(gu.1 g2).1;have hjs:j<es.size:=by simpa using(by omega:j<es.toList.length)
  refine⟨_,λty=>?_,⟨es.eraseIdxIfInBounds j,cl,(pq h1).1,?_⟩,setB h1⟩
  .simp[Builtin.delete_,jw Tryz.underlying124,jf h1,Em,Ej k h2,g1,ru _ h1,Result.andThen]
  .rw[g4];have e1:(es.eraseIdxIfInBounds j).toList=es.toList.eraseIdx j:=by simp[Array.eraseIdxIfInBounds,hjs]
   rw[e1,ChangeMaps.map_eraseIdx,ChangeMaps.map_eraseIdx,h2]
structure Ifl(TA:Nat->Nat->(Nat->Prop)->Tb->World->Prop):Prop where
 lt:∀{B p:Nat} {M:Nat->Prop} {T:Tb} {w:World},TA B p M T w->∀k,M k->B<=k/\k<w.heap.size
 keep:∀{B p:Nat} {M G:Nat->Prop} {T:Tb} {w w':World},TA B p M T w->Kept G w w'->(∀k,M k->¬G k)->TA B p M T w'
 ok:∀{B p:Nat} {M:Nat->Prop} {T:Tb} {w:World},TA B p M T w->TOk T
 new:∀w:World,cpr 21 #[] w λe w'=>∃p M,e=.returned (pz p)/\TA w.heap.size p M [] w'/\Bw w w'
 right:∀(B:Nat) (L:List Wr) (v:Value) (w:World),WsAt B v L w->B<=w.heap.size->cpr 108 #[v] w λe w'=>e=.returned (.bool (Bf L))/\Bw w w'
 lay:∀{B p:Nat} {M:Nat->Prop} {T:Tb} {w:World} (c n sp sl mp ml:Int) (prim:Bi) (L:List Wr) (v:Value),TA B p M T w->T.length<10000->WsAt w.heap.size v L w->(0<L.length->∀k,v.ownBlock=some k->¬M k)->0<=mp/\0<=ml->cpr 48 #[pz p,.agg #[ui c,ui n],.agg #[uw sp,ui sl],.agg #[uw mp,ui ml],sd prim,v] w λe w'=>e=.returned (iw (layF (Ag sp sl&&Ag mp ml&&kOk prim) c n sp sl mp ml prim L T).2)/\∃M',TA B p M' (layF (Ag sp sl&&Ag mp ml&&kOk prim) c n sp sl mp ml prim L T).1 w'/\Kept M w w'/\∀i,M' i->M i\/w.heap.size<=i
 cut:∀{B p:Nat} {M:Nat->Prop} {T:Tb} {w:World} (c n:Int),TA B p M T w->T.length<10000->cpr 51 #[pz p,.agg #[ui c,ui n]] w λe w'=>∃v' M',e=.returned v'/\IsAt w'.heap.size v' (byF c n T) w'/\(∀k,v'.ownBlock=some k->w.heap.size<=k)/\TA B p M' (Ee c n T) w'/\Kept M w w'/\∀i,M' i->M i\/w.heap.size<=i
 raise:∀{B p:Nat} {M:Nat->Prop} {T:Tb} {w:World} (c n mp ml:Int),TA B p M T w->T.length<10000->0<=mp/\0<=ml->cpr 59 #[pz p,.agg #[ui c,ui n],.agg #[uw mp,ui ml]] w λe w'=>e=.returned (.bool (Wj c n mp ml T))/\∃M',TA B p M' (rseF c n mp ml T) w'/\Kept M w w'/\∀i,M' i->M i\/w.heap.size<=i
 first:∀{B p:Nat} {M:Nat->Prop} {T:Tb} {w:World} (lo hi:Bi) (ap aq:Int) (but:List (Int×Int)) (v:Value),TA B p M T w->T.length<10000->TsAt w.heap.size v but w->cpr 190 #[pz p,sd lo,sd hi,.agg #[uw ap,ui aq],v] w λe w'=>e=.returned (fsV (Oj lo hi ap aq but T))/\Bw w w'
 of:∀{B p:Nat} {M:Nat->Prop} {T:Tb} {w:World} (k:Bi),TA B p M T w->T.length<10000->cpr 187 #[pz p,sd k] w λe w'=>e=.returned (ofV k (getF k T))/\Bw w w'
 by_:∀{B p:Nat} {M:Nat->Prop} {T:Tb} {w:World} (c n:Int),TA B p M T w->T.length<10000->cpr 72 #[pz p,.agg #[ui c,ui n]] w λe w'=>∃v',e=.returned v'/\IsAt w'.heap.size v' (byF c n T) w'/\(∀k,v'.ownBlock=some k->w.heap.size<=k)/\Bw w w'
 all:∀{B p:Nat} {M:Nat->Prop} {T:Tb} {w:World},TA B p M T w->T.length<10000->cpr 58 #[pz p] w λe w'=>∃v',e=.returned v'/\IsAt w'.heap.size v' T w'/\(∀k,v'.ownBlock=some k->w.heap.size<=k/\∃cs,w'.heap[k]?=some (.cells cs 155 (0,0)))/\Bw w w'
variable {TA:Nat->Nat->(Nat->Prop)->Tb->World->Prop}
def maxF(p l q m:Int):Int×Int:=if Ar p l q m then(q,m)else(p,l)
def maxL(xs:List (Int×Int)):Int×Int:=xs.foldl (λm t=>maxF m.1 m.2 t.1 t.2) (0,0)
def Xc(xs:List (Int×Int))(t:Int×Int):maxL (xs++[t])=maxF (maxL xs).1 (maxL xs).2 t.1 t.2:=by simp[maxL]
def alz(bk:Nat)(w:World)(hbk:bk<w.heap.size)(n:Nat)(xs:List (Int×Int))(hn:xs.length=n)(hn2:n<=1000)
   (hc:∀i:Nat,i<n->w.cell? ⟨bk,i*2,none⟩=some (uw (xs[i]?.getD (0,0)).1)/\w.cell? ⟨bk,i*2+1,none⟩=some (ui (xs[i]?.getD (0,0)).2)):
  cpr 132 #[.slice (some ⟨bk,0,none⟩) n n] w λe w'=>e=.returned (.agg #[uw (maxL xs).1,ui (maxL xs).2])/\Bw w w':=by
 go_enter Tryz.func132,Tryz.ntmps132;go_wp2;go_loopw [8] (λi wr=>∃k:Nat,k<=n/\i=iw k/\Bw w wr/\w.heap.size+1<wr.heap.size/\wr.frozen? ⟨w.heap.size,0,none⟩=false/\wr.frozen? ⟨w.heap.size,1,none⟩=false/\wr.cell? ⟨w.heap.size,0,none⟩=some (uw 0)/\wr.cell? ⟨w.heap.size,1,none⟩=some (ui 0)/\wr.frozen? ⟨w.heap.size+1,0,none⟩=false/\wr.frozen? ⟨w.heap.size+1,1,none⟩=false/\wr.cell? ⟨w.heap.size+1,0,none⟩=some (uw (maxL (xs.take k)).1)/\wr.cell? ⟨w.heap.size+1,1,none⟩=some (ui (maxL (xs.take k)).2)) (λi _=>n-(intOf i).toNat)
 case atStart=>
  exact ban
 case round=>
  obtain⟨k,hk,rfl,hBr,hzr,f0,f1,r0,r1,f2,f3,m0,m1⟩:=hrel;by_cases hlt:k<n
  .have hd4:decide ((k:Int)<n)=true:=by simp;omega
   have e0:wr.cell? ⟨bk,k*2,none⟩=some (uw (xs[k]?.getD (0,0)).1):=by rw[hBr.cell hbk];exact(hc k hlt).1
   have e1:wr.cell? ⟨bk,k*2+1,none⟩=some (ui (xs[k]?.getD (0,0)).2):=by rw[hBr.cell hbk];exact(hc k hlt).2
   have HX:Hid (maxL (xs.take (k+1))=maxF (maxL (xs.take k)).1 (maxL (xs.take k)).2 xs[k].1 xs[k].2):=by rw[jk (by omega)];exact Xc _ _
   cases hl:Ar (maxL (xs.take k)).1 (maxL (xs.take k)).2 xs[k].1 xs[k].2
   .have HL:Hid (Ar (maxL (xs.take k)).1 (maxL (xs.take k)).2 xs[k].1 xs[k].2=false):=hl;have hm:maxL (xs.take (k+1))=maxL (xs.take k):=by rw[HX.out];simp[maxF,hl]
    have HM:Hid (maxL (xs.take (k+1))=maxL (xs.take k)):=hm;clear hl hm;go_wp2_with fail;refine(Ya _ _ _ _ _).mono ?_;exact axu
   .have HL:Hid (Ar (maxL (xs.take k)).1 (maxL (xs.take k)).2 xs[k].1 xs[k].2=true):=hl;have hm:maxL (xs.take (k+1))=xs[k]:=by rw[HX.out];simp[maxF,hl]
    have HM:Hid (maxL (xs.take (k+1))=xs[k]):=hm;clear hl hm;go_wp2_with fail;refine(Ya _ _ _ _ _).mono ?_;exact ax5
  .have hd4:decide ((k:Int)<n)=false:=by simp;omega
   have hkm:xs.take k=xs:=ay (by omega);rw[hkm]at m0 m1;go_wp2;refine az (v:=.agg #[uw (maxL xs).1,ui (maxL xs).2]) (by simp[results,Tryz.results132,go_sem,r0,r1]) rfl ⟨rfl,?_⟩;exact(hBr.setCell (by simp) _).setCell (by simp) _
def Tr.hn:Tr->Nat
 |Go.Deep.BT.nil=>0
 |Go.Deep.BT.node _ x _ _ _=>x
def Tr.hi:Tr->Int
 |Go.Deep.BT.nil=>0
 |Go.Deep.BT.node _ x _ _ _=>(x:Int)
def Tr.Vh(t:Tr):t.hi=t.hn:=by
 cases t using Tr.cas with
 |nil=>rfl
 |node b l k v x r=>rfl
def ahs(l r:Tr):((1+max l.hn r.hn:Nat):Int)=1+max l.hi r.hi:=by rw[l.Vh,r.Vh];omega
def Hk:Tr->Prop
 |Go.Deep.BT.nil=>True
 |Go.Deep.BT.node _ x _ l r=>x=1+max (Tr.hn l) (Tr.hn r)/\Hk l/\Hk r
def Hk.bounds{t:Tr}:Hk t->0<=t.hi/\t.hi<=t.toL.length:=by
 induction t using Tr.ind with
 |nil=>intro _;simp[Tr.hi,Tr.toL]
 |node b l k v x r ihl ihr=>
  intro h;exact bbu
def Hk.node{t:Tr}(h0:0<t.hi):∃b l k v x r,t=.node b l k v x r:=by
 exact bcd
def nl:Lay:=⟨274,λk v x l r=>#[sd k,ui v.1.1,ui v.1.2,sd v.2.key,sd v.2.val,.bool v.2.dead,l,r,iw (x:Int)]⟩
def Ce(k:Bi):Tr->Option Nat
 |Go.Deep.BT.nil=>none
 |Go.Deep.BT.node b _ (q,_) l r=>if ltK k q then Ce k l else if ltK q k then Ce k r else some b
def Ji(k:Bi)(v:Cv):Tr->Tr
 |Go.Deep.BT.nil=>.nil
 |Go.Deep.BT.node b x (q,u) l r=>if ltK k q then .node b (Ji k v l) q u x r else if ltK q k then .node b l q u x (Ji k v r)else .node b l q v x r
def Hq(k:Bi)(b:Nat)(l:Tr)(q:Bi)(u:Cv)(x:Nat)(r:Tr):Ce k (.node b l q u x r)=if ltK k q then Ce k l else if ltK q k then Ce k r else some b:=rfl
def Hl(k:Bi)(v:Cv)(b:Nat)(l:Tr)(q:Bi)(u:Cv)(x:Nat)(r:Tr):Ji k v (.node b l q u x r)=if ltK k q then .node b (Ji k v l) q u x r else if ltK q k then .node b l q u x (Ji k v r)else .node b l q v x r:=rfl
def L9{k:Bi}{t:Tr}:∀{b:Nat},Ce k t=some b->b∈t.blocks:=by
 induction t using Tr.ind with
 |nil=>intro b h;cases h
 |node c l q u x r ihl ihr=>
  intro b h;exact bb7
def Jm{k:Bi}{t:Tr}:Srt t.toL->(Ce k t).isSome=(getF k t.toL).isSome:=by
 induction t using Tr.ind with
 |nil=>intro _;rfl
 |node c l q u x r ihl ihr=>
  intro h;exact bby
def Qd{w:World}{k:Bi}{t:Tr}:∀{b:Nat},Srt t.toL->TrAt nl t w->Ce k t=some b->∃q v x l r,w.heap[b]?=some (.cells (nl.cells q v x l r) nl.ty (0,0))/\getF k t.toL=some v:=by
 induction t using Tr.ind with
 |nil=>intro b _ _ h;cases h
 |node c l q u x r ihl ihr=>
  intro b hs ha h;exact azw
def Pg(k:Bi)(v:Cv)(t:Tr):(Ji k v t).ptr=t.ptr:=by
 exact ba9
def Zy(k:Bi)(v:Cv)(t:Tr):(Ji k v t).hn=t.hn:=by
 exact ba9
def Ht(k:Bi)(v:Cv)(t:Tr):(Ji k v t).blocks=t.blocks:=by
 induction t using Tr.ind with
 |nil=>rfl
 |node b l q u x r ihl ihr=>
  rw[Hl];split
  .simp only[Tr.blocks,ihl]
  .split
   .simp only[Tr.blocks,ihr]
   .rfl
def ahc(k:Bi)(v:Cv){t:Tr}:Hk t->Hk (Ji k v t):=by
 induction t using Tr.ind with
 |nil=>exactλ_=>trivial
 |node b l q u x r ihl ihr=>
  intro h;exact bbc
def adc{k:Bi}{v:Cv}{t:Tr}:Srt t.toL->(Ce k t).isSome=true->(Ji k v t).toL=setF k v t.toL:=by
 induction t using Tr.ind with
 |nil=>intro _ h;cases h
 |node b l q u x r ihl ihr=>
  intro hs h;exact azu
def Ba{w:World}{b:Nat}{k:Bi}{v:Cv}{x:Nat}{l r:Value}(h:w.heap[b]?=some (.cells (nl.cells k v x l r) nl.ty (0,0))):
  ce w b 0 (sd k)/\(ce w b 1 (ui v.1.1)/\ce w b 2 (ui v.1.2)/\ce w b 3 (sd v.2.key)/\ce w b 4 (sd v.2.val)/\ce w b 5 (.bool v.2.dead))/\ce w b 6 l/\ce w b 7 r/\ce w b 8 (iw (x:Int)):=
 ⟨Aa h rfl,⟨Aa h rfl,Aa h rfl,Aa h rfl,Aa h rfl,Aa h rfl⟩,Aa h rfl,Aa h rfl,Aa h rfl⟩
def azg{v u:Cv}(f0:v.1.1=u.1.1)(f1:v.1.2=u.1.2)(f7:bs v.2.key=bs u.2.key)(f8:bs v.2.val=bs u.2.val)(f9:v.2.dead=u.2.dead):v=u:=by
 obtain⟨⟨c,n⟩,key,val,dead⟩:=v;obtain⟨⟨c',n'⟩,key',val',dead'⟩:=u;dsimp only at f0 f1 f7 f8 f9;have g7:key=key':=by rw[<-D6 key,<-D6 key',f7]
 have g8:val=val':=by rw[<-D6 val,<-D6 val',f8]
 subst f0 f1 g7 g8 f9;rfl
structure Sw(w W:World):Prop where
 heap:W.heap=w.heap
 os:W.os=w.os
 tape:W.tape=w.tape
 output:W.output=w.output
def Sw.refl(w:World):Sw w w:=⟨rfl,rfl,rfl,rfl⟩
def Sw.drew{w W:World}(h:Sw w W):Sw w W.drew:=⟨h.heap,h.os,h.tape,h.output⟩
def Sw.drewN{w W:World}(h:Sw w W)(n:Nat):Sw w (W.drewN n):=⟨h.heap,h.os,h.tape,h.output⟩
def Sw.cell{w W:World}(h:Sw w W)(a:Addr):W.cell? a=w.cell? a:=by unfold World.cell?;rw[h.heap]
def Sw.below{w W:World}(h:Sw w W)(B:Nat):Below B w W:=⟨h.os,h.tape,h.output,by rw[h.heap];exact ai _,λk _=>by rw[h.heap]⟩
def TrAt.sw{Y:Lay}{t:Tr}{w W:World}(h:TrAt Y t w)(s:Sw w W):TrAt Y t W:=h.on (s.below _)
def Fj(t:Tr)(w:World)(h:TrAt nl t w):cpr 239 #[t.ptr] w λe w'=>e=.returned (iw t.hi)/\w'=w:=by
 cases t using Tr.cas with
 |nil=>
  simp only[Tr.ptr,Tr.hi];go_enter Tryz.func239,Tryz.ntmps239;exact az4
 |node b l k v x r=>
  obtain⟨-,-,-,-,c4⟩:=Ba h.1;simp only[Tr.ptr,Tr.hi];clear h;generalize (x:Int)=xi at*;go_enter Tryz.func239,Tryz.ntmps239;exact az4
def Xb{b:Nat}{l r:Tr}{k:Bi}{v:Cv}{x:Nat}{w:World}(h:TrAt nl (.node b l k v x r) w)(hl:0<=l.hi/\l.hi<=1000000)(hr:0<=r.hi/\r.hi<=1000000):
  cpr 242 #[pz b] w λe w'=>e=.returned (.tuple #[])/\w'.heap[b]?=some (.cells (nl.cells k v (1+max l.hn r.hn) l.ptr r.ptr) nl.ty (0,0))/\Kept (λi=>i=b) w w':=by
 have H:Hid (w.heap[b]?=some (.cells #[sd k,ui v.1.1,ui v.1.2,sd v.2.key,sd v.2.val,.bool v.2.dead,l.ptr,r.ptr,iw (x:Int)] nl.ty (0,0))):=h.1;obtain⟨-,-,c2,c3,c4⟩:=Ba h.1;have f4:=Ad h.1 8;have CL:Hid (∀W,Sw w W->cpr 239 #[l.ptr] W λe w'=>e=.returned (iw l.hi)/\w'=W):=λW hs=>Fj l W (h.2.1.sw hs);have CR:Hid (∀W,Sw w W->cpr 239 #[r.ptr] W λe w'=>e=.returned (iw r.hi)/\w'=W):=λW hs=>Fj r W (h.2.2.sw hs);have HH:Hid (((1+max l.hn r.hn:Nat):Int)=1+max l.hi r.hi):=ahs l r;clear h;generalize 1+max l.hn r.hn=hh at*;generalize l.ptr=lp at*;generalize r.ptr=rp at*;generalize l.hi=a at*;generalize r.hi=c at*;generalize (x:Int)=xi at*;obtain⟨m,hm⟩:=xj (if a<c then c else a);have HM:Hid (1+max a c=1+m):=by show _=_;rw[<-hm];split<;>omega
 have hmb:0<=m/\m<=1000000:=by rw[<-hm];split<;>omega
 obtain⟨hm0,hm1⟩:=hmb;have HW:Hid (IntKind.i64.wrap (1+m)=1+m):=by show _=_;simp[IntKind.wrap,IntKind.bits,IntKind.signed];omega
 clear hl hr hm0 hm1;go_enter Tryz.func242,Tryz.ntmps242;go_wp2_with fail;go_region_held3 (λW=>ce W b 6 lp/\ce W b 7 rp/\W.frozen? ⟨b,8,none⟩=false) (first|exact⟨c2,c3,f4⟩|exact⟨Aa (Af _ H.out) rfl,Aa (Af _ H.out) rfl,Ad (Af _ H.out) _⟩) (first
  |(go_at_call_of 239 (lp);refine(CL.out _ (Sw.drew (Sw.refl _))).mono ?_;rintro e W1 ⟨rfl,rfl⟩)
  |(go_at_call_of 239 (rp);refine(CR.out _ (Sw.drew (Sw.refl _))).mono ?_;rintro e W1 ⟨rfl,rfl⟩))
 rw[HW.out];refine bodyPost_end (results_none Tryz.results242 _ _ _) rfl ?_;exact⟨rfl,by show _=some (Obj.cells #[sd k,ui v.1.1,ui v.1.2,sd v.2.key,sd v.2.val,.bool v.2.dead,lp,rp,iw (hh:Int)] nl.ty (0,0));rw[HH.out,HM.out];exact Af _ H.out,(Ai w b 8 _).drew⟩
def Tr.size:Tr->Nat
 |Go.Deep.BT.nil=>0
 |Go.Deep.BT.node _ _ _ l r=>Tr.size l+Tr.size r+1
def Qq{w:World}{s:Tr}:∀{t:Tr},TrAt nl s w->TrAt nl t w->s.ptr=t.ptr->s=t:=by
 induction s using Tr.ind with
 |nil=>
  intro t _ _ h;cases t using Tr.cas with
  |nil=>rfl
  |node b l k v x r=>simp[Tr.ptr]at h
 |node b l k v x r ihl ihr=>
  intro t ha hb h;cases t using Tr.cas with
  |nil=>simp[Tr.ptr]at h
  |node c m q u y s=>
   simp only[Tr.ptr,Value.pointer.injEq,ja,Addr.mk.injEq]at h;obtain⟨rfl,_⟩:=h;obtain⟨a1,a2,a3⟩:=ha;obtain⟨b1,b2,b3⟩:=hb;rw[a1]at b1;simp only[nl,ja,Obj.cells.injEq,Array.mk.injEq,pg,Value.string.injEq,Value.int.injEq,Value.bool.injEq]at b1;obtain⟨⟨e0,⟨_,f0⟩,⟨_,f1⟩,f7,f8,f9,e2,e3,⟨_,e4⟩,_⟩,_⟩:=b1;have e1:v=u:=azg f0 f1 f7 f8 f9;exact bcb
def Uy:∃f:World->Value->Nat,∀{w:World} {s:Tr},TrAt nl s w->f w s.ptr=s.size:=by refine⟨λw n=>@dite Nat (∃s:Tr,TrAt nl s w/\s.ptr=n) (Classical.propDecidable _) (λh=>h.choose.size) (λ_=>0),λ{w s} h=>?_⟩;have hx:∃s':Tr,TrAt nl s' w/\s'.ptr=s.ptr:=⟨s,h,rfl⟩;show@dite Nat (∃s':Tr,TrAt nl s' w/\s'.ptr=s.ptr) (Classical.propDecidable _) (λh=>h.choose.size) (λ_=>0)=s.size;rw[dif_pos hx,Qq hx.choose_spec.1 h hx.choose_spec.2]
