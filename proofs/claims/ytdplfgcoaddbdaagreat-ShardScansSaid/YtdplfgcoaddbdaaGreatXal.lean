import Derived.Test.YtdplfgcoaddbdaaGreatProg
import Derived.Deep.Trees
import Derived.WideKeyRuns
import Derived.Test.YtdplfgcoaddbdaaGreatXaa
set_option maxHeartbeats 4000000
set_option maxRecDepth 100000
set_option linter.unusedVariables false
set_option linter.unusedSimpArgs false
namespace Go.Proofs.YtdplfgcoaddbdaaGreat.Lat
structure Ii where
 c:Int
 n:Int
 sp:Int
 sl:Int
 mp:Int
 ml:Int
 prim:List UInt8
 val:List UInt8
 dead:Bool
abbrev Tb:=Kv Ii
def ofBy(c n:Int)(x:Ii):Bool:=x.c==c&&x.n==n
def byF(c n:Int)(T:Tb):Tb:=T.filter fun x=>ofBy c n x.2
def restF(c n:Int)(T:Tb):Tb:=T.filter fun x=> !ofBy c n x.2
def mkI(c n sp sl mp ml:Int)(prim:List UInt8)(w:Wr):Ii:=⟨c,n,sp,sl,mp,ml,prim,w.val,w.dead⟩
def laidF(f:Wr->Ii):List Wr->Tb->Tb
 |[],T=>T
 |w::l,T=>laidF f l (setF w.key (f w) T)
def ltT(a b c d:Int):Bool:=decide (a<c)||decide (a=c)&&decide (b<d)
def raise1(c n mp ml:Int)(x:Ii):Ii:=if ofBy c n x&&ltT x.mp x.ml mp ml then{x with mp:=mp,ml:=ml}else x
def raiseF(c n mp ml:Int)(T:Tb):Tb:=T.map fun x=>(x.1,raise1 c n mp ml x.2)
def standsB(lo hi:List UInt8)(ap al:Int)(but:List (Int×Int))(x:List UInt8×Ii):Bool:=inR lo hi x.1&& !ltT ap al x.2.mp x.2.ml&& !but.contains (x.2.c,x.2.n)
def firstF(lo hi:List UInt8)(ap al:Int)(but:List (Int×Int))(T:Tb):Option (List UInt8×Ii):=T.find? (standsB lo hi ap al but)
section
variable {α:Type}
theorem filter_srt{L:Kv α}(h:Srt L)(p:List UInt8×α->Bool):Srt (L.filter p):=List.Pairwise.sublist List.filter_sublist h
theorem map_srt{β:Type}{L:Kv α}(h:Srt L)(f:List UInt8×α->β):Srt (L.map fun x=>(x.1,f x)):=by
 induction L with
 |nil=>exact List.Pairwise.nil
 |cons a L ih=>
  obtain⟨h1,h2⟩:=List.pairwise_cons.1 h;refine List.pairwise_cons.2 ⟨fun x hx=>?_,ih h2⟩;obtain⟨y,hy,rfl⟩:=List.mem_map.1 hx;exact h1 y hy
theorem get_filter{L:Kv α}(h:Srt L)(p:List UInt8×α->Bool)(k:List UInt8)(v:α):getF k (L.filter p)=some v↔getF k L=some v/\p (k,v)=true:=by rw[getF_mem (filter_srt h p),getF_mem h,List.mem_filter]
theorem get_map{β:Type}(f:List UInt8×α->β)(k:List UInt8):∀(L:Kv α),getF k (L.map fun x=>(x.1,f x))=(getF k L).map fun v=>f (k,v)
 |[]=>rfl
 |(a,v)::L=>by
  simp only[List.map_cons];unfold getF;by_cases e:(a==k)=true
  ·rw[if_pos e,if_pos e];have:a=k:=by simpa using e
   subst this;rfl
  ·rw[if_neg e,if_neg e];exact get_map f k L
theorem filter_set{k:List UInt8}{v:α}(p:List UInt8×α->Bool):∀{L:Kv α},getF k L=none->((setF k v L).filter p).length=(L.filter p).length+(if p (k,v)then 1 else 0)
 |[],_=>by unfold setF;by_cases e:p (k,v)=true<;>simp[e]
 |(a,u)::L,h=>by
  unfold getF at h;by_cases e:(a==k)=true
  ·rw[if_pos e]at h;cases h
  ·rw[if_neg e]at h;unfold setF;by_cases h1:ltK a k=true
   ·rw[if_pos h1];have ih:=filter_set (v:=v) p h;by_cases h2:p (a,u)=true
    ·rw[List.filter_cons_of_pos h2,List.filter_cons_of_pos h2,List.length_cons,List.length_cons,ih];omega
    ·rw[List.filter_cons_of_neg h2,List.filter_cons_of_neg h2,ih]
   ·rw[if_neg h1,if_neg e];by_cases h2:p (k,v)=true
    ·rw[List.filter_cons_of_pos h2,if_pos h2];rfl
    ·rw[List.filter_cons_of_neg h2,if_neg h2];rfl
theorem part_len(p:List UInt8×α->Bool):∀(L:Kv α),(L.filter p).length+(L.filter fun x=> !p x).length=L.length
 |[]=>rfl
 |a::L=>by have ih:=part_len p L;cases h:p a<;>simp[h]<;>omega
end
theorem laid_srt{f:Wr->Ii}:∀{l:List Wr} {T:Tb},Srt T->Srt (laidF f l T)
 |[],_,h=>h
 |w::l,T,h=>by unfold laidF;exact laid_srt (setF_srt h)
theorem laid_other{f:Wr->Ii}{k:List UInt8}:∀{l:List Wr} {T:Tb},Srt T->(∀w∈l,w.key≠k)->getF k (laidF f l T)=getF k T
 |[],_,_,_=>rfl
 |w::l,T,h,hk=>by unfold laidF;rw[laid_other (setF_srt h) (fun x hx=>hk x (List.mem_cons_of_mem _ hx)),get_set h,if_neg];simpa using hk w (List.mem_cons_self ..)
theorem laid_get{f:Wr->Ii}:∀{l:List Wr} {T:Tb},Srt T->(l.map (·.key)).Nodup->∀w∈l,getF w.key (laidF f l T)=some (f w)
 |[],_,_,_,w,hw=>by cases hw
 |x::l,T,h,hn,w,hw=>by
  simp only[List.map_cons,List.nodup_cons]at hn;unfold laidF;rcases List.mem_cons.1 hw with rfl|hw
  ·rw[laid_other (setF_srt h) (fun y hy e=>hn.1 (List.mem_map.2 ⟨y,hy,e⟩)),get_set h];simp
  ·exact laid_get (setF_srt h) hn.2 w hw
def NewK(l:List Wr)(T:Tb):Prop:=∀w∈l,getF w.key T=none
theorem newK_step{f:Wr->Ii}{x:Wr}{l:List Wr}{T:Tb}(h:Srt T)(hn:((x::l).map (·.key)).Nodup)(hk:NewK (x::l) T):NewK l (setF x.key (f x) T):=fun w hw=>by
 simp only[List.map_cons,List.nodup_cons]at hn;rw[get_set h,if_neg]
 ·exact hk w (List.mem_cons_of_mem _ hw)
 ·simp only[beq_iff_eq];exact fun e=>hn.1 (List.mem_map.2 ⟨w,hw,e.symm⟩)
theorem laid_filter{f:Wr->Ii}(p:List UInt8×Ii->Bool):∀{l:List Wr} {T:Tb},Srt T->(l.map (·.key)).Nodup->NewK l T->((laidF f l T).filter p).length=(T.filter p).length+(l.filter fun w=>p (w.key,f w)).length
 |[],_,_,_,_=>rfl
 |x::l,T,h,hn,hk=>by
  unfold laidF;rw[laid_filter p (setF_srt h) (by simp only[List.map_cons,List.nodup_cons]at hn;exact hn.2) (newK_step h hn hk),filter_set p (hk x (List.mem_cons_self ..))];by_cases e:p (x.key,f x)=true
  ·rw[if_pos e,List.filter_cons_of_pos (p:=fun w=>p (w.key,f w)) e,List.length_cons];omega
  ·rw[if_neg e,List.filter_cons_of_neg (p:=fun w=>p (w.key,f w)) e];omega
theorem laid_len{f:Wr->Ii}{l:List Wr}{T:Tb}(h:Srt T)(hn:(l.map (·.key)).Nodup)(hk:NewK l T):(laidF f l T).length=T.length+l.length:=by have:=laid_filter (f:=f) (fun _=>true) h hn hk;rw[List.filter_eq_self.2 (fun _ _=>rfl),List.filter_eq_self.2 (fun _ _=>rfl),List.filter_eq_self.2 (fun _ _=>rfl)]at this;exact this
theorem by_rest(c n:Int)(T:Tb):(byF c n T).length+(restF c n T).length=T.length:=part_len _ T
theorem raise_of{c n mp ml c' n':Int}{x:Ii}:ofBy c' n' (raise1 c n mp ml x)=ofBy c' n' x:=by unfold raise1;split<;>rfl
theorem raise_srt{c n mp ml:Int}{T:Tb}(h:Srt T):Srt (raiseF c n mp ml T):=map_srt h _
def layF(r:Bool)(c n sp sl mp ml:Int)(prim:List UInt8)(l:List Wr)(T:Tb):Tb×Int:=
 if rightW l&&r then(if(byF c n T).isEmpty&&l.all (fun w=>(getF w.key T).isNone)then(laidF (mkI c n sp sl mp ml prim) l T,0)else(T,40))else(T,1)
theorem lay_cases(r:Bool)(c n sp sl mp ml:Int)(prim:List UInt8)(l:List Wr)(T:Tb):
  (∃e,layF r c n sp sl mp ml prim l T=(T,e)/\(e=1\/e=40))\/(layF r c n sp sl mp ml prim l T=(laidF (mkI c n sp sl mp ml prim) l T,0)/\rightW l=true/\r=true/\byF c n T=[]/\NewK l T/\(l.map (·.key)).Nodup):=by
 unfold layF;by_cases h1:(rightW l&&r)=true
 ·rw[if_pos h1];by_cases h2:((byF c n T).isEmpty&&l.all (fun w=>(getF w.key T).isNone))=true
  ·rw[if_pos h2];simp only[Bool.and_eq_true,List.all_eq_true,Option.isNone_iff_eq_none,List.isEmpty_iff]at h1 h2;refine .inr ⟨rfl,h1.1,h1.2,h2.1,h2.2,?_⟩;have:=h1.1;simp only[rightW,Bool.and_eq_true,decide_eq_true_eq]at this;exact this.1.1.2
  ·rw[if_neg h2];exact .inl ⟨40,rfl,.inr rfl⟩
 ·rw[if_neg h1];exact .inl ⟨1,rfl,.inl rfl⟩
theorem ofBy_mk{c n c' n' sp sl mp ml:Int}{prim:List UInt8}{w:Wr}:ofBy c' n' (mkI c n sp sl mp ml prim w)=(c==c'&&n==n'):=rfl
structure TOk(T:Tb):Prop where
 srt:Srt T
 keys:∀x∈T,kOk x.1=true
theorem TOk.nil:TOk []:=⟨List.Pairwise.nil,fun _ h=>by cases h⟩
theorem right_parts{l:List Wr}(h:rightW l=true):(∀w∈l,wOk w=true)/\(l.map (·.key)).Nodup/\1<=l.length/\l.length<=16:=by simp only[rightW,Bool.and_eq_true,decide_eq_true_eq,List.all_eq_true]at h;exact⟨h.1.1.1,h.1.1.2,h.1.2,h.2⟩
theorem wOk_key{w:Wr}(h:wOk w=true):kOk w.key=true:=by simp only[wOk,Bool.and_eq_true]at h;exact h.1.1
theorem laid_keys{f:Wr->Ii}:∀{l:List Wr} {T:Tb},(∀w∈l,kOk w.key=true)->(∀x∈T,kOk x.1=true)->∀x∈laidF f l T,kOk x.1=true
 |[],_,_,h2=>h2
 |w::l,T,h1,h2=>by
  unfold laidF;refine laid_keys (fun x hx=>h1 x (List.mem_cons_of_mem _ hx)) (fun x hx=>?_);rcases setF_keys hx with rfl|hx
  ·exact h1 w (List.mem_cons_self ..)
  ·exact h2 x hx
theorem TOk.rest{T:Tb}(h:TOk T)(c n:Int):TOk (restF c n T):=⟨filter_srt h.srt _,fun x hx=>h.keys x (List.mem_filter.1 hx).1⟩
theorem TOk.raise{T:Tb}(h:TOk T)(c n mp ml:Int):TOk (raiseF c n mp ml T):=⟨raise_srt h.srt,fun x hx=>by obtain⟨y,hy,rfl⟩:=List.mem_map.1 hx;exact h.keys y hy⟩
theorem len_lay{T:Tb}(h:TOk T)(r:Bool)(c n sp sl mp ml:Int)(prim:List UInt8)(l:List Wr):(layF r c n sp sl mp ml prim l T).1.length<=T.length+16:=by
 rcases lay_cases r c n sp sl mp ml prim l T with⟨e,h1,_⟩|⟨h1,hr,_,_,hk,hn⟩
 ·rw[h1];simp
 ·rw[h1];have:=laid_len (f:=mkI c n sp sl mp ml prim) h.srt hn hk;have:=(right_parts hr).2.2.2;simp only;omega
theorem len_raise(c n mp ml:Int)(T:Tb):(raiseF c n mp ml T).length=T.length:=by simp[raiseF]
theorem len_by(c n:Int)(T:Tb):(byF c n T).length<=T.length:=by have:=by_rest c n T;omega
def di:List UInt8×Ii:=([],⟨0,0,0,0,0,0,[],[],false⟩)
theorem ttk_snoc{T:Tb}{m:Nat}(h:m<T.length):T.take (m+1)=T.take m++[T.getD m di]:=by rw[List.take_succ_eq_append_getElem h];simp[List.getD,h]
theorem tdr_step{T:Tb}{m:Nat}(h:m<T.length):T.drop m=T.getD m di::T.drop (m+1):=by rw[List.drop_eq_getElem_cons h];simp[List.getD,h]
theorem getD_memT{T:Tb}{m:Nat}(h:m<T.length):T.getD m di∈T:=by rw[List.getD,List.getElem?_eq_getElem h];exact List.getElem_mem h
def firstN(p:List UInt8×Ii->Bool)(T:Tb)(m:Nat):Option (List UInt8×Ii):=(T.take m).find? p
theorem first_at{p:List UInt8×Ii->Bool}{T:Tb}{m:Nat}(h:m<T.length)(hn:firstN p T m=none)(hp:p (T.getD m di)=true):T.find? p=some (T.getD m di):=by
 have h1:T=T.take m++T.getD m di::T.drop (m+1):=by rw[<-tdr_step h,List.take_append_drop]
 rw[h1,List.find?_append];unfold firstN at hn;rw[hn];have h2:(T.take m++T.getD m di::T.drop (m+1)).getD m di=T.getD m di:=by rw[<-h1]
 simp only[Option.none_or,List.find?_cons,hp];rw[h2]
open Go.RowKit
def inc(x:List UInt8×Ii):List Value:=[ui x.2.c,ui x.2.n,uw x.2.sp,ui x.2.sl,uw x.2.mp,ui x.2.ml,sd x.2.prim,sd x.1,sd x.2.val,.bool x.2.dead]
def inV(x:List UInt8×Ii):Value:=.agg #[ui x.2.c,ui x.2.n,uw x.2.sp,ui x.2.sl,uw x.2.mp,ui x.2.ml,sd x.2.prim,sd x.1,sd x.2.val,.bool x.2.dead]
theorem inc_len(x:List UInt8×Ii):(inc x).length=10:=rfl
theorem inc_one:∀x,∀u∈inc x,u.oneCell'=true:=fun x u hu=>by simp only[inc,List.mem_cons,List.not_mem_nil,or_false]at hu;rcases hu with rfl|rfl|rfl|rfl|rfl|rfl|rfl|rfl|rfl|rfl<;>rfl
structure InAt(w:World)(b off:Nat)(x:List UInt8×Ii):Prop where
 c0:w.cell? ⟨b,off,none⟩=some (ui x.2.c)
 c1:w.cell? ⟨b,off+1,none⟩=some (ui x.2.n)
 c2:w.cell? ⟨b,off+2,none⟩=some (uw x.2.sp)
 c3:w.cell? ⟨b,off+3,none⟩=some (ui x.2.sl)
 c4:w.cell? ⟨b,off+4,none⟩=some (uw x.2.mp)
 c5:w.cell? ⟨b,off+5,none⟩=some (ui x.2.ml)
 c6:w.cell? ⟨b,off+6,none⟩=some (sd x.2.prim)
 c7:w.cell? ⟨b,off+7,none⟩=some (sd x.1)
 c8:w.cell? ⟨b,off+8,none⟩=some (sd x.2.val)
 c9:w.cell? ⟨b,off+9,none⟩=some (.bool x.2.dead)
theorem InAt.on{w w':World}{b off:Nat}{x:List UInt8×Ii}(h:InAt w b off x)(hb:Below w.heap.size w w'):InAt w' b off x:=by have hl:b<w.heap.size:=World.block_lt_of_cell? _ _ h.c0;have g:∀o,w'.cell? ⟨b,o,none⟩=w.cell? ⟨b,o,none⟩:=fun o=>hb.cell hl;exact⟨by rw[g];exact h.c0,by rw[g];exact h.c1,by rw[g];exact h.c2,by rw[g];exact h.c3,by rw[g];exact h.c4,by rw[g];exact h.c5,by rw[g];exact h.c6,by rw[g];exact h.c7,by rw[g];exact h.c8,by rw[g];exact h.c9⟩
def IsAt(B:Nat)(v:Value)(T:Tb)(w:World):Prop:=RwAt B 10 v T.length (rowC inc T) w
theorem IsAt.el{B:Nat}{ao:Option Addr}{cap:Nat}{T:Tb}{w:World}(h:IsAt B (.slice ao T.length cap) T w){i:Nat}(hi:i<T.length):∃b off,ao=some ⟨b,off,none⟩/\InAt w b (off+i*10) (T.getD i di):=by obtain⟨b,off,e,hc⟩:=rowC_el inc_len di (by omega) rfl h hi;exact⟨b,off,e,⟨hc 0 _ (by omega) rfl,hc 1 _ (by omega) rfl,hc 2 _ (by omega) rfl,hc 3 _ (by omega) rfl,hc 4 _ (by omega) rfl,hc 5 _ (by omega) rfl,hc 6 _ (by omega) rfl,hc 7 _ (by omega) rfl,hc 8 _ (by omega) rfl,hc 9 _ (by omega) rfl⟩⟩
theorem IsAt.shape{B:Nat}{v:Value}{T:Tb}{w:World}(h:IsAt B v T w):∃ao cap,v=.slice ao T.length cap/\T.length<=cap/\cap<=9223372036854775807:=by obtain⟨ao,cap,e,_,h1,h2,_⟩:=h;exact⟨ao,cap,e,h1,h2⟩
theorem block_set{w:World}{b j:Nat}{cs:Array Value}{ty:TypeId}(u:Value)(h:w.heap[b]?=some (.cells cs ty (0,0))):(w.setCell ⟨b,j,none⟩ u).heap[b]?=some (.cells (cs.setIfInBounds j u) ty (0,0)):=by show(w.heap.modify b _)[b]?=_;rw[Array.getElem?_modify,if_pos rfl,h];rfl
theorem block_cell{w:World}{b j:Nat}{cs:Array Value}{ty:TypeId}{u:Value}(h:w.heap[b]?=some (.cells cs ty (0,0)))(hj:cs[j]?=some u):w.cell? ⟨b,j,none⟩=some u:=by unfold World.cell?;rw[h];exact hj
theorem block_frozen{w:World}{b:Nat}{cs:Array Value}{ty:TypeId}(h:w.heap[b]?=some (.cells cs ty (0,0)))(j:Nat):w.frozen? ⟨b,j,none⟩=false:=by unfold World.frozen?;rw[h];simp
theorem ten_set{W:World}{b:Nat}(x:List UInt8×Ii)(h:W.heap[b]?=some (.cells #[ui 0,ui 0,uw 0,ui 0,uw 0,ui 0,su,su,su,.bool false] 69 (0,0))):
  InAt ((((((((((W.setCell ⟨b,0,none⟩ (ui x.2.c)).setCell ⟨b,1,none⟩ (ui x.2.n)).setCell ⟨b,2,none⟩ (uw x.2.sp)).setCell ⟨b,3,none⟩ (ui x.2.sl)).setCell ⟨b,4,none⟩ (uw x.2.mp)).setCell ⟨b,5,none⟩ (ui x.2.ml)).setCell ⟨b,6,none⟩ (sd x.2.prim)).setCell ⟨b,7,none⟩ (sd x.1)).setCell ⟨b,8,none⟩ (sd x.2.val)).setCell ⟨b,9,none⟩ (.bool x.2.dead)) b 0 x:=by
 have h1:(W.setCell ⟨b,0,none⟩ (ui x.2.c)).heap[b]?=some (.cells #[ui x.2.c,ui 0,uw 0,ui 0,uw 0,ui 0,su,su,su,.bool false] 69 (0,0)):=block_set _ h;generalize W.setCell ⟨b,0,none⟩ (ui x.2.c)=W1 at*;have h2:(W1.setCell ⟨b,1,none⟩ (ui x.2.n)).heap[b]?=some (.cells #[ui x.2.c,ui x.2.n,uw 0,ui 0,uw 0,ui 0,su,su,su,.bool false] 69 (0,0)):=block_set _ h1;generalize W1.setCell ⟨b,1,none⟩ (ui x.2.n)=W2 at*;have h3:(W2.setCell ⟨b,2,none⟩ (uw x.2.sp)).heap[b]?=some (.cells #[ui x.2.c,ui x.2.n,uw x.2.sp,ui 0,uw 0,ui 0,su,su,su,.bool false] 69 (0,0)):=block_set _ h2;generalize W2.setCell ⟨b,2,none⟩ (uw x.2.sp)=W3 at*;have h4:(W3.setCell ⟨b,3,none⟩ (ui x.2.sl)).heap[b]?=some (.cells #[ui x.2.c,ui x.2.n,uw x.2.sp,ui x.2.sl,uw 0,ui 0,su,su,su,.bool false] 69 (0,0)):=block_set _ h3;generalize W3.setCell ⟨b,3,none⟩ (ui x.2.sl)=W4 at*;have h5:(W4.setCell ⟨b,4,none⟩ (uw x.2.mp)).heap[b]?=some (.cells #[ui x.2.c,ui x.2.n,uw x.2.sp,ui x.2.sl,uw x.2.mp,ui 0,su,su,su,.bool false] 69 (0,0)):=block_set _ h4;generalize W4.setCell ⟨b,4,none⟩ (uw x.2.mp)=W5 at*;have h6:(W5.setCell ⟨b,5,none⟩ (ui x.2.ml)).heap[b]?=some (.cells #[ui x.2.c,ui x.2.n,uw x.2.sp,ui x.2.sl,uw x.2.mp,ui x.2.ml,su,su,su,.bool false] 69 (0,0)):=block_set _ h5;generalize W5.setCell ⟨b,5,none⟩ (ui x.2.ml)=W6 at*;have h7:(W6.setCell ⟨b,6,none⟩ (sd x.2.prim)).heap[b]?=some (.cells #[ui x.2.c,ui x.2.n,uw x.2.sp,ui x.2.sl,uw x.2.mp,ui x.2.ml,sd x.2.prim,su,su,.bool false] 69 (0,0)):=block_set _ h6;generalize W6.setCell ⟨b,6,none⟩ (sd x.2.prim)=W7 at*;have h8:(W7.setCell ⟨b,7,none⟩ (sd x.1)).heap[b]?=some (.cells #[ui x.2.c,ui x.2.n,uw x.2.sp,ui x.2.sl,uw x.2.mp,ui x.2.ml,sd x.2.prim,sd x.1,su,.bool false] 69 (0,0)):=block_set _ h7;generalize W7.setCell ⟨b,7,none⟩ (sd x.1)=W8 at*;have h9:(W8.setCell ⟨b,8,none⟩ (sd x.2.val)).heap[b]?=some (.cells #[ui x.2.c,ui x.2.n,uw x.2.sp,ui x.2.sl,uw x.2.mp,ui x.2.ml,sd x.2.prim,sd x.1,sd x.2.val,.bool false] 69 (0,0)):=block_set _ h8;generalize W8.setCell ⟨b,8,none⟩ (sd x.2.val)=W9 at*;have h10:(W9.setCell ⟨b,9,none⟩ (.bool x.2.dead)).heap[b]?=some (.cells #[ui x.2.c,ui x.2.n,uw x.2.sp,ui x.2.sl,uw x.2.mp,ui x.2.ml,sd x.2.prim,sd x.1,sd x.2.val,.bool x.2.dead] 69 (0,0)):=block_set _ h9;exact⟨block_cell h10 rfl,block_cell h10 rfl,block_cell h10 rfl,block_cell h10 rfl,block_cell h10 rfl,block_cell h10 rfl,block_cell h10 rfl,block_cell h10 rfl,block_cell h10 rfl,block_cell h10 rfl⟩
theorem ten_below{B b:Nat}{w W:World}(x:List UInt8×Ii)(h:Below B w W)(hb:B<=b):Below B w ((((((((((W.setCell ⟨b,0,none⟩ (ui x.2.c)).setCell ⟨b,1,none⟩ (ui x.2.n)).setCell ⟨b,2,none⟩ (uw x.2.sp)).setCell ⟨b,3,none⟩ (ui x.2.sl)).setCell ⟨b,4,none⟩ (uw x.2.mp)).setCell ⟨b,5,none⟩ (ui x.2.ml)).setCell ⟨b,6,none⟩ (sd x.2.prim)).setCell ⟨b,7,none⟩ (sd x.1)).setCell ⟨b,8,none⟩ (sd x.2.val)).setCell ⟨b,9,none⟩ (.bool x.2.dead)):=((((((((((h.setCell (p:=⟨b,0,none⟩) hb _).setCell (p:=⟨b,1,none⟩) hb _).setCell (p:=⟨b,2,none⟩) hb _).setCell (p:=⟨b,3,none⟩) hb _).setCell (p:=⟨b,4,none⟩) hb _).setCell (p:=⟨b,5,none⟩) hb _).setCell (p:=⟨b,6,none⟩) hb _).setCell (p:=⟨b,7,none⟩) hb _).setCell (p:=⟨b,8,none⟩) hb _).setCell (p:=⟨b,9,none⟩) hb _)
def zi:Ii:=⟨0,0,0,0,0,0,[],[],false⟩
def ofV(k:List UInt8):Option Ii->Value
 |some x=>.tuple #[inV (k,x),.bool true]
 |none=>.tuple #[inV ([],zi),.bool false]
theorem own_nil(base e size:Nat)(w:World):w.ownsRow base e size sy 0 []:=World.ownsRow_nil w base e size
theorem below_own{base e size:Nat}{v:Value}{n:Nat}{cs:List Value}{a w w':World}(hb:Below base a w)(hs:base<=w.heap.size)(hI:w.ownsRow base e size v n cs)(hg:w.grownBy w' v.ownBlock):Below base a w':=
 hb.grown hg hs fun k hk=>(World.ownsRow.lt hI k hk).1
theorem info49:(Tryz.prog.info? 69).map (fun i=>(i.zero,i.size,i.bytes))=some (some (.agg #[ui 0,ui 0,uw 0,ui 0,uw 0,ui 0,su,su,su,.bool false]),10,96):=by kernel_rfl
theorem run_eql32(p l q m:Int)(w:World):(binOp .eql 26 (.agg #[ui p,ui l]) (.agg #[ui q,ui m])).run Tryz.prog w=.ok (.bool (p==q&&l==m)) w:=by by_cases h:p=q<;>by_cases h2:l=m<;>simp[go_sem,h,h2]
theorem in_ow{base n:Nat}{sa:Option Addr}{sc:Nat}{l:Tb}{w:World}(x:List UInt8×Ii)(ho:w.ownsRow base 69 10 (.slice sa n sc) n (rowC inc l))(hb:base<=w.heap.size)(hl:n<1000000):
  Ow base 69 10 (.slice sa n sc) n (rowC inc l) (w.heap.size+1) (.slice (some ⟨w.heap.size,0,none⟩) 1 1) 1 (rowC inc [x]) (w.alloc (.cells (inc x).toArray 69)):=
 ⟨World.ownsRow.alloc ho _,row_one inc 10 inc_len x 69 w (fun j u hj=>block_cell (heap_alloc_new w _) (by simpa using hj)),rowC_cells inc inc_one _,Nat.le_trans hb (by simp),by omega⟩
theorem set_kept'(w:World)(b j:Nat)(u:Value):Kept (fun c=>c=b) w (w.setCell ⟨b,j,none⟩ u):=by have hb:Below b w (w.setCell ⟨b,j,none⟩ u):=(Below.refl b w).setCell (p:=⟨b,j,none⟩) (Nat.le_refl b) u;exact⟨hb.os,hb.tape,hb.output,hb.size,fun k _ hF=>Below.heap_setCell w ⟨b,j,none⟩ u k hF⟩
def rightB(p l:Int):Bool:=decide (p<=281474976710656/\l<=4095)
def lessB(p l q m:Int):Bool:=decide (p<q\/p=q/\l<m)
theorem ret_bool{a b:Bool}(h:a=b):Ending.returned (.bool a)=.returned (.bool b):=by rw[h]
theorem rightP(p l:Int)(w:World):
  Calls Tryz.prog 81 #[.agg #[uw p,ui l]] w fun e w'=>e=.returned (.bool (rightB p l))/\Below w.heap.size w w':=by
 by_cases h1:p<=281474976710656<;>by_cases h2:l<=4095
 all_goals
  go_enter Tryz.func81,Tryz.ntmps81;go_wp2;go_ret;exact⟨ret_bool (by simp[rightB,h1,h2]),(Below.refl _ _).alloc (Nat.le_refl _) _⟩
theorem lessP(p l q m:Int)(w:World):
  Calls Tryz.prog 87 #[.agg #[uw p,ui l],.agg #[uw q,ui m]] w fun e w'=>e=.returned (.bool (lessB p l q m))/\Below w.heap.size w w':=by
 by_cases h:p=q
 ·subst h;go_enter Tryz.func87,Tryz.ntmps87;go_wp2;go_ret;exact⟨ret_bool (by simp[lessB]),((Below.refl _ _).alloc (Nat.le_refl _) _).alloc (by simp) _⟩
 ·have h':(p != q)=true:=by simpa using h
  go_enter Tryz.func87,Tryz.ntmps87;go_wp2;go_ret;exact⟨ret_bool (by simp[lessB,h]),((Below.refl _ _).alloc (Nat.le_refl _) _).alloc (by simp) _⟩
theorem lt_less(a b c d:Int):ltT a b c d=lessB a b c d:=by simp only[ltT,lessB];by_cases h1:a<c<;>by_cases h2:a=c<;>by_cases h3:b<d<;>simp[h1,h2,h3]
def txc(x:Int×Int):List Value:=[ui x.1,ui x.2]
theorem txc_len(x:Int×Int):(txc x).length=2:=rfl
def dtx:Int×Int:=(0,0)
def TsAt(B:Nat)(v:Value)(L:List (Int×Int))(w:World):Prop:=RwAt B 2 v L.length (rowC txc L) w
theorem TsAt.el{B:Nat}{ao:Option Addr}{cap:Nat}{L:List (Int×Int)}{w:World}(h:TsAt B (.slice ao L.length cap) L w){i:Nat}(hi:i<L.length):∃b off,ao=some ⟨b,off,none⟩/\ce w b (off+i*2) (ui (L.getD i dtx).1)/\ce w b (off+i*2+1) (ui (L.getD i dtx).2):=by obtain⟨b,off,e,hc⟩:=rowC_el txc_len dtx (by omega) rfl h hi;exact⟨b,off,e,hc 0 _ (by omega) rfl,hc 1 _ (by omega) rfl⟩
theorem TsAt.shape{B:Nat}{v:Value}{L:List (Int×Int)}{w:World}(h:TsAt B v L w):∃ao cap,v=.slice ao L.length cap/\L.length<=cap/\cap<=9223372036854775807:=by obtain⟨ao,cap,e,_,h1,h2,_⟩:=h;exact⟨ao,cap,e,h1,h2⟩
theorem has_step{L:List (Int×Int)}{m:Nat}{c n:Int}(h:m<L.length):(L.drop m).contains (c,n)=(((L.getD m dtx).1==c&&(L.getD m dtx).2==n)||(L.drop (m+1)).contains (c,n)):=by rw[List.drop_eq_getElem_cons h,show L.getD m dtx=L[m]from by simp[List.getD,h],List.contains_cons];congr 1;generalize L[m]=x;obtain⟨a,b⟩:=x;show((c==a)&&(n==b))=((a==c)&&(b==n));rw[show(c==a)=(a==c)from BEq.comm,show(n==b)=(b==n)from BEq.comm]
def wrc(x:Wr):List Value:=[sd x.key,sd x.val,.bool x.dead]
theorem wrc_len(x:Wr):(wrc x).length=3:=rfl
def dw:Wr:=⟨[],[],false⟩
structure WrAt(w:World)(b off:Nat)(x:Wr):Prop where
 c0:ce w b off (sd x.key)
 c1:ce w b (off+1) (sd x.val)
 c2:ce w b (off+2) (.bool x.dead)
def WsAt(B:Nat)(v:Value)(L:List Wr)(w:World):Prop:=RwAt B 3 v L.length (rowC wrc L) w
theorem WsAt.el{B:Nat}{ao:Option Addr}{cap:Nat}{L:List Wr}{w:World}(h:WsAt B (.slice ao L.length cap) L w){i:Nat}(hi:i<L.length):∃b off,ao=some ⟨b,off,none⟩/\WrAt w b (off+i*3) (L.getD i dw):=by obtain⟨b,off,e,hc⟩:=rowC_el wrc_len dw (by omega) rfl h hi;exact⟨b,off,e,hc 0 _ (by omega) rfl,hc 1 _ (by omega) rfl,hc 2 _ (by omega) rfl⟩
theorem WsAt.shape{B:Nat}{v:Value}{L:List Wr}{w:World}(h:WsAt B v L w):∃ao cap,v=.slice ao L.length cap/\L.length<=cap/\cap<=9223372036854775807:=by obtain⟨ao,cap,e,_,h1,h2,_⟩:=h;exact⟨ao,cap,e,h1,h2⟩
theorem WsAt.on{B:Nat}{v:Value}{L:List Wr}{w w':World}(h:WsAt B v L w)(hb:Below B w w'):WsAt B v L w':=RwAt.on h hb
def RtN(L:List Wr)(m:Nat):Prop:=(∀i,i<m->wOk (L.getD i dw)=true)/\∀i j,i<j->j<m->(L.getD i dw).key≠(L.getD j dw).key
theorem getD_memW{L:List Wr}{i:Nat}(h:i<L.length):L.getD i dw∈L:=by rw[List.getD,List.getElem?_eq_getElem h];exact List.getElem_mem h
theorem right_bad{L:List Wr}{m:Nat}(h:m<L.length)(hw:wOk (L.getD m dw)=false):rightW L=false:=by
 unfold rightW;have:L.all wOk=false:=by rw[List.all_eq_false];exact⟨_,getD_memW h,by rw[hw];simp⟩
 rw[this];simp
theorem nodup_keys{L:List Wr}:(L.map (·.key)).Nodup↔∀i j,i<j->j<L.length->(L.getD i dw).key≠(L.getD j dw).key:=by
 rw[List.nodup_iff_pairwise_ne,List.pairwise_map,List.pairwise_iff_getElem];refine⟨fun h i j hij hj=>?_,fun h i j hi hj hij=>?_⟩
 ·have:=h i j (by omega) hj hij;simpa[List.getD,hj,show i<L.length by omega]using this
 ·have:=h i j hij hj;simpa[List.getD,hj,hi]using this
theorem right_twice{L:List Wr}{k m:Nat}(hk:k<m)(h:m<L.length)(he:(L.getD k dw).key=(L.getD m dw).key):rightW L=false:=by
 unfold rightW;have:decide ((L.map (·.key)).Nodup)=false:=by rw[decide_eq_false_iff_not,nodup_keys];exact fun hn=>hn k m hk h he
 rw[this];simp
theorem right_end{L:List Wr}(h:RtN L L.length):rightW L=(decide (1<=L.length)&&decide (L.length<=16)):=by
 unfold rightW;have h1:L.all wOk=true:=by rw[List.all_eq_true];intro x hx;obtain⟨i,hi,rfl⟩:=List.mem_iff_getElem.1 hx;have:=h.1 i hi;simpa[List.getD,hi]using this
 have h2:decide ((L.map (·.key)).Nodup)=true:=by rw[decide_eq_true_eq,nodup_keys];exact h.2
 rw[h1,h2];simp
theorem RtN.next{L:List Wr}{m:Nat}(h:RtN L m)(hw:wOk (L.getD m dw)=true)(hk:∀i,i<m->(L.getD i dw).key≠(L.getD m dw).key):RtN L (m+1):=by
 refine⟨fun i hi=>?_,fun i j hij hj=>?_⟩
 ·by_cases e:i=m
  ·subst e;exact hw
  ·exact h.1 i (by omega)
 ·by_cases e:j=m
  ·subst e;exact hk i hij
  ·exact h.2 i j hij (by omega)
theorem bl(a b:List UInt8):Op.bytesLess (bs a).toList (bs b).toList=ltK a b:=by rw[bs_list,bs_list];rfl
theorem bel_on{w W W':World}{bx:Nat}(e:w.heap.size=bx)(h:Below bx w W)(hb:Below W.heap.size W W'):Below bx w W':=h.trans (hb.mono (e▸h.size))
def rseB(c n mp ml:Int)(T:Tb):Bool:=decide (0<(byF c n T).length)&&rightB mp ml
def rseF(c n mp ml:Int)(T:Tb):Tb:=if rseB c n mp ml T then raiseF c n mp ml T else T
theorem two_boxes(w:World)(a b:Obj):(((w.alloc a).alloc b).heap[w.heap.size]?=some a)/\(((w.alloc a).alloc b).heap[w.heap.size+1]?=some b)/\Below w.heap.size w ((w.alloc a).alloc b):=by
 have h1:Below (w.alloc a).heap.size (w.alloc a) ((w.alloc a).alloc b):=al _;have s1:(w.alloc a).heap.size=w.heap.size+1:=by simp
 refine⟨?_,?_,?_⟩
 ·rw[h1.block _ (by omega)];exact heap_alloc_new w a
 ·rw[<-s1];exact heap_alloc_new (w.alloc a) b
 ·exact(al a).trans (h1.mono (by omega))
def fsV:Option (List UInt8×Ii)->Value
 |some x=>.tuple #[inV x,.bool true]
 |none=>.tuple #[inV ([],zi),.bool false]
structure Fb(bx:Nat)(ap aq:Int)(w W:World):Prop where
 b0:W.heap[bx]?=some (.cells #[uw ap,ui aq] 28 (0,0))
 b1:W.heap[bx+1]?=some (.cells #[ui 0,ui 0,uw 0,ui 0,uw 0,ui 0,su,su,su,.bool false] 69 (0,0))
 bel:Below bx w W
theorem Fb.on{bx:Nat}{ap aq:Int}{w W W':World}(h:Fb bx ap aq w W)(e:w.heap.size=bx)(hb:Below W.heap.size W W'):Fb bx ap aq w W':=
 ⟨by rw[hb.block bx (gsz h.b0)];exact h.b0,by rw[hb.block (bx+1) (gsz h.b1)];exact h.b1,bel_on e h.bel hb⟩
theorem Fb.two{bx:Nat}{ap aq:Int}{w W:World}(h:Fb bx ap aq w W):ce W bx 0 (uw ap)/\ce W bx 1 (ui aq):=⟨block_cell h.b0 rfl,block_cell h.b0 rfl⟩
theorem in_new(w:World)(k:List UInt8)(x:Ii):InAt (w.alloc (.cells #[ui x.c,ui x.n,uw x.sp,ui x.sl,uw x.mp,ui x.ml,sd x.prim,sd k,sd x.val,.bool x.dead] 69)) w.heap.size 0 (k,x):=by have hc:=heap_alloc_new w (.cells #[ui x.c,ui x.n,uw x.sp,ui x.sl,uw x.mp,ui x.ml,sd x.prim,sd k,sd x.val,.bool x.dead] 69);exact⟨block_cell hc rfl,block_cell hc rfl,block_cell hc rfl,block_cell hc rfl,block_cell hc rfl,block_cell hc rfl,block_cell hc rfl,block_cell hc rfl,block_cell hc rfl,block_cell hc rfl⟩
abbrev Cv:=(Int×Int)×Wr
abbrev Tr:=Go.Deep.BT (List UInt8×Cv)
abbrev Tr.nil:Tr:=Go.Deep.BT.nil
abbrev Tr.node(b:Nat)(l:Tr)(k:List UInt8)(v:Cv)(x:Nat)(r:Tr):Tr:=Go.Deep.BT.node b x (k,v) l r
theorem Tr.ind{motive:Tr->Prop}(nil:motive .nil)(node:∀(b:Nat) (l:Tr) (k:List UInt8) (v:Cv) (x:Nat) (r:Tr),motive l->motive r->motive (.node b l k v x r))(t:Tr):motive t:=by
 induction t with
 |nil=>exact nil
 |node b x a l r ihl ihr=>
  obtain⟨k,v⟩:=a;exact node b l k v x r ihl ihr
theorem Tr.cas{motive:Tr->Prop}(nil:motive .nil)(node:∀(b:Nat) (l:Tr) (k:List UInt8) (v:Cv) (x:Nat) (r:Tr),motive (.node b l k v x r))(t:Tr):motive t:=Tr.ind nil (fun b l k v x r _ _=>node b l k v x r) t
def Tr.toL:Tr->Kv Cv
 |Go.Deep.BT.nil=>[]
 |Go.Deep.BT.node _ _ (k,v) l r=>Tr.toL l++(k,v)::Tr.toL r
def Tr.ptr:Tr->Value
 |Go.Deep.BT.nil=>.pointer none
 |Go.Deep.BT.node b _ _ _ _=>.pointer (some ⟨b,0,none⟩)
def Tr.blocks:Tr->List Nat
 |Go.Deep.BT.nil=>[]
 |Go.Deep.BT.node b _ _ l r=>b::(Tr.blocks l++Tr.blocks r)
structure Lay where
 ty:TypeId
 cells:List UInt8->Cv->Nat->Value->Value->Array Value
def TrAt(Y:Lay):Tr->World->Prop
 |Go.Deep.BT.nil,_=>True
 |Go.Deep.BT.node b x (k,v) l r,w=>w.heap[b]?=some (.cells (Y.cells k v x (Tr.ptr l) (Tr.ptr r)) Y.ty (0,0))/\TrAt Y l w/\TrAt Y r w
theorem TrAt.lt{Y:Lay}{w:World}{t:Tr}:TrAt Y t w->∀b∈t.blocks,b<w.heap.size:=by
 induction t using Tr.ind with
 |nil=>
  intro _ b hb;simp[Tr.blocks]at hb
 |node c l k v x r ihl ihr=>
  intro h b hb;obtain⟨h1,h2,h3⟩:=h;simp only[Tr.blocks,List.mem_cons,List.mem_append]at hb;rcases hb with rfl|hb|hb
  ·exact(Array.getElem?_eq_some_iff.1 h1).1
  ·exact ihl h2 b hb
  ·exact ihr h3 b hb
theorem TrAt.kept{Y:Lay}{F:Nat->Prop}{w w':World}(hk:Kept F w w'){t:Tr}:TrAt Y t w->(∀b∈t.blocks,¬F b)->TrAt Y t w':=by
 induction t using Tr.ind with
 |nil=>exact fun _ _=>trivial
 |node c l k v x r ihl ihr=>
  intro h hF;obtain⟨h1,h2,h3⟩:=h;refine⟨?_,ihl h2 (fun b hb=>hF b (by simp[Tr.blocks,hb])),ihr h3 (fun b hb=>hF b (by simp[Tr.blocks,hb]))⟩;rw[hk.block c (Array.getElem?_eq_some_iff.1 h1).1 (hF c (by simp[Tr.blocks]))];exact h1
theorem TrAt.on{Y:Lay}{w w':World}{t:Tr}(h:TrAt Y t w)(hb:Below w.heap.size w w'):TrAt Y t w':=TrAt.kept (F:=fun _=>False) (Kept.of_below hb) h (fun _ _ h=>h)
theorem TrAt.new{Y:Lay}{w:World}{l r:Tr}(hl:TrAt Y l w)(hr:TrAt Y r w)(k:List UInt8)(v:Cv)(x:Nat):TrAt Y (.node w.heap.size l k v x r) (w.alloc (.cells (Y.cells k v x l.ptr r.ptr) Y.ty)):=
 ⟨heap_alloc_new w _,hl.on (al _),hr.on (al _)⟩
theorem TrAt.write{Y:Lay}{w w':World}{b:Nat}{l r:Tr}{k:List UInt8}{v:Cv}{x:Nat}(hk:Kept (fun c=>c=b) w w')(hb:w'.heap[b]?=some (.cells (Y.cells k v x l.ptr r.ptr) Y.ty (0,0)))(hl:TrAt Y l w)(hr:TrAt Y r w)(hnl:b∉l.blocks)(hnr:b∉r.blocks):TrAt Y (.node b l k v x r) w':=
 ⟨hb,TrAt.kept hk hl (fun _ hc e=>hnl (e▸hc)),TrAt.kept hk hr (fun _ hc e=>hnr (e▸hc))⟩
def kc(K:List (List UInt8)):List Value:=K.map fun k=>sd k
theorem kc_length(K:List (List UInt8)):(kc K).length=K.length:=by simp[kc]
theorem kc_append(K R:List (List UInt8)):kc (K++R)=kc K++kc R:=by simp[kc]
theorem kc_one(K:List (List UInt8)):∀u∈kc K,u.oneCell'=true:=by intro u hu;obtain⟨_,_,rfl⟩:=List.mem_map.1 hu;rfl
theorem info9:(Tryz.prog.info? 9).map (fun i=>(i.zero,i.size,i.bytes))=some (some su,1,16):=by kernel_rfl
theorem ks_one(w:World)(k:List UInt8):RwAt (w.heap.size+1) 1 (.slice (some ⟨w.heap.size,0,none⟩) 1 1) 1 (kc [k]) (w.alloc (.cells #[sd k] 9)):=by
 refine⟨_,1,rfl,rfl,Nat.le_refl _,by omega,fun _=>⟨w.heap.size,0,rfl,fun _=>Nat.lt_succ_self _,fun j u hj=>?_⟩⟩;match j,hj with
 |0,hj=>simp[kc]at hj;subst hj;simp[go_sem]
 |j+1,hj=>simp[kc]at hj
structure Tm where
 sp:Int
 sl:Int
 mp:Int
 ml:Int
 prim:List UInt8
 sv:Option Addr×Nat×Nat
 kl:List (List UInt8)
def tmV(t:Tm):Value:=.agg #[uw t.sp,ui t.sl,uw t.mp,ui t.ml,sd t.prim,.slice t.sv.1 t.sv.2.1 t.sv.2.2]
def zt:Tm:=⟨0,0,0,0,[],(none,0,0),[]⟩
def kx(k:Int×Int):Value:=.agg #[ui k.1,ui k.2]
abbrev Mm:=List ((Int×Int)×Tm)
def getM(k:Int×Int):Mm->Option Tm
 |[]=>none
 |(a,t)::m=>if a=k then some t else getM k m
def setM(k:Int×Int)(v:Tm):Mm->Mm
 |[]=>[(k,v)]
 |(a,t)::m=>if a=k then(k,v)::m else(a,t)::setM k v m
def delM(k:Int×Int):Mm->Mm
 |[]=>[]
 |(a,t)::m=>if a=k then m else(a,t)::delM k m
theorem get_setM(k k':Int×Int)(v:Tm):∀m:Mm,getM k' (setM k v m)=if k=k' then some v else getM k' m
 |[]=>by simp[setM,getM]
 |(a,t)::m=>by
  unfold setM;by_cases h:a=k
  ·subst h;rw[if_pos rfl];simp only[getM];by_cases h2:a=k'
   ·rw[if_pos h2,if_pos h2]
   ·rw[if_neg h2,if_neg h2,if_neg h2]
  ·rw[if_neg h];simp only[getM];rw[get_setM k k' v m];by_cases h2:a=k'
   ·rw[if_pos h2,if_pos h2,if_neg (fun e=>h (h2.trans e.symm))]
   ·rw[if_neg h2,if_neg h2]
theorem get_none{k:Int×Int}:∀{m:Mm},k∉m.map (·.1)->getM k m=none
 |[],_=>rfl
 |(a,t)::m,h=>by simp only[List.map_cons,List.mem_cons,not_or]at h;unfold getM;rw[if_neg (fun e=>h.1 e.symm)];exact get_none h.2
theorem get_mem{k:Int×Int}{t:Tm}:∀{m:Mm},getM k m=some t->(k,t)∈m
 |[],h=>by cases h
 |(a,u)::m,h=>by
  unfold getM at h;split at h
  ·rename_i e;subst e;injection h with h;subst h;exact List.mem_cons_self ..
  ·exact List.mem_cons_of_mem _ (get_mem h)
theorem mem_setM{k:Int×Int}{v:Tm}{x:(Int×Int)×Tm}:∀{m:Mm},x∈setM k v m->x=(k,v)\/x∈m
 |[],h=>by simpa[setM]using h
 |(a,t)::m,h=>by
  unfold setM at h;split at h
  ·rcases List.mem_cons.1 h with e|e
   ·exact .inl e
   ·exact .inr (List.mem_cons_of_mem _ e)
  ·rcases List.mem_cons.1 h with e|e
   ·exact .inr (by rw[e];exact List.mem_cons_self ..)
   ·rcases mem_setM e with e|e
    ·exact .inl e
    ·exact .inr (List.mem_cons_of_mem _ e)
theorem keys_setM(k:Int×Int)(v:Tm):∀m:Mm,(setM k v m).map (·.1)=if k∈m.map (·.1)then m.map (·.1)else m.map (·.1)++[k]
 |[]=>by simp[setM]
 |(a,t)::m=>by
  unfold setM;by_cases h:a=k
  ·subst h;simp
  ·rw[if_neg h];simp only[List.map_cons];rw[keys_setM k v m];by_cases h2:k∈m.map (·.1)
   ·rw[if_pos h2,if_pos (List.mem_cons_of_mem _ h2)]
   ·rw[if_neg h2,if_neg (by simp only[List.mem_cons,not_or];exact⟨fun e=>h e.symm,h2⟩)];rfl
theorem nd_setM{k:Int×Int}{v:Tm}{m:Mm}(h:(m.map (·.1)).Nodup):((setM k v m).map (·.1)).Nodup:=by
 rw[keys_setM];split
 ·exact h
 ·rename_i h2;rw[List.nodup_append];exact⟨h,by simp,fun a ha b hb=>by simp at hb;subst hb;exact fun e=>h2 (e▸ha)⟩
theorem del_sub{k:Int×Int}:∀m:Mm,(delM k m).Sublist m
 |[]=>List.Sublist.slnil
 |(a,t)::m=>by
  unfold delM;split
  ·exact List.sublist_cons_self _ _
  ·exact List.Sublist.cons_cons _ (del_sub m)
theorem nd_delM{k:Int×Int}{m:Mm}(h:(m.map (·.1)).Nodup):((delM k m).map (·.1)).Nodup:=h.sublist ((del_sub m).map _)
theorem get_delM{k k':Int×Int}:∀{m:Mm},(m.map (·.1)).Nodup->getM k' (delM k m)=if k=k' then none else getM k' m
 |[],_=>by simp[delM,getM]
 |(a,t)::m,hn=>by
  simp only[List.map_cons,List.nodup_cons]at hn;unfold delM;by_cases h:a=k
  ·subst h;rw[if_pos rfl];by_cases h2:a=k'
   ·subst h2;rw[if_pos rfl];exact get_none hn.1
   ·rw[if_neg h2];simp only[getM];rw[if_neg h2]
  ·rw[if_neg h];simp only[getM];rw[get_delM hn.2];by_cases h2:a=k'
   ·rw[if_pos h2,if_pos h2,if_neg (fun e=>h (h2.trans e.symm))]
   ·rw[if_neg h2,if_neg h2]
def GmAt(b:Nat)(m:Mm)(w:World):Prop:=∃es clock,w.heap[b]?=some (.map es clock)/\es.toList.map (fun e=>(e.key,e.val))=m.map (fun x=>(kx x.1,tmV x.2))
theorem GmAt.kept{b:Nat}{m:Mm}{w w':World}{F:Nat->Prop}(h:GmAt b m w)(hk:Kept F w w')(hF:¬F b):GmAt b m w':=by obtain⟨es,cl,h1,h2⟩:=h;exact⟨es,cl,by rw[hk.block b (gsz h1) hF];exact h1,h2⟩
theorem GmAt.lt{b:Nat}{m:Mm}{w:World}(h:GmAt b m w):b<w.heap.size:=by obtain⟨es,cl,h1,_⟩:=h;exact(gsz h1)
theorem GmAt.new(w:World):GmAt w.heap.size [] (w.alloc (.map #[] 0)):=⟨#[],0,heap_alloc_new w _,rfl⟩
theorem run_same(a b:Int×Int)(w:World):(Op.equal 26 (kx a) (kx b)).run Tryz.prog w=.ok (decide (a=b)) w:=by obtain⟨p,l⟩:=a;obtain⟨q,m⟩:=b;show(Op.equalIn 10000 26 (.agg #[ui p,ui l]) (.agg #[ui q,ui m])).run Tryz.prog w=_;by_cases h:p=q<;>by_cases h2:l=m<;>simp[go_sem,h,h2]
theorem run_check1(n:Nat)(k:Int)(em:Bool)(w:World):(Instr.checkKey em (n+1) 24 (ui k)).run Tryz.prog w=.ok () w:=by unfold Instr.checkKey;simp[go_sem]
theorem run_check2(n:Nat)(k:Int×Int)(em:Bool)(w:World):(Instr.checkKey em (n+1+1) 26 (kx k)).run Tryz.prog w=.ok () w:=by unfold kx;unfold Instr.checkKey;simp[go_sem,run_check1]
theorem run_check(k:Int×Int)(em:Bool)(w:World):(Instr.checkKey em 10000 26 (kx k)).run Tryz.prog w=.ok () w:=run_check2 9998 k em w
def findI(k:Int×Int):Mm->Nat->Option (Nat×Value)
 |[],_=>none
 |(a,t)::m,i=>if k=a then some (i,tmV t)else findI k m (i+1)
theorem find_none{k:Int×Int}:∀{m:Mm} {i:Nat},getM k m=none->findI k m i=none
 |[],_,_=>rfl
 |(a,t)::m,i,h=>by
  unfold getM at h;split at h
  ·cases h
  ·rename_i e;unfold findI;rw[if_neg (fun e2=>e e2.symm)];exact find_none h
theorem find_some{k:Int×Int}{t:Tm}:∀{m:Mm} {i:Nat},getM k m=some t->∃j,findI k m i=some (i+j,tmV t)/\m[j]?=some (k,t)/\(∀v,setM k v m=m.set j (k,v))/\delM k m=m.eraseIdx j
 |[],_,h=>by cases h
 |(a,u)::m,i,h=>by
  unfold getM at h;split at h
  ·rename_i e;subst e;injection h with h;subst h;refine⟨0,by unfold findI;rw[if_pos rfl];rfl,rfl,fun v=>?_,?_⟩
   ·unfold setM;rw[if_pos rfl];rfl
   ·unfold delM;rw[if_pos rfl];rfl
  ·rename_i e;obtain⟨j,h1,h2,h3,h4⟩:=find_some (i:=i+1) h;refine⟨j+1,?_,h2,fun v=>?_,?_⟩
   ·unfold findI;rw[if_neg (fun e2=>e e2.symm),h1];congr 2;omega
   ·unfold setM;rw[if_neg e,h3 v];rfl
   ·unfold delM;rw[if_neg e,h4];rfl
theorem run_ask(k:Int×Int)(w:World):∀(es:List MapEntry) (m:Mm) (i:Nat),es.map (fun e=>(e.key,e.val))=m.map (fun x=>(kx x.1,tmV x.2))->(Instr.findAsking 26 (kx k) es i).run Tryz.prog w=.ok (findI k m i) w
 |[],[],i,_=>rfl
 |[],x::m,_,h=>by cases h
 |e::es,[],_,h=>by cases h
 |e::es,(a,t)::m,i,h=>by
  simp only[List.map_cons,List.cons.injEq,Prod.mk.injEq]at h;obtain⟨⟨h1,h2⟩,h3⟩:=h;unfold Instr.findAsking findI;simp only[h1,h2,Sem.run_bind,run_same,Result.andThen];by_cases e1:k=a
  ·rw[if_pos e1];simp[e1]
  ·rw[if_neg e1];simp[e1,run_ask k w es m (i+1) h3]
theorem run_findK(k:Int×Int){es:List MapEntry}{m:Mm}(h:es.map (fun e=>(e.key,e.val))=m.map (fun x=>(kx x.1,tmV x.2)))(w:World):(Instr.findKey 26 (kx k) es).run Tryz.prog w=.ok (findI k m 0) w:=by rw[run_findKey_eq w (by kernel_rfl)];exact run_ask k w es m 0 h
theorem run_look{b:Nat}{m:Mm}{w:World}(h:GmAt b m w)(k:Int×Int):(Instr.lookup 124 (.map (some b)) (kx k) false).run Tryz.prog w=.ok (tmV ((getM k m).getD zt)) w:=by
 obtain⟨es,cl,h1,h2⟩:=h;cases hg:getM k m with
 |none=>
  simp[Instr.lookup,run_underlying Tryz.underlying124,MapKept.run_getObj_map h1,run_check,run_findK k h2,find_none (i:=0) hg,Result.andThen];rfl
 |some t=>
  obtain⟨j,g1,_⟩:=find_some (i:=0) hg;simp[Instr.lookup,run_underlying Tryz.underlying124,MapKept.run_getObj_map h1,run_check,run_findK k h2,g1,Result.andThen]
theorem run_look2{b:Nat}{m:Mm}{w:World}(h:GmAt b m w)(k:Int×Int):(Instr.lookup 124 (.map (some b)) (kx k) true).run Tryz.prog w=.ok (.tuple #[tmV ((getM k m).getD zt),.bool (getM k m).isSome]) w:=by
 obtain⟨es,cl,h1,h2⟩:=h;cases hg:getM k m with
 |none=>
  simp[Instr.lookup,run_underlying Tryz.underlying124,MapKept.run_getObj_map h1,run_check,run_findK k h2,find_none (i:=0) hg,Result.andThen];rfl
 |some t=>
  obtain⟨j,g1,_⟩:=find_some (i:=0) hg;simp[Instr.lookup,run_underlying Tryz.underlying124,MapKept.run_getObj_map h1,run_check,run_findK k h2,g1,Result.andThen]
theorem setB{w:World}{b:Nat}{o o':Obj}(h:w.heap[b]?=some o):Kept (fun i=>i=b) w {w with heap:=w.heap.setIfInBounds b o'}:=⟨rfl,rfl,rfl,by simp,fun k _ hk=>(MapKept.heap_set h).2 k hk⟩
theorem sameBits_kx(n:Nat)(k:Int×Int):Instr.sameBits (n+1) (kx k) (kx k)=true:=by simp[kx,Instr.sameBits]
theorem run_upd{b:Nat}{m:Mm}{w:World}(h:GmAt b m w)(k:Int×Int)(v:Tm):∃w',(Instr.mapUpdate 124 (.map (some b)) (kx k) (tmV v)).run Tryz.prog w=.ok () w'/\GmAt b (setM k v m) w'/\Kept (fun i=>i=b) w w':=by
 obtain⟨es,cl,h1,h2⟩:=h;cases hg:getM k m with
 |none=>
  refine⟨_,?_,⟨es.push ⟨kx k,tmV v,cl⟩,cl+1,(MapKept.heap_set h1).1,?_⟩,setB h1⟩
  ·simp[Instr.mapUpdate,run_underlying Tryz.underlying124,MapKept.run_getObj_map h1,run_check,run_findK k h2,find_none (i:=0) hg,MapKept.run_setObj_map _ h1,Result.andThen]
  ·have:setM k v m=m++[(k,v)]:=by
    clear h2;induction m with
    |nil=>rfl
    |cons x m ih=>
     obtain⟨a,t⟩:=x;unfold getM at hg;split at hg
     ·cases hg
     ·rename_i e;unfold setM;rw[if_neg e,ih hg];rfl
   rw[this,Array.toList_push,List.map_append,List.map_append,h2];rfl
 |some t=>
  obtain⟨j,g1,g2,g3,_⟩:=find_some (i:=0) hg;have hl:es.toList.length=m.length:=by have:=congrArg List.length h2;simpa using this
  have hj:j<m.length:=(List.getElem?_eq_some_iff.1 g2).1;have hje:es.toList[j]?=some (es.toList[j]'(by omega)):=List.getElem?_eq_getElem (by omega);generalize es.toList[j]'(by omega)=e0 at hje;have hk0:e0.key=kx k:=by
   have a1:(es.toList.map (fun e=>(e.key,e.val)))[j]?=some (e0.key,e0.val):=by rw[List.getElem?_map,hje];rfl
   rw[h2,List.getElem?_map,g2]at a1;simp only[Option.map_some,Option.some.injEq,Prod.mk.injEq]at a1;exact a1.1.symm
  have hja:es[j]?=some e0:=by simpa using hje
  refine⟨_,?_,⟨es.modify j (fun e'=>{e' with key:=kx k,val:=tmV v}),cl,(MapKept.heap_set h1).1,?_⟩,setB h1⟩
  ·simp[Instr.mapUpdate,run_underlying Tryz.underlying124,MapKept.run_getObj_map h1,run_check,run_findK k h2,g1,hja,hk0,Instr.keyThatStays,sameBits_kx 9999 k,MapKept.run_setObj_map _ h1,Result.andThen]
  ·rw[g3 v,Array.toList_modify,ChangeMaps.modify_eq_set _ _ _ _ hje,List.map_set,List.map_set,h2]
theorem run_del{b:Nat}{m:Mm}{w:World}(h:GmAt b m w)(k:Int×Int):∃w',(∀ty:TypeId,(Builtin.delete_ #[124,26] ty #[.map (some b),kx k]).run Tryz.prog w=.ok (.tuple #[]) w')/\GmAt b (delM k m) w'/\Kept (fun i=>i=b) w w':=by
 obtain⟨es,cl,h1,h2⟩:=h;cases hg:getM k m with
 |none=>
  refine⟨_,fun ty=>?_,⟨es,cl,(MapKept.heap_set h1).1,?_⟩,setB h1⟩
  ·simp[Builtin.delete_,run_underlying Tryz.underlying124,MapKept.run_getObj_map h1,run_check,run_findK k h2,find_none (i:=0) hg,MapKept.run_setObj_map _ h1,Result.andThen]
  ·have:delM k m=m:=by
    clear h2;induction m with
    |nil=>rfl
    |cons x m ih=>
     obtain⟨a,t⟩:=x;unfold getM at hg;split at hg
     ·cases hg
     ·rename_i e;unfold delM;rw[if_neg e,ih hg]
   rw[this,h2]
 |some t=>
  obtain⟨j,g1,g2,_,g4⟩:=find_some (i:=0) hg;have hl:es.toList.length=m.length:=by have:=congrArg List.length h2;simpa using this
  have hj:j<m.length:=(List.getElem?_eq_some_iff.1 g2).1;have hjs:j<es.size:=by simpa using(by omega:j<es.toList.length)
  refine⟨_,fun ty=>?_,⟨es.eraseIdxIfInBounds j,cl,(MapKept.heap_set h1).1,?_⟩,setB h1⟩
  ·simp[Builtin.delete_,run_underlying Tryz.underlying124,MapKept.run_getObj_map h1,run_check,run_findK k h2,g1,MapKept.run_setObj_map _ h1,Result.andThen]
  ·rw[g4];have e1:(es.eraseIdxIfInBounds j).toList=es.toList.eraseIdx j:=by simp[Array.eraseIdxIfInBounds,hjs]
   rw[e1,ChangeMaps.map_eraseIdx,ChangeMaps.map_eraseIdx,h2]
end Go.Proofs.YtdplfgcoaddbdaaGreat.Lat
