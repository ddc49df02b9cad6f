import Derived.WideKeyRuns
import Derived.Maps.Range
import Derived.RangeFuncNested
import Derived.Test.YtnfpfbehebcdpaaGreatUar
set_option maxHeartbeats 0
set_option maxRecDepth 99999
set_option linter.all false
namespace Go.Proofs.YtnfpfbehebcdpaaGreat.Ver
open Go.RowKit
namespace Gv
def kx(k:Int×Int):Value:=.agg #[ui k.1,ui k.2]
def Zl(a b:Int×Int)(w:World):(Op.equal 36 (kx a) (kx b)).run Tryz.prog w=.ok (decide (a=b)) w:=by obtain⟨p,l⟩:=a;obtain⟨q,m⟩:=b;show(Op.equalIn 10000 36 (.agg #[ui p,ui l]) (.agg #[ui q,ui m])).run Tryz.prog w=_;by_cases h:p=q<;>by_cases h2:l=m<;>simp[go_sem,h,h2]
def Uf(n:Nat)(k:Int)(em:Bool)(w:World):(Instr.checkKey em (n+1) 34 (ui k)).run Tryz.prog w=.ok () w:=by unfold Instr.checkKey;simp[go_sem]
def Ue(n:Nat)(k:Int×Int)(em:Bool)(w:World):(Instr.checkKey em (n+1+1) 36 (kx k)).run Tryz.prog w=.ok () w:=by unfold kx;unfold Instr.checkKey;simp[go_sem,Uf]
def Em(k:Int×Int)(em:Bool)(w:World):(Instr.checkKey em 10000 36 (kx k)).run Tryz.prog w=.ok () w:=Ue 9998 k em w
def Qv(n:Nat)(k:Int×Int):Instr.sameBits (n+1) (kx k) (kx k)=true:=by simp[kx,Instr.sameBits]
def agy{w:World}{b:Nat}{o o':Obj}(h:w.heap[b]?=some o):Kept (λi=>i=b) w {w with heap:=w.heap.setIfInBounds b o'}:=⟨rfl,rfl,rfl,by simp,λk _ hk=>(pq h).2 k hk⟩
def Df{β:Type}{l:List β}{j:Nat}{a:β}(h:l[j]?=some a):l.set j a=l:=by
 refine List.ext_getElem? (λi=>?_);rw[List.getElem?_set];split
 .rename_i e;subst e;rw[ah (gu.1 h).1,h]
 .rfl
section
variable {α:Type}(key:α->Int×Int)(val:α->Value)
def Ek(es:List MapEntry)(m:List α):Prop:=es.map (λe=>(e.key,e.val))=m.map (λx=>(kx (key x),val x))
def isK(k:Int×Int)(x:α):Bool:=decide (key x=k)
def idx(k:Int×Int):List α->Nat->Option (Nat×α)
 |[],_=>none
 |x::m,i=>if k=key x then some (i,x)else idx k m (i+1)
variable {key val}
def Ek.len{es:List MapEntry}{m:List α}(h:Ek key val es m):es.length=m.length:=by have:=iq List.length h;simpa using this
def Vg{k:Int×Int}:∀{m:List α} {i:Nat},m.find? (isK key k)=none->idx key k m i=none
 |[],_,_=>rfl
 |x::m,i,h=>by
  simp only[List.find?_cons]at h;split at h
  .cases h
  .rename_i e;unfold idx;rw[ag (λe2=>by simp[isK,e2]at e)];exact Vg h
def Q7{k:Int×Int}{x:α}:∀{m:List α} {i:Nat},m.find? (isK key k)=some x->∃j,idx key k m i=some (i+j,x)/\m[j]?=some x/\key x=k
 |[],_,h=>by cases h
 |y::m,i,h=>by
  simp only[List.find?_cons]at h;split at h
  .rename_i e;injection h with h;subst h;have e':key y=k:=by simpa[isK]using e
   exact⟨0,by unfold idx;rw[ah e'.symm];rfl,rfl,e'⟩
  .rename_i e;obtain⟨j,h1,h2,h3⟩:=Q7 (i:=i+1) h;refine⟨j+1,?_,h2,h3⟩;unfold idx;rw[ag (λe2=>by simp[isK,e2]at e),h1];congr 2;omega
def U3(k:Int×Int)(w:World):∀(es:List MapEntry) (m:List α) (i:Nat),Ek key val es m->(Instr.findAsking 36 (kx k) es i).run Tryz.prog w=.ok ((idx key k m i).map λp=>(p.1,val p.2)) w
 |[],[],i,_=>rfl
 |[],x::m,_,h=>by cases h
 |e::es,[],_,h=>by cases h
 |e::es,x::m,i,h=>by
  simp only[Ek,jd,pg,ny]at h;obtain⟨⟨h1,h2⟩,h3⟩:=h;unfold Instr.findAsking idx;simp only[h1,h2,Sem.run_bind,Zl,Result.andThen];by_cases e1:k=key x
  .rw[ah e1];simp[e1]
  .rw[ag e1];simp[e1,U3 k w es m (i+1) h3]
def Ej(k:Int×Int){es:List MapEntry}{m:List α}(h:Ek key val es m)(w:World):(Instr.findKey 36 (kx k) es).run Tryz.prog w=.ok ((idx key k m 0).map λp=>(p.1,val p.2)) w:=by rw[run_findKey_eq w (by kernel_rfl)];exact U3 k w es m 0 h
variable (key val)
def At(b:Nat)(m:List α)(w:World):Prop:=∃es clock,w.heap[b]?=some (.map es clock)/\Ek key val es.toList m/\(es.toList.map (·.born)).Nodup/\∀e∈es.toList,e.born<clock
variable {key val}
def At.kept{b:Nat}{m:List α}{w w':World}{F:Nat->Prop}(h:At key val b m w)(hk:Kept F w w')(hF:¬F b):At key val b m w':=by obtain⟨es,cl,h1,h2⟩:=h;exact⟨es,cl,by rw[hk.block b (gsz h1) hF];exact h1,h2⟩
def At.on{b:Nat}{m:List α}{w w':World}(h:At key val b m w)(hb:Bw w w'):At key val b m w':=h.kept (F:=λ_=>False) (Kept.of_below hb) (λh=>h)
def At.lt{b:Nat}{m:List α}{w:World}(h:At key val b m w):b<w.heap.size:=by obtain⟨es,cl,h1,_⟩:=h;exact(gsz h1)
def At.new(w:World):At key val w.heap.size [] (w.alloc (.map #[] 0)):=⟨#[],0,ae w _,rfl,by simp,by simp⟩
def At.size{b:Nat}{m:List α}{w:World}(h:At key val b m w)(t e:TypeId)(ht:Tryz.prog.underlying t=some (.map 36 e))(ty:TypeId):(Builtin.len_ #[t] ty #[.map (some b)]).run Tryz.prog w=.ok (iw m.length) w:=by
 obtain⟨es,cl,h1,h2,_⟩:=h;have:es.size=m.length:=by rw[<-h2.len];simp
 simp[Builtin.len_,jw ht,jf h1,Result.andThen,this,goInt]
def ae2{t e b:Nat}{m:List α}{w:World}(ht:Tryz.prog.underlying t=some (.map 36 e))(h:At key val b m w)(v:α)(hg:m.find? (isK key (key v))=none):∃w',(Instr.mapUpdate t (.map (some b)) (kx (key v)) (val v)).run Tryz.prog w=.ok () w'/\At key val b (m++[v]) w'/\Kept (λi=>i=b) w w'/\w'.heap.size=w.heap.size:=by
 obtain⟨es,cl,h1,h2,h3,h4⟩:=h;refine⟨_,?_,⟨es.push ⟨kx (key v),val v,cl⟩,cl+1,(pq h1).1,?_,?_,?_⟩,agy h1,by simp⟩
 .simp[Instr.mapUpdate,jw ht,jf h1,Em,Ej (key v) h2,Vg (i:=0) hg,ru _ h1,Result.andThen]
 .unfold Ek;rw[Array.toList_push,mi,mi,h2];rfl
 .rw[Array.toList_push,mi,ik];refine⟨h3,by simp,λa ha b' hb'=>?_⟩;simp at hb';subst hb';obtain⟨x,hx,rfl⟩:=je.1 ha;have:=h4 x hx;omega
 .intro x hx;rw[Array.toList_push]at hx;rcases bu.1 hx with hx|hx
  .have:=h4 x hx;omega
  .simp at hx;subst hx;exact kw _
def ae1{t e b:Nat}{m:List α}{w:World}(ht:Tryz.prog.underlying t=some (.map 36 e))(h:At key val b m w)(v:α){x:α}(hg:m.find? (isK key (key v))=some x):∃w' j,(Instr.mapUpdate t (.map (some b)) (kx (key v)) (val v)).run Tryz.prog w=.ok () w'/\m[j]?=some x/\At key val b (m.set j v) w'/\Kept (λi=>i=b) w w'/\w'.heap.size=w.heap.size:=by
 obtain⟨es,cl,h1,h2,h3,h4⟩:=h;obtain⟨j,g1,g2,g3⟩:=Q7 (i:=0) hg;have hl:=h2.len;have hj:j<m.length:=(gu.1 g2).1;have hje:es.toList[j]?=some (es.toList[j]'(by omega)):=bf (by omega);generalize es.toList[j]'(by omega)=e0 at hje;have hk0:e0.key=kx (key v):=by
  have a1:(es.toList.map (λe=>(e.key,e.val)))[j]?=some (e0.key,e0.val):=by rw[qm,hje];rfl
  rw[h2,qm,g2]at a1;simp only[yg,ja,ny]at a1;rw[<-a1.1,g3]
 have hja:es[j]?=some e0:=by simpa using hje
 have hmod:(es.modify j (λe'=>{e' with key:=kx (key v),val:=val v})).toList=es.toList.set j {e0 with key:=kx (key v),val:=val v}:=by rw[Array.toList_modify,ChangeMaps.modify_eq_set _ _ _ _ hje]
 refine⟨_,j,?_,g2,⟨es.modify j (λe'=>{e' with key:=kx (key v),val:=val v}),cl,(pq h1).1,?_,?_,?_⟩,agy h1,by simp⟩
 .simp[Instr.mapUpdate,jw ht,jf h1,Em,Ej (key v) h2,g1,hja,hk0,Instr.keyThatStays,Qv 9999 (key v),ru _ h1,Result.andThen]
 .unfold Ek;rw[hmod,List.map_set,List.map_set,h2]
 .rw[hmod,List.map_set];have:(es.toList.map (·.born)).set j e0.born=es.toList.map (·.born):=Df (by rw[qm,hje];rfl);show((es.toList.map (·.born)).set j e0.born).Nodup;rw[this];exact h3
 .intro y hy;rw[hmod]at hy;rcases List.mem_or_eq_of_mem_set hy with hy|rfl
  .exact h4 y hy
  .exact h4 e0 (xh hje)
variable (key val)
def Rg(b r:Nat)(m left:List α)(w:World):Prop:=∃es clock since seen c0,w.heap[b]?=some (.map es clock)/\Ek key val es.toList m/\(es.toList.map (·.born)).Nodup/\(∀e∈es.toList,e.born<clock)/\w.heap[r]?=some (.mapIter (some b) since seen c0)/\(∀e∈es.toList,e.born<since)/\since<=c0/\since<=clock/\Ek key val (es.toList.filter λe=> !seen.contains e.born) left
variable {key val}
def Rg.at{b r:Nat}{m left:List α}{w:World}(h:Rg key val b r m left w):At key val b m w:=by obtain⟨es,cl,since,seen,c0,h1,h2,h3,h4,_⟩:=h;exact⟨es,cl,h1,h2,h3,h4⟩
def Rg.lt{b r:Nat}{m left:List α}{w:World}(h:Rg key val b r m left w):r<w.heap.size:=by obtain⟨es,cl,since,seen,c0,h1,h2,h3,h4,h5,_⟩:=h;exact(gsz h5)
def Rg.ne{b r:Nat}{m left:List α}{w:World}(h:Rg key val b r m left w):r≠b:=by obtain⟨es,cl,since,seen,c0,h1,h2,h3,h4,h5,_⟩:=h;intro e;rw[e,h1]at h5;cases h5
def Rg.walk{b r:Nat}{m left:List α}{w:World}(h:Rg key val b r m left w):∃o:Obj,w.heap[r]?=some o/\o.isWalk=true:=by obtain⟨es,cl,since,seen,c0,h1,h2,h3,h4,h5,_⟩:=h;exact⟨_,h5,rfl⟩
def Rg.kept{b r:Nat}{m left:List α}{w w':World}{F:Nat->Prop}(h:Rg key val b r m left w)(hk:Kept F w w')(hb:¬F b)(hr:¬F r):Rg key val b r m left w':=by have l1:=h.at.lt;have l2:=h.lt;obtain⟨es,cl,since,seen,c0,h1,h2,h3,h4,h5,h6⟩:=h;exact⟨es,cl,since,seen,c0,by rw[hk.block b l1 hb];exact h1,h2,h3,h4,by rw[hk.block r l2 hr];exact h5,h6⟩
def Rg.on{b r:Nat}{m left:List α}{w w':World}(h:Rg key val b r m left w)(hb:Bw w w'):Rg key val b r m left w':=h.kept (F:=λ_=>False) (Kept.of_below hb) (λh=>h) (λh=>h)
def Rg.walks{b r:Nat}{m left:List α}{w w':World}(h:Rg key val b r m left w)(hk:KeepsWalks w w'):Rg key val b r m left w':=by obtain⟨es,cl,since,seen,c0,h1,h2,h3,h4,h5,h6⟩:=h;exact⟨es,cl,since,seen,c0,hk.same b _ h1 rfl,h2,h3,h4,hk.same r _ h5 rfl,h6⟩
def Rg.left_eq{b r:Nat}{m left:List α}{w:World}(h:Rg key val b r m left w):w.rangeLeft b r=left.length:=by obtain⟨es,cl,since,seen,c0,h1,h2,h3,h4,h5,h6,h7,h8,h9⟩:=h;simp only[World.rangeLeft,h1,h5];rw[<-h9.len];unfold leftOf;rw[<-Array.toList_filter,Array.length_toList]
def abn{t e b:Nat}{m:List α}{w:World}(ht:Tryz.prog.underlying t=some (.map 36 e))(h:At key val b m w):∃w',(Instr.range t (.map (some b))).run Tryz.prog w=.ok (pz w.heap.size) w'/\Rg key val b w.heap.size m m w'/\w.grownBy w' none/\w'.heap.size=w.heap.size+1:=by have hlt:=h.lt;obtain⟨es,cl,h1,h2,h3,h4⟩:=h;refine⟨_,run_range_map w t 36 e b es cl ht h1,⟨es,cl,cl,#[],cl,((MapKept.heap_alloc w _).2 b hlt).trans h1,h2,h3,h4,(MapKept.heap_alloc w _).1,h4,ai _,ai _,?_⟩,World.grownBy_alloc w _ none,by simp⟩;rw[o5.2 (λa _=>by simp)];exact h2
def aq5{l1 l2:List MapEntry}{e:MapEntry}{L:List α}(h:Ek key val (l1++e::l2) L):∃L1 x L2,L=L1++x::L2/\e.key=kx (key x)/\e.val=val x/\Ek key val (l1++l2) (L1++L2):=by unfold Ek at h;rw[mi,jd]at h;obtain⟨L1,R,rfl,h1,h2⟩:=List.map_eq_append_iff.1 h.symm;obtain⟨x,L2,rfl,h3,h4⟩:=List.map_eq_cons_iff.1 h2;simp only[ny]at h3;exact⟨L1,x,L2,rfl,h3.1.symm,h3.2.symm,by unfold Ek;rw[mi,mi,h1,h4]⟩
def af1{es:List MapEntry}{seen:Array Nat}{e:MapEntry}(hn:(es.map (·.born)).Nodup)(he:e∈es.filter λx=> !seen.contains x.born):∃l1 l2,(es.filter λx=> !seen.contains x.born)=l1++e::l2/\(es.filter λx=> !(seen.push e.born).contains x.born)=l1++l2:=by
 obtain⟨l1,l2,hs⟩:=List.append_of_mem he;refine⟨l1,l2,hs,?_⟩;have e1:(es.filter λx=> !(seen.push e.born).contains x.born)=(es.filter λx=> !seen.contains x.born).filter λx=> !(x.born==e.born):=by rw[List.filter_filter];refine List.filter_congr (λx _=>?_);rw[contains_push];cases seen.contains x.born<;>cases(x.born==e.born)<;>rfl
 have hn2:((l1++e::l2).map (·.born)).Nodup:=by rw[<-hs];exact hn.sublist (List.filter_sublist.map _)
 rw[e1,hs,List.filter_append,yf];simp only[beq_self_eq_true,Bool.not_true,o7,if_false];rw[mi,jd,ik]at hn2;obtain⟨_,h2,h3⟩:=hn2;rw[gz]at h2;congr 1
 .refine o5.2 (λx hx=>?_);have:x.born≠e.born:=h3 _ (je.2 ⟨x,hx,rfl⟩) _ (ji ..);simpa using this
 .refine o5.2 (λx hx=>?_);have:x.born≠e.born:=λh=>h2.1 (je.2 ⟨x,hx,h⟩);simpa using this
def Rg.next{b r:Nat}{m left:List α}{w:World}(h:Rg key val b r m left w)(ty:TypeId):
  (left=[]/\(Instr.next (pz r) false ty).run Tryz.prog w=.ok (.tuple #[.bool false]) w)\/
  ∃L1 x L2 w',left=L1++x::L2/\(Instr.next (pz r) false ty).run Tryz.prog w=.ok (.tuple #[.bool true,kx (key x),val x]) w'/\Rg key val b r m (L1++L2) w'/\w.grownBy w' (some r)/\w'.heap.size=w.heap.size/\(Instr.entry (pz r)).run Tryz.prog w'=.ok (.tuple #[kx (key x),val x]) w':=by
 have hne:=h.ne;obtain⟨es,clock,since,seen,c0,hb,h2,h3,h4,hr,hold,hsc,hsk,hl⟩:=h;have hfl:(leftOf es seen).toList=es.toList.filter λe=> !seen.contains e.born:=by unfold leftOf;rw[Array.toList_filter]
 rcases run_next_at (P:=Tryz.prog) w ty r b since c0 seen es clock hr hb hold hsc with⟨h0,hrun⟩|⟨e,he,w1,hal,hrun⟩
 .refine .inl ⟨?_,hrun⟩;have:(leftOf es seen).toList.length=0:=by rw[Array.length_toList];exact h0
  rw[hfl,hl.len]at this;exact lm this
 .rw[hfl]at he;have hem:e∈es.toList:=(jh.1 he).1;obtain⟨l1,l2,s1,s2⟩:=af1 h3 he;rw[s1]at hl;obtain⟨L1,x,L2,rfl,k1,k2,k3⟩:=aq5 hl;have hr1:w1.heap[r]?=some (.mapIter (some b) since seen c0):=by rcases hal with rfl|rfl<;>exact hr
  have hb1:w1.heap[b]?=some (.map es clock):=by rcases hal with rfl|rfl<;>exact hb
  have hset:=pq (o':=.mapIter (some b) since (seen.push e.born) clock) hr1;have hb':(ChangeMaps.setBlock w1 r (.mapIter (some b) since (seen.push e.born) clock)).heap[b]?=some (.map es clock):=(hset.2 b (λe1=>hne e1.symm)).trans hb1;refine .inr ⟨L1,x,L2,_,rfl,by rw[hrun,k1,k2],⟨es,clock,since,seen.push e.born,clock,hb',h2,h3,h4,hset.1,hold,hsk,hsk,by rw[s2];exact k3⟩,?_,?_,?_⟩
  .rcases hal with rfl|rfl<;>exact⟨rfl,rfl,rfl,by simp[ChangeMaps.setBlock],λi _ hi=>hset.2 i (λe1=>hi (by rw[e1]))⟩
  .rcases hal with rfl|rfl<;>simp[ChangeMaps.setBlock]
  .rw[run_entry_at _ r b since seen es clock e hset.1 hb' hem h3,k1,k2]
def Rg.del{t e b r:Nat}{m left:List α}{w:World}(ht:Tryz.prog.underlying t=some (.map 36 e))(h:Rg key val b r m left w)(k:Int×Int){x:α}(hg:m.find? (isK key k)=some x)(hx:∀y∈left,key y≠k):∃w' m1 m2,(∀ty:TypeId,(Builtin.delete_ #[t,32] ty #[.map (some b),kx k]).run Tryz.prog w=.ok (.tuple #[]) w')/\m=m1++x::m2/\Rg key val b r (m1++m2) left w'/\Kept (λi=>i=b) w w'/\w'.heap.size=w.heap.size:=by
 have hne:=h.ne;obtain⟨es,clock,since,seen,c0,hb,h2,h3,h4,hr,hold,hsc,hsk,hl⟩:=h;obtain⟨j,g1,g2,g3⟩:=Q7 (i:=0) hg;have hlen:=h2.len;have hj:j<m.length:=(gu.1 g2).1;have hjs:j<es.size:=by simpa using(by omega:j<es.toList.length)
 have hje:es.toList[j]?=some (es.toList[j]'(by omega)):=bf (by omega);generalize es.toList[j]'(by omega)=e0 at hje;have a1:(e0.key,e0.val)=(kx (key x),val x):=by
  have a1:(es.toList.map (λe=>(e.key,e.val)))[j]?=some (e0.key,e0.val):=by rw[qm,hje];rfl
  rw[h2,qm,g2]at a1;simpa using a1.symm
 have e1:(es.eraseIdxIfInBounds j).toList=es.toList.eraseIdx j:=by simp[Array.eraseIdxIfInBounds,hjs]
 have hmj:m=m.take j++x::m.drop (j+1):=by
  have:m[j]'hj=x:=by have:=(gu.1 g2).2;exact this
  rw[<-this,List.getElem_cons_drop,jg]
 have hjl:j<es.toList.length:=by omega
 have hesj:es.toList=es.toList.take j++e0::es.toList.drop (j+1):=by have:es.toList[j]'hjl=e0:=(gu.1 hje).2;rw[<-this,List.getElem_cons_drop,jg]
 have hsub:(es.toList.eraseIdx j).Sublist es.toList:=List.eraseIdx_sublist _ _;have hseen:seen.contains e0.born=true:=by
  cases hc:seen.contains e0.born with
  |true=>rfl
  |false=>
   have hm:e0∈es.toList.filter λe=> !seen.contains e.born:=jh.2 ⟨xh hje,by rw[hc];rfl⟩;have hm2:(e0.key,e0.val)∈(es.toList.filter λe=> !seen.contains e.born).map (λe=>(e.key,e.val)):=je.2 ⟨e0,hm,rfl⟩;rw[hl]at hm2;obtain⟨y,hy,e2⟩:=je.1 hm2;have e3:kx (key y)=kx (key x):=by rw[a1]at e2;exact(Prod.mk.inj e2).1
   have e4:key y=key x:=by simp only[kx,Value.agg.injEq,Array.mk.injEq,pg,Value.int.injEq,true_and,and_true]at e3;exact Prod.ext e3.1 e3.2
   exact absurd (e4.trans g3) (hx y hy)
 refine⟨_,m.take j,m.drop (j+1),λty=>?_,hmj,⟨es.eraseIdxIfInBounds j,clock,since,seen,c0,(pq hb).1,?_,?_,?_,((pq hb).2 r hne).trans hr,?_,hsc,hsk,?_⟩,agy hb,by simp⟩
 .simp[Builtin.delete_,jw ht,jf hb,Em,Ej k h2,g1,ru _ hb,Result.andThen]
 .unfold Ek;rw[e1,ChangeMaps.map_eraseIdx,h2,<-ChangeMaps.map_eraseIdx,List.eraseIdx_eq_take_drop_succ]
 .rw[e1];exact h3.sublist (hsub.map _)
 .intro y hy;rw[e1]at hy;exact h4 y (hsub.subset hy)
 .intro y hy;rw[e1]at hy;exact hold y (hsub.subset hy)
 .rw[e1,List.eraseIdx_eq_take_drop_succ];have:(es.toList.filter λe=> !seen.contains e.born)=((es.toList.take j++es.toList.drop (j+1)).filter λe=> !seen.contains e.born):=by
   conv=>lhs;rw[hesj]
   rw[List.filter_append,List.filter_append,yf,ag (by rw[hseen];decide)]
  rw[<-this];exact hl
end
