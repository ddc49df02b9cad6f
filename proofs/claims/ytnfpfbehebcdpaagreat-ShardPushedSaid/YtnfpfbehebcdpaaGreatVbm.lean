import Derived.WideKeyRuns
import Derived.Maps.Range
import Derived.RangeFuncNested
import Derived.Test.YtnfpfbehebcdpaaGreatVar
set_option maxHeartbeats 0
set_option maxRecDepth 99999
set_option linter.all false
namespace Go.Proofs.YtnfpfbehebcdpaaGreat.Ver
open Go.RowKit
namespace Gv
def kx(k:Int×Int):Value:=.agg #[ui k.1,ui k.2]
def Zl(a b:Int×Int)(w:World):(Op.equal 36 (kx a) (kx b)).run Tryz.prog w=.ok (decide (a=b)) w:=by obtain⟨p,l⟩:=a;obtain⟨q,m⟩:=b;show(Op.equalIn 10000 36 (.agg #[ui p,ui l]) (.agg #[ui q,ui m])).run Tryz.prog w=_;by_cases h:p=q<;>by_cases h2:l=m<;>simp[go_sem,h,h2]
def Uf(n:Nat)(k:Int)(em:Bool)(w:World):(Instr.checkKey em (n+1) 34 (ui k)).run Tryz.prog w=.ok () w:=by unfold Instr.checkKey;simp[go_sem]
def Ue(n:Nat)(k:Int×Int)(em:Bool)(w:World):(Instr.checkKey em (n+1+1) 36 (kx k)).run Tryz.prog w=.ok () w:=by unfold kx;unfold Instr.checkKey;simp[go_sem,Uf]
def Em(k:Int×Int)(em:Bool)(w:World):(Instr.checkKey em 10000 36 (kx k)).run Tryz.prog w=.ok () w:=Ue 9998 k em w
def Qv(n:Nat)(k:Int×Int):Instr.sameBits (n+1) (kx k) (kx k)=true:=by simp[kx,Instr.sameBits]
def agy{w:World}{b:Nat}{o o':Obj}(h:w.heap[b]?=some o):Kept (λi=>i=b) w {w with heap:=w.heap.setIfInBounds b o'}:=⟨rfl,rfl,rfl,by simp,λk _ hk=>(pg h).2 k hk⟩
def Df{β:Type}{l:List β}{j:Nat}{a:β}(h:l[j]?=some a):l.set j a=l:=by
 refine List.ext_getElem? (λi=>?_);rw[List.getElem?_set];split
 .rename_i e;subst e;rw[ah (gy.1 h).1,h]
 .rfl
section
variable {α:Type}(key:α->Int×Int)(val:α->Value)
def Ek(es:List MapEntry)(m:List α):Prop:=es.map (λe=>(e.key,e.val))=m.map (λx=>(kx (key x),val x))
def isK(k:Int×Int)(x:α):Bool:=decide (key x=k)
def idx(k:Int×Int):List α->Nat->Option (Nat×α)
 |[],_=>none
 |x::m,i=>if k=key x then some (i,x)else idx k m (i+1)
variable {key val}
def Ek.len{es:List MapEntry}{m:List α}(h:Ek key val es m):es.length=m.length:=by have:=iq List.length h;simpa using this
def Vg{k:Int×Int}:∀{m:List α} {i:Nat},m.find? (isK key k)=none->idx key k m i=none
 |[],_,_=>rfl
 |x::m,i,h=>by
  simp only[List.find?_cons]at h;split at h
  .cases h
  .rename_i e;unfold idx;rw[ag (λe2=>by simp[isK,e2]at e)];exact Vg h
def Q7{k:Int×Int}{x:α}:∀{m:List α} {i:Nat},m.find? (isK key k)=some x->∃j,idx key k m i=some (i+j,x)/\m[j]?=some x/\key x=k
 |[],_,h=>by cases h
 |y::m,i,h=>by
  simp only[List.find?_cons]at h;split at h
  .rename_i e;injection h with h;subst h;have e':key y=k:=by simpa[isK]using e
   exact⟨0,by unfold idx;rw[ah e'.symm];rfl,rfl,e'⟩
  .rename_i e;obtain⟨j,h1,h2,h3⟩:=Q7 (i:=i+1) h;refine⟨j+1,?_,h2,h3⟩;unfold idx;rw[ag (λe2=>by simp[isK,e2]at e),h1];congr 2;omega
def U3(k:Int×Int)(w:World):∀(es:List MapEntry) (m:List α) (i:Nat),Ek key val es m->(Instr.findAsking 36 (kx k) es i).run Tryz.prog w=.ok ((idx key k m i).map λp=>(p.1,val p.2)) w
 |[],[],i,_=>rfl
 |[],x::m,_,h=>by cases h
 |e::es,[],_,h=>by cases h
 |e::es,x::m,i,h=>by
  simp only[Ek,jc,o7,jl]at h;obtain⟨⟨h1,h2⟩,h3⟩:=h;unfold Instr.findAsking idx;simp only[h1,h2,Sem.run_bind,Zl,Result.andThen];by_cases e1:k=key x
  .rw[ah e1];simp[e1]
  .rw[ag e1];simp[e1,U3 k w es m (i+1) h3]
def Ej(k:Int×Int){es:List MapEntry}{m:List α}(h:Ek key val es m)(w:World):(Instr.findKey 36 (kx k) es).run Tryz.prog w=.ok ((idx key k m 0).map λp=>(p.1,val p.2)) w:=by rw[run_findKey_eq w (by kernel_rfl)];exact U3 k w es m 0 h
variable (key val)
def At(b:Nat)(m:List α)(w:World):Prop:=∃es clock,w.heap[b]?=some (.map es clock)/\Ek key val es.toList m/\(es.toList.map (·.born)).Nodup/\∀e∈es.toList,e.born<clock
variable {key val}
def At.kept{b:Nat}{m:List α}{w w':World}{F:Nat->Prop}(h:At key val b m w)(hk:Kept F w w')(hF:¬F b):At key val b m w':=by obtain⟨es,cl,h1,h2⟩:=h;exact⟨es,cl,by rw[hk.block b (gsz h1) hF];exact h1,h2⟩
def At.on{b:Nat}{m:List α}{w w':World}(h:At key val b m w)(hb:Bw w w'):At key val b m w':=h.kept (F:=λ_=>False) (Kept.of_below hb) (λh=>h)
def At.lt{b:Nat}{m:List α}{w:World}(h:At key val b m w):b<w.heap.size:=by obtain⟨es,cl,h1,_⟩:=h;exact(gsz h1)
def At.new(w:World):At key val w.heap.size [] (w.alloc (.map #[] 0)):=⟨#[],0,ae w _,rfl,by simp,by simp⟩
def At.size{b:Nat}{m:List α}{w:World}(h:At key val b m w)(t e:TypeId)(ht:Tryz.prog.underlying t=some (.map 36 e))(ty:TypeId):(Builtin.len_ #[t] ty #[.map (some b)]).run Tryz.prog w=.ok (iw m.length) w:=by
 obtain⟨es,cl,h1,h2,_⟩:=h;have:es.size=m.length:=by rw[<-h2.len];simp
 simp[Builtin.len_,ku ht,jk h1,Result.andThen,this,goInt]
def ae2{t e b:Nat}{m:List α}{w:World}(ht:Tryz.prog.underlying t=some (.map 36 e))(h:At key val b m w)(v:α)(hg:m.find? (isK key (key v))=none):∃w',(Instr.mapUpdate t (.map (some b)) (kx (key v)) (val v)).run Tryz.prog w=.ok () w'/\At key val b (m++[v]) w'/\Kept (λi=>i=b) w w'/\w'.heap.size=w.heap.size:=by
 obtain⟨es,cl,h1,h2,h3,h4⟩:=h;refine⟨_,?_,⟨es.push ⟨kx (key v),val v,cl⟩,cl+1,(pg h1).1,?_,?_,?_⟩,agy h1,by simp⟩
 .simp[Instr.mapUpdate,ku ht,jk h1,Em,Ej (key v) h2,Vg (i:=0) hg,rf _ h1,Result.andThen]
 .unfold Ek;rw[Array.toList_push,mr,mr,h2];rfl
 .rw[Array.toList_push,mr,ik];refine⟨h3,by simp,λa ha b' hb'=>?_⟩;simp at hb';subst hb';obtain⟨x,hx,rfl⟩:=jb.1 ha;have:=h4 x hx;omega
 .intro x hx;rw[Array.toList_push]at hx;rcases bu.1 hx with hx|hx
  .have:=h4 x hx;omega
  .simp at hx;subst hx;exact jw _
def ae1{t e b:Nat}{m:List α}{w:World}(ht:Tryz.prog.underlying t=some (.map 36 e))(h:At key val b m w)(v:α){x:α}(hg:m.find? (isK key (key v))=some x):∃w' j,(Instr.mapUpdate t (.map (some b)) (kx (key v)) (val v)).run Tryz.prog w=.ok () w'/\m[j]?=some x/\At key val b (m.set j v) w'/\Kept (λi=>i=b) w w'/\w'.heap.size=w.heap.size:=by
 obtain⟨es,cl,h1,h2,h3,h4⟩:=h;obtain⟨j,g1,g2,g3⟩:=Q7 (i:=0) hg;have hl:=h2.len;have hj:j<m.length:=(gy.1 g2).1;have hje:es.toList[j]?=some (es.toList[j]'(by omega)):=bf (by omega);generalize es.toList[j]'(by omega)=e0 at hje;have hk0:e0.key=kx (key v):=by
  have a1:(es.toList.map (λe=>(e.key,e.val)))[j]?=some (e0.key,e0.val):=by rw[qi,hje];rfl
  rw[h2,qi,g2]at a1;simp only[yg,ja,jl]at a1;rw[<-a1.1,g3]
 have hja:es[j]?=some e0:=by simpa using hje
 have hmod:(es.modify j (λe'=>{e' with key:=kx (key v),val:=val v})).toList=es.toList.set j {e0 with key:=kx (key v),val:=val v}:=by rw[Array.toList_modify,ChangeMaps.modify_eq_set _ _ _ _ hje]
 refine⟨_,j,?_,g2,⟨es.modify j (λe'=>{e' with key:=kx (key v),val:=val v}),cl,(pg h1).1,?_,?_,?_⟩,agy h1,by simp⟩
 .simp[Instr.mapUpdate,ku ht,jk h1,Em,Ej (key v) h2,g1,hja,hk0,Instr.keyThatStays,Qv 9999 (key v),rf _ h1,Result.andThen]
 .unfold Ek;rw[hmod,List.map_set,List.map_set,h2]
 .rw[hmod,List.map_set];have:(es.toList.map (·.born)).set j e0.born=es.toList.map (·.born):=Df (by rw[qi,hje];rfl);show((es.toList.map (·.born)).set j e0.born).Nodup;rw[this];exact h3
 .intro y hy;rw[hmod]at hy;rcases List.mem_or_eq_of_mem_set hy with hy|rfl
  .exact h4 y hy
  .exact h4 e0 (wz hje)
variable (key val)
def Rg(b r:Nat)(m left:List α)(w:World):Prop:=∃es clock since seen c0,w.heap[b]?=some (.map es clock)/\Ek key val es.toList m/\(es.toList.map (·.born)).Nodup/\(∀e∈es.toList,e.born<clock)/\w.heap[r]?=some (.mapIter (some b) since seen c0)/\(∀e∈es.toList,e.born<since)/\since<=c0/\since<=clock/\Ek key val (es.toList.filter λe=> !seen.contains e.born) left
variable {key val}
def Rg.at{b r:Nat}{m left:List α}{w:World}(h:Rg key val b r m left w):At key val b m w:=by obtain⟨es,cl,since,seen,c0,h1,h2,h3,h4,_⟩:=h;exact⟨es,cl,h1,h2,h3,h4⟩
def Rg.lt{b r:Nat}{m left:List α}{w:World}(h:Rg key val b r m left w):r<w.heap.size:=by obtain⟨es,cl,since,seen,c0,h1,h2,h3,h4,h5,_⟩:=h;exact(gsz h5)
def Rg.ne{b r:Nat}{m left:List α}{w:World}(h:Rg key val b r m left w):r≠b:=by obtain⟨es,cl,since,seen,c0,h1,h2,h3,h4,h5,_⟩:=h;intro e;rw[e,h1]at h5;cases h5
def Rg.walk{b r:Nat}{m left:List α}{w:World}(h:Rg key val b r m left w):∃o:Obj,w.heap[r]?=some o/\o.isWalk=true:=by obtain⟨es,cl,since,seen,c0,h1,h2,h3,h4,h5,_⟩:=h;exact⟨_,h5,rfl⟩
def Rg.kept{b r:Nat}{m left:List α}{w w':World}{F:Nat->Prop}(h:Rg key val b r m left w)(hk:Kept F w w')(hb:¬F b)(hr:¬F r):Rg key val b r m left w':=by have l1:=h.at.lt;have l2:=h.lt;obtain⟨es,cl,since,seen,c0,h1,h2,h3,h4,h5,h6⟩:=h;exact⟨es,cl,since,seen,c0,by rw[hk.block b l1 hb];exact h1,h2,h3,h4,by rw[hk.block r l2 hr];exact h5,h6⟩
def Rg.on{b r:Nat}{m left:List α}{w w':World}(h:Rg key val b r m left w)(hb:Bw w w'):Rg key val b r m left w':=h.kept (F:=λ_=>False) (Kept.of_below hb) (λh=>h) (λh=>h)
def Rg.walks{b r:Nat}{m left:List α}{w w':World}(h:Rg key val b r m left w)(hk:KeepsWalks w w'):Rg key val b r m left w':=by obtain⟨es,cl,since,seen,c0,h1,h2,h3,h4,h5,h6⟩:=h;exact⟨es,cl,since,seen,c0,hk.same b _ h1 rfl,h2,h3,h4,hk.same r _ h5 rfl,h6⟩
def Rg.left_eq{b r:Nat}{m left:List α}{w:World}(h:Rg key val b r m left w):w.rangeLeft b r=left.length:=by obtain⟨es,cl,since,seen,c0,h1,h2,h3,h4,h5,h6,h7,h8,h9⟩:=h;simp only[World.rangeLeft,h1,h5];rw[<-h9.len];unfold leftOf;rw[<-Array.toList_filter,Array.length_toList]
def abn{t e b:Nat}{m:List α}{w:World}(ht:Tryz.prog.underlying t=some (.map 36 e))(h:At key val b m w):∃w',(Instr.range t (.map (some b))).run Tryz.prog w=.ok (pz w.heap.size) w'/\Rg key val b w.heap.size m m w'/\w.grownBy w' none/\w'.heap.size=w.heap.size+1:=by have hlt:=h.lt;obtain⟨es,cl,h1,h2,h3,h4⟩:=h;refine⟨_,run_range_map w t 36 e b es cl ht h1,⟨es,cl,cl,#[],cl,((MapKept.heap_alloc w _).2 b hlt).trans h1,h2,h3,h4,(MapKept.heap_alloc w _).1,h4,aj _,aj _,?_⟩,World.grownBy_alloc w _ none,by simp⟩;rw[o5.2 (λa _=>by simp)];exact h2
def aq5{l1 l2:List MapEntry}{e:MapEntry}{L:List α}(h:Ek key val (l1++e::l2) L):∃L1 x L2,L=L1++x::L2/\e.key=kx (key x)/\e.val=val x/\Ek key val (l1++l2) (L1++L2):=by unfold Ek at h;rw[mr,jc]at h;obtain⟨L1,R,rfl,h1,h2⟩:=List.map_eq_append_iff.1 h.symm;obtain⟨x,L2,rfl,h3,h4⟩:=List.map_eq_cons_iff.1 h2;simp only[jl]at h3;exact⟨L1,x,L2,rfl,h3.1.symm,h3.2.symm,by unfold Ek;rw[mr,mr,h1,h4]⟩
def af1{es:List MapEntry}{seen:Array Nat}{e:MapEntry}(hn:(es.map (·.born)).Nodup)(he:e∈es.filter λx=> !seen.contains x.born):∃l1 l2,(es.filter λx=> !seen.contains x.born)=l1++e::l2/\(es.filter λx=> !(seen.push e.born).contains x.born)=l1++l2:=by
 obtain⟨l1,l2,hs⟩:=List.append_of_mem he;refine⟨l1,l2,hs,?_⟩;have e1:(es.filter λx=> !(seen.push e.born).contains x.born)=(es.filter λx=> !seen.contains x.born).filter λx=> !(x.born==e.born):=by rw[List.filter_filter];refine List.filter_congr (λx _=>?_);rw[contains_push];cases seen.contains x.born<;>cases(x.born==e.born)<;>rfl
 have hn2:((l1++e::l2).map (·.born)).Nodup:=by rw[<-hs];exact hn.sublist (List.filter_sublist.map _)
 rw[e1,hs,List.filter_append,xx];simp only[beq_self_eq_true,Bool.not_true,nz,if_false];rw[mr,jc,ik]at hn2;obtain⟨_,h2,h3⟩:=hn2;rw[gz]at h2;congr 1
 .refine o5.2 (λx hx=>?_);have:x.born≠e.born:=h3 _ (jb.2 ⟨x,hx,rfl⟩) _ (jd ..);simpa using this
 .refine o5.2 (λx hx=>?_);have:x.born≠e.born:=λh=>h2.1 (jb.2 ⟨x,hx,h⟩);simpa using this
def Rg.next{b r:Nat}{m left:List α}{w:World}(h:Rg key val b r m left w)(ty:TypeId):
  (left=[]/\(Instr.next (pz r) false ty).run Tryz.prog w=.ok (.tuple #[.bool false]) w)\/
  ∃L1 x L2 w',left=L1++x::L2/\(Instr.next (pz r) false ty).run Tryz.prog w=.ok (.tuple #[.bool true,kx (key x),val x]) w'/\Rg key val b r m (L1++L2) w'/\w.grownBy w' (some r)/\w'.heap.size=w.heap.size/\(Instr.entry (pz r)).run Tryz.prog w'=.ok (.tuple #[kx (key x),val x]) w':=by
 have hne:=h.ne;obtain⟨es,clock,since,seen,c0,hb,h2,h3,h4,hr,hold,hsc,hsk,hl⟩:=h;have hfl:(leftOf es seen).toList=es.toList.filter λe=> !seen.contains e.born:=by unfold leftOf;rw[Array.toList_filter]
 rcases run_next_at (P:=Tryz.prog) w ty r b since c0 seen es clock hr hb hold hsc with⟨h0,hrun⟩|⟨e,he,w1,hal,hrun⟩
 .refine .inl ⟨?_,hrun⟩;have:(leftOf es seen).toList.length=0:=by rw[Array.length_toList];exact h0
  rw[hfl,hl.len]at this;exact jy this
 .rw[hfl]at he;have hem:e∈es.toList:=(jh.1 he).1;obtain⟨l1,l2,s1,s2⟩:=af1 h3 he;rw[s1]at hl;obtain⟨L1,x,L2,rfl,k1,k2,k3⟩:=aq5 hl;have hr1:w1.heap[r]?=some (.mapIter (some b) since seen c0):=by rcases hal with rfl|rfl<;>exact hr
  have hb1:w1.heap[b]?=some (.map es clock):=by rcases hal with rfl|rfl<;>exact hb
  have hset:=pg (o':=.mapIter (some b) since (seen.push e.born) clock) hr1;have hb':(ChangeMaps.setBlock w1 r (.mapIter (some b) since (seen.push e.born) clock)).heap[b]?=some (.map es clock):=(hset.2 b (λe1=>hne e1.symm)).trans hb1;refine .inr ⟨L1,x,L2,_,rfl,by rw[hrun,k1,k2],⟨es,clock,since,seen.push e.born,clock,hb',h2,h3,h4,hset.1,hold,hsk,hsk,by rw[s2];exact k3⟩,?_,?_,?_⟩
  .rcases hal with rfl|rfl<;>exact⟨rfl,rfl,rfl,by simp[ChangeMaps.setBlock],λi _ hi=>hset.2 i (λe1=>hi (by rw[e1]))⟩
  .rcases hal with rfl|rfl<;>simp[ChangeMaps.setBlock]
  .rw[run_entry_at _ r b since seen es clock e hset.1 hb' hem h3,k1,k2]
def Rg.del{t e b r:Nat}{m left:List α}{w:World}(ht:Tryz.prog.underlying t=some (.map 36 e))(h:Rg key val b r m left w)(k:Int×Int){x:α}(hg:m.find? (isK key k)=some x)(hx:∀y∈left,key y≠k):∃w' m1 m2,(∀ty:TypeId,(Builtin.delete_ #[t,32] ty #[.map (some b),kx k]).run Tryz.prog w=.ok (.tuple #[]) w')/\m=m1++x::m2/\Rg key val b r (m1++m2) left w'/\Kept (λi=>i=b) w w'/\w'.heap.size=w.heap.size:=by
 have hne:=h.ne;obtain⟨es,clock,since,seen,c0,hb,h2,h3,h4,hr,hold,hsc,hsk,hl⟩:=h;obtain⟨j,g1,g2,g3⟩:=Q7 (i:=0) hg;have hlen:=h2.len;have hj:j<m.length:=(gy.1 g2).1;have hjs:j<es.size:=by simpa using(by omega:j<es.toList.length)
 have hje:es.toList[j]?=some (es.toList[j]'(by omega)):=bf (by omega);generalize es.toList[j]'(by omega)=e0 at hje;have a1:(e0.key,e0.val)=(kx (key x),val x):=by
  have a1:(es.toList.map (λe=>(e.key,e.val)))[j]?=some (e0.key,e0.val):=by rw[qi,hje];rfl
  rw[h2,qi,g2]at a1;simpa using a1.symm
 have e1:(es.eraseIdxIfInBounds j).toList=es.toList.eraseIdx j:=by simp[Array.eraseIdxIfInBounds,hjs]
 have hmj:m=m.take j++x::m.drop (j+1):=by
  have:m[j]'hj=x:=by have:=(gy.1 g2).2;exact this
  rw[<-this,List.getElem_cons_drop,je]
 have hjl:j<es.toList.length:=by omega
 have hesj:es.toList=es.toList.take j++e0::es.toList.drop (j+1):=by have:es.toList[j]'hjl=e0:=(gy.1 hje).2;rw[<-this,List.getElem_cons_drop,je]
 have hsub:(es.toList.eraseIdx j).Sublist es.toList:=List.eraseIdx_sublist _ _;have hseen:seen.contains e0.born=true:=by
  cases hc:seen.contains e0.born with
  |true=>rfl
  |false=>
   have hm:e0∈es.toList.filter λe=> !seen.contains e.born:=jh.2 ⟨wz hje,by rw[hc];rfl⟩;have hm2:(e0.key,e0.val)∈(es.toList.filter λe=> !seen.contains e.born).map (λe=>(e.key,e.val)):=jb.2 ⟨e0,hm,rfl⟩;rw[hl]at hm2;obtain⟨y,hy,e2⟩:=jb.1 hm2;have e3:kx (key y)=kx (key x):=by rw[a1]at e2;exact(Prod.mk.inj e2).1
   have e4:key y=key x:=by simp only[kx,Value.agg.injEq,Array.mk.injEq,o7,Value.int.injEq,true_and,and_true]at e3;exact Prod.ext e3.1 e3.2
   exact absurd (e4.trans g3) (hx y hy)
 refine⟨_,m.take j,m.drop (j+1),λty=>?_,hmj,⟨es.eraseIdxIfInBounds j,clock,since,seen,c0,(pg hb).1,?_,?_,?_,((pg hb).2 r hne).trans hr,?_,hsc,hsk,?_⟩,agy hb,by simp⟩
 .simp[Builtin.delete_,ku ht,jk hb,Em,Ej k h2,g1,rf _ hb,Result.andThen]
 .unfold Ek;rw[e1,ChangeMaps.map_eraseIdx,h2,<-ChangeMaps.map_eraseIdx,List.eraseIdx_eq_take_drop_succ]
 .rw[e1];exact h3.sublist (hsub.map _)
 .intro y hy;rw[e1]at hy;exact h4 y (hsub.subset hy)
 .intro y hy;rw[e1]at hy;exact hold y (hsub.subset hy)
 .rw[e1,List.eraseIdx_eq_take_drop_succ];have:(es.toList.filter λe=> !seen.contains e.born)=((es.toList.take j++es.toList.drop (j+1)).filter λe=> !seen.contains e.born):=by
   conv=>lhs;rw[hesj]
   rw[List.filter_append,List.filter_append,xx,ag (by rw[hseen];decide)]
  rw[<-this];exact hl
end
end Gv
end Go.Proofs.YtnfpfbehebcdpaaGreat.Ver
namespace Go.Proofs.YtnfpfbehebcdpaaGreat.Ver
open Go.RowKit
def kd(x:Vd):Int×Int:=(x.c,x.n)
def Kd(m:Bk):Prop:=m.Pairwise λx y=>kd x≠kd y
structure Rl(m K:Bk):Prop where
 srt:SrtV K
 perm:K.Perm m
def ags{K:Bk}(h:SrtV K):Kd K:=h.imp λ{a b} hab e=>by have e1:a.c=b.c:=iq Prod.fst e;have e2:a.n=b.n:=iq Prod.snd e;rw[e1,e2,P8]at hab;cases hab
def Rl.apart{m K:Bk}(h:Rl m K):Kd m:=(h.perm.pairwise_iff (λ{_ _} hne=>Ne.symm hne)).1 (ags h.srt)
def Rl.len{m K:Bk}(h:Rl m K):m.length=K.length:=h.perm.length_eq.symm
def Rl.nil:Rl [] []:=⟨anz,List.Perm.refl _⟩
def Qb{k:Int×Int}{o:Vd}:∀{m:Bk},Kd m->(m.find? (Gv.isK kd k)=some o↔o∈m/\kd o=k)
 |[],_=>by simp
 |x::m,h=>by
  obtain⟨h1,h2⟩:=ed.1 h;rw[List.find?_cons];split
  .rename_i e;have e':kd x=k:=by simpa[Gv.isK]using e
   constructor
   .intro ho;injection ho with ho;subst ho;exact⟨jd ..,e'⟩
   .rintro⟨ho,hk⟩;rcases az.1 ho with rfl|ho
    .rfl
    .exact absurd (e'.trans hk.symm) (h1 o ho)
  .rename_i e;rw[Qb h2];constructor
   .rintro⟨a,b⟩;exact⟨eu _ a,b⟩
   .rintro⟨a,b⟩;rcases az.1 a with rfl|a
    .simp[Gv.isK,b]at e
    .exact⟨a,b⟩
def acd(c n:Int):∀m:Bk,getB c n m=m.find? (Gv.isK kd (c,n))
 |[]=>rfl
 |x::m=>by
  unfold getB;rw[List.find?_cons,acd c n m];have:Gv.isK kd (c,n) x=ofN c n x:=by simp only[Gv.isK,kd,ofN,jl];by_cases h1:x.c=c<;>by_cases h2:x.n=n<;>simp[h1,h2]
  rw[this];cases ofN c n x<;>rfl
def Rl.get{m K:Bk}(h:Rl m K)(c n:Int):m.find? (Gv.isK kd (c,n))=getB c n K:=by
 rw[acd];cases hm:m.find? (Gv.isK kd (c,n))with
 |some o=>
  obtain⟨h1,h2⟩:=(Qb h.apart).1 hm;exact((Qb (ags h.srt)).2 ⟨h.perm.mem_iff.2 h1,h2⟩).symm
 |none=>
  cases hK:K.find? (Gv.isK kd (c,n))with
  |none=>rfl
  |some o=>
   obtain⟨h1,h2⟩:=(Qb (ags h.srt)).1 hK;have:=(Qb h.apart).2 ⟨h.perm.mem_iff.1 h1,h2⟩;rw[hm]at this;cases this
def afu(v:Vd):∀B:Bk,(insB v B).Perm (v::B)
 |[]=>List.Perm.refl _
 |x::B=>by
  unfold insB;split
  .exact((afu v B).cons x).trans (List.Perm.swap v x B)
  .exact List.Perm.refl _
def Rl.ins{m K:Bk}{v:Vd}(h:Rl m K)(hg:getB v.c v.n K=none):Rl (m++[v]) (insB v K):=⟨aj7 h.srt hg,(afu v K).trans ((h.perm.cons v).trans (List.perm_append_singleton v m).symm)⟩
def aoc{m:Bk}{j:Nat}{o:Vd}{c n:Int}(hk:Kd m)(hj:m[j]?=some o)(ho:kd o=(c,n)):m.set j {o with dn:=true}=P6 c n m:=by
 have hjl:=(gy.1 hj).1;have hjo:=(gy.1 hj).2;refine List.ext_getElem? (λi=>?_);unfold P6;rw[List.getElem?_set,qi];by_cases hij:j=i
 .subst hij;rw[ah rfl,ah hjl,hj];have:ofN c n o=true:=adl.2 ⟨iq Prod.fst ho,iq Prod.snd ho⟩;simp[this]
 .rw[ag hij];cases hi:m[i]?with
  |none=>rfl
  |some x=>
   have hil:=(gy.1 hi).1;have hix:=(gy.1 hi).2;have hne:kd x≠kd o:=by
    rw[<-hix,<-hjo];rcases Nat.lt_or_gt_of_ne hij with hl|hl
    .exactλe=>uu.1 hk j i hjl hil hl e.symm
    .exact uu.1 hk i j hil hjl hl
   have:ofN c n x=false:=by rw[<-uh];intro e;obtain⟨e1,e2⟩:=adl.1 e;exact hne (by rw[ho];exact Prod.ext e1 e2)
   simp[this]
def Rl.done{m K:Bk}{j:Nat}{o:Vd}{c n:Int}(h:Rl m K)(hj:m[j]?=some o)(ho:kd o=(c,n)):Rl (m.set j {o with dn:=true}) (P6 c n K):=by rw[aoc h.apart hj ho];exact⟨aq6 h.srt c n,h.perm.map _⟩
def Rl.filt{m m' K:Bk}(h:Rl m K)(p:Vd->Bool)(hm:m'.Perm (m.filter p)):Rl m' (K.filter p):=⟨aqw h.srt p,(h.perm.filter p).trans hm.symm⟩
def Rl.sorted{m K L:Bk}(h:Rl m K)(hp:L.Perm m)(hs:L.Pairwise λx y=>ltT y.c y.n x.c x.n=false):L=K:=by
 have hL:Kd L:=(hp.pairwise_iff (λ{_ _} hne=>Ne.symm hne)).2 h.apart;have hS:SrtV L:=(List.pairwise_and_iff.2 ⟨hs,hL⟩).imp (λ{a b} ⟨h1,h2⟩=>by
  cases h3:ltT a.c a.n b.c b.n with
  |true=>rfl
  |false=>
   obtain⟨e1,e2⟩:=ajx h3 h1;exact absurd (Prod.ext e1 e2) h2)
 exact Ls hS h.srt (λx=>by rw[hp.mem_iff,h.perm.mem_iff])
def aie(x:Vd)(w:World):cpr 127 #[.agg #[ui x.c,ui x.n,uw x.sp,ui x.sl,uw x.ap,ui x.al,ub x.pt,.bool x.dn]] w λe w'=>e=.returned (.bool (cmB x))/\Bw w w':=by have hq:=abo x.ap x.al 0 0;have HB:Hid (∀o,Bw w (w.alloc o)):=λo=>al o;have HC:Hid (cmB x= !(x.ap==0&&x.al==0)):=rfl;generalize (x.ap==0&&x.al==0)=z at*;go_enter Tryz.func127,Tryz.ntmps127;go_wp2_with fail;go_ret;exact⟨by rw[HC.out];rfl,HB.out _⟩
def ovB(x:Vd):Bool:=x.dn|| !cmB x
def aya(x:Vd)(w:World):cpr 126 #[.agg #[ui x.c,ui x.n,uw x.sp,ui x.sl,uw x.ap,ui x.al,ub x.pt,.bool x.dn]] w λe w'=>e=.returned (.bool (ovB x))/\Bw w w':=by
 obtain⟨c,n,sp,sq,ap,aq,pt,dn⟩:=x;have HB:Hid (∀o,Bw w (w.alloc o)):=λo=>al o;have CC:Hid (∀W,1=1->_):=λW _=>aie ⟨c,n,sp,sq,ap,aq,pt,dn⟩ W;have HC:Hid (ovB ⟨c,n,sp,sq,ap,aq,pt,dn⟩=(dn|| !cmB ⟨c,n,sp,sq,ap,aq,pt,dn⟩)):=rfl;generalize cmB ⟨c,n,sp,sq,ap,aq,pt,dn⟩=z at*;cases dn
 .go_enter Tryz.func126,Tryz.ntmps126;go_wp2_with fail;refine(CC.out _ (by simp)).mono ?_;rintro e w1 ⟨rfl,hb1⟩;have HB1:Hid (Bw w w1):=(HB.out _).trans (hb1.mono (HB.out _).size);clear hb1;cases z
  .go_wp2_with fail;go_ret;exact⟨by rw[HC.out];rfl,HB1.out⟩
  .go_wp2_with fail;go_ret;exact⟨by rw[HC.out];rfl,HB1.out⟩
 .go_enter Tryz.func126,Tryz.ntmps126;go_wp2_with fail;go_ret;exact⟨by rw[HC.out];rfl,HB.out _⟩
def atg(x:Vd)(w:World):cpr 117 #[.agg #[ui x.c,ui x.n,uw x.sp,ui x.sl,uw x.ap,ui x.al,ub x.pt,.bool x.dn]] w λe w'=>e=.returned (.bool (okV x))/\Bw w w':=by
 obtain⟨c,n,sp,sq,ap,aq,pt,dn⟩:=x;have CC:Hid (∀W,1=1->_):=λW _=>aie ⟨c,n,sp,sq,ap,aq,pt,dn⟩ W;have C1:Hid (∀W,1=1->_):=λW _=>Jb sp sq W;have C2:Hid (∀W,1=1->_):=λW _=>Jb ap aq W;have HO:Hid (okV ⟨c,n,sp,sq,ap,aq,pt,dn⟩=(Ag sp sq&&Ag ap aq&&(cmB ⟨c,n,sp,sq,ap,aq,pt,dn⟩||(pt==0&& !dn)))):=rfl;generalize okV ⟨c,n,sp,sq,ap,aq,pt,dn⟩=y at*;generalize cmB ⟨c,n,sp,sq,ap,aq,pt,dn⟩=z at*;generalize Ag sp sq=r1 at*;generalize Ag ap aq=r2 at*;obtain⟨W0,hW0⟩:=xj (w.alloc (.cells #[ui c,ui n,uw sp,ui sq,uw ap,ui aq,ub pt,.bool dn] 143));have HB0:Hid (Bw w W0):=by rw[<-hW0];exact al _
 have hx0:W0.heap[w.heap.size]?=some (.cells #[ui c,ui n,uw sp,ui sq,uw ap,ui aq,ub pt,.bool dn] 143 (0,0)):=by rw[<-hW0];exact ae w _
 have HV:Hid (∀W,Bw W0 W->VdAt W w.heap.size 0 ⟨c,n,sp,sq,ap,aq,pt,dn⟩):=λW hb=>by
  have hx:W.heap[w.heap.size]?=some (.cells #[ui c,ui n,uw sp,ui sq,uw ap,ui aq,ub pt,.bool dn] 143 (0,0)):=by rw[hb.block _ (gsz hx0)];exact hx0
  exact⟨Aa hx rfl,Aa hx rfl,Aa hx rfl,Aa hx rfl,Aa hx rfl,Aa hx rfl,Aa hx rfl,Aa hx rfl⟩
 clear hx0;obtain⟨c0,c1,c2,c3,c4,c5,c6,c7⟩:=HV.out W0 (ai _ _);go_enter Tryz.func117,Tryz.ntmps117;go_wp2_with fail;refine(C1.out W0 (by simp)).mono ?_;rintro e w1 ⟨rfl,hb1⟩;clear c0 c1 c2 c3 c4 c5 c6 c7;obtain⟨c0,c1,c2,c3,c4,c5,c6,c7⟩:=HV.out w1 hb1;have HB1:Hid (Bw W0 w1):=hb1;have HX:Hid (∀W,Bw W0 W->Bw w W):=λW hb=>HB0.out.trans (hb.mono HB0.out.size);clear hb1 hW0;cases r1
 .go_wp2_with fail;go_ret;exact⟨by rw[HO.out];rfl,HX.out _ HB1.out⟩
 .go_wp2_with fail;refine(C2.out w1 (by simp)).mono ?_;rintro e w2 ⟨rfl,hb2⟩;have HB2:Hid (Bw W0 w2):=HB1.out.trans (hb2.mono HB1.out.size);clear c0 c1 c2 c3 c4 c5 c6 c7 hb2;obtain⟨c0,c1,c2,c3,c4,c5,c6,c7⟩:=HV.out w2 HB2.out;cases r2
  .go_wp2_with fail;go_ret;exact⟨by rw[HO.out];rfl,HX.out _ HB2.out⟩
  .go_wp2_with fail;refine(CC.out w2 (by simp)).mono ?_;rintro e w3 ⟨rfl,hb3⟩;have HB3:Hid (Bw W0 w3):=HB2.out.trans (hb3.mono HB2.out.size);clear c0 c1 c2 c3 c4 c5 c6 c7 hb3;obtain⟨c0,c1,c2,c3,c4,c5,c6,c7⟩:=HV.out w3 HB3.out;cases z
   .by_cases hp:pt=0
    .subst hp;cases dn
     .exact bcp
     .exact bcp
    .have hp':(pt==0)=false:=by simpa using hp
     go_wp2_with fail;go_ret;exact⟨by rw[HO.out,hp'];rfl,HX.out _ HB3.out⟩
   .exact bcp
structure Bo(B p hb:Nat)(m K:Bk)(w:World):Prop where
 box:w.heap[p]?=some (.cells #[.map (some hb)] 129 (0,0))
 map:Gv.At kd vdV hb m w
 rel:Rl m K
 lo:B<=p
 lh:B<=hb
def Bo.kept{B p hb:Nat}{m K:Bk}{w w':World}{F:Nat->Prop}(h:Bo B p hb m K w)(hk:Kept F w w')(h1:¬F p)(h2:¬F hb):Bo B p hb m K w':=
 ⟨by rw[hk.block p (gsz h.box) h1];exact h.box,h.map.kept hk h2,h.rel,h.lo,h.lh⟩
def Bo.on{B p hb:Nat}{m K:Bk}{w w':World}(h:Bo B p hb m K w)(hb':Bw w w'):Bo B p hb m K w':=h.kept (F:=λ_=>False) (Kept.of_below hb') (λh=>h) (λh=>h)
def Bo.cell{B p hb:Nat}{m K:Bk}{w:World}(h:Bo B p hb m K w):ce w p 0 (.map (some hb)):=Aa h.box rfl
def Bo.ne{B p hb:Nat}{m K:Bk}{w:World}(h:Bo B p hb m K w):p≠hb:=by obtain⟨es,cl,h1,_⟩:=h.map;intro e;have:=h.box;rw[e,h1]at this;cases this
def BoAt(B p:Nat)(M:Nat->Prop)(K:Bk)(w:World):Prop:=∃hb m,Bo B p hb m K w/\∀k,M k↔k=p\/k=hb
def BoAt.lt{B p:Nat}{M:Nat->Prop}{K:Bk}{w:World}(h:BoAt B p M K w)(k:Nat)(hk:M k):B<=k/\k<w.heap.size:=by
 obtain⟨hb,m,h,hM⟩:=h;rcases(hM k).1 hk with rfl|rfl
 .exact⟨h.lo,(gsz h.box)⟩
 .exact⟨h.lh,h.map.lt⟩
def BoAt.keep{B p:Nat}{M G:Nat->Prop}{K:Bk}{w w':World}(h:BoAt B p M K w)(hk:Kept G w w')(hM:∀k,M k->¬G k):BoAt B p M K w':=by obtain⟨hb,m,h,hM'⟩:=h;exact⟨hb,m,h.kept hk (hM p ((hM' p).2 (.inl rfl))) (hM hb ((hM' hb).2 (.inr rfl))),hM'⟩
def vz(o:Option Vd):Vd:=o.getD dv
def ahi(o:Option Vd):ofV o=.tuple #[vdV (vz o),.bool o.isSome]:=by cases o<;>rfl
def V9{b:Nat}{m:Bk}{w:World}(h:Gv.At kd vdV b m w)(c n:Int):(Instr.lookup 127 (.map (some b)) (.agg #[ui c,ui n]) true).run Tryz.prog w=.ok (.tuple #[vdV (vz (m.find? (Gv.isK kd (c,n)))),.bool (m.find? (Gv.isK kd (c,n))).isSome]) w:=by
 show(Instr.lookup 127 (.map (some b)) (Gv.kx (c,n)) true).run Tryz.prog w=_;obtain⟨es,cl,h1,h2,_⟩:=h;cases hg:m.find? (Gv.isK kd (c,n))with
 |none=>
  simp[Instr.lookup,ku Tryz.underlying127,jk h1,Gv.Em,Gv.Ej (c,n) h2,Gv.Vg (i:=0) hg,Result.andThen];rfl
 |some t=>
  obtain⟨j,g1,_⟩:=Gv.Q7 (i:=0) hg;simp[Instr.lookup,ku Tryz.underlying127,jk h1,Gv.Em,Gv.Ej (c,n) h2,g1,Result.andThen];rfl
def Yi(w:World):cpr 22 #[] w λe w'=>∃p M,e=.returned (pz p)/\BoAt w.heap.size p M [] w'/\Bw w w':=by
 have hmm:=@run_makeMap Tryz.prog;go_enter Tryz.func22,Tryz.ntmps22;go_wp2_with fail;go_ret;refine⟨_,λk=>k=w.heap.size+1\/k=w.heap.size,rfl,⟨w.heap.size,[],⟨?_,?_,Rl.nil,Nat.le_succ _,aj _⟩,λk=>Iff.rfl⟩,(al _).alloc (by simp) _⟩
 .have:=ae (w.alloc (.map #[] 0)) (.cells #[.map (some w.heap.size)] 129)
  rwa [Lt]at this
 .exact(Gv.At.new w).on (al _)
def ah8(W:World)(b:Nat)(x:Vd):Kept (λi=>i=b) W ((((((((W.setCell ⟨b,0,none⟩ (ui x.c)).setCell ⟨b,1,none⟩ (ui x.n)).setCell ⟨b,2,none⟩ (uw x.sp)).setCell ⟨b,3,none⟩ (ui x.sl)).setCell ⟨b,4,none⟩ (uw x.ap)).setCell ⟨b,5,none⟩ (ui x.al)).setCell ⟨b,6,none⟩ (ub x.pt)).setCell ⟨b,7,none⟩ (.bool x.dn)):=by have t:∀{w1 w2 w3:World},Kept (λi=>i=b) w1 w2->Kept (λi=>i=b) w2 w3->Kept (λi=>i=b) w1 w3:=λh k=>h.trans k (λi e=>.inl e);exact t (t (t (t (t (t (t (Ai _ _ _ _) (Ai _ _ _ _)) (Ai _ _ _ _)) (Ai _ _ _ _)) (Ai _ _ _ _)) (Ai _ _ _ _)) (Ai _ _ _ _)) (Ai _ _ _ _)
def of15{B p hb:Nat}{m K:Bk}{w:World}(c n:Int)(h:Bo B p hb m K w):cpr 118 #[pz p,.agg #[ui c,ui n]] w λe w'=>e=.returned (ofV (getB c n K))/\Bw w w':=by
 obtain⟨Wa,hWa⟩:=xj (w.alloc (.cells #[ui c,ui n] 36));have hba:Bw w Wa:=by rw[<-hWa];exact al _
 have hxa:Wa.heap[w.heap.size]?=some (.cells #[ui c,ui n] 36 (0,0)):=by rw[<-hWa];exact ae w _
 have hsa:Wa.heap.size=w.heap.size+1:=by rw[<-hWa];simp
 obtain⟨W0,hW0⟩:=xj (Wa.alloc (.cells #[ui 0,ui 0,uw 0,ui 0,uw 0,ui 0,ub 0,.bool false] 143));have hb0':Bw Wa W0:=by rw[<-hW0];exact al _
 have hb0:Bw w W0:=hba.trans (hb0'.mono hba.size);have hx0:W0.heap[w.heap.size]?=some (.cells #[ui c,ui n] 36 (0,0)):=by rw[hb0'.block _ (gsz hxa)];exact hxa
 have hr0:W0.heap[w.heap.size+1]?=some (.cells #[ui 0,ui 0,uw 0,ui 0,uw 0,ui 0,ub 0,.bool false] 143 (0,0)):=by rw[<-hsa,<-hW0];exact ae Wa _
 have hs0:W0.heap.size=w.heap.size+2:=by rw[<-hW0,Lt,hsa]
 obtain⟨W1,hW1⟩:=xj (W0.alloc (.cells #[ui 0,ui 0,uw 0,ui 0,uw 0,ui 0,ub 0,.bool false] 143));have hb1':Bw W0 W1:=by rw[<-hW1];exact al _
 have hx1:W1.heap[w.heap.size]?=some (.cells #[ui c,ui n] 36 (0,0)):=by rw[hb1'.block _ (gsz hx0)];exact hx0
 have hr1:W1.heap[w.heap.size+1]?=some (.cells #[ui 0,ui 0,uw 0,ui 0,uw 0,ui 0,ub 0,.bool false] 143 (0,0)):=by rw[hb1'.block _ (gsz hr0)];exact hr0
 have hv1:W1.heap[W0.heap.size]?=some (.cells #[ui 0,ui 0,uw 0,ui 0,uw 0,ui 0,ub 0,.bool false] 143 (0,0)):=by rw[<-hW1];exact ae W0 _
 have h0:=h.on hb0;have h1:=h0.on hb1';have hgK:=h.rel.get c n;have q0:(Instr.lookup 127 (.map (some hb)) (.agg #[ui c,ui n]) true).run Tryz.prog W0=_:=V9 h0.map c n;have q1:(Instr.lookup 127 (.map (some hb)) (.agg #[ui c,ui n]) true).run Tryz.prog W0.drew=_:=V9 (w:=W0.drew) h0.map c n;have q2:(Instr.lookup 127 (.map (some hb)) (.agg #[ui c,ui n]) true).run Tryz.prog W1.drew=_:=V9 (w:=W1.drew) h1.map c n;rw[hgK]at q0 q1 q2;have c0:=h0.cell;have c1:=h1.cell;rw[ahi];generalize (getB c n K).isSome=z at*;generalize vz (getB c n K)=x at*;obtain⟨bt,hbt⟩:=xj w.heap.size;obtain⟨br,hbr⟩:=xj (w.heap.size+1);obtain⟨bv,hbv⟩:=xj W0.heap.size;rw[hbt]at hx0 hx1;rw[hbr]at hr0 hr1;rw[hbv]at hv1;have HBF:Hid (Bw w W1):=hb0.trans (hb1'.mono hb0.size);have HN:Hid (w.heap.size<=bv/\br≠bv/\w.heap.size<=br):=by refine⟨?_,?_,?_⟩<;>omega
 have HR:Hid (W1.heap[br]?=some (.cells #[ui 0,ui 0,uw 0,ui 0,uw 0,ui 0,ub 0,.bool false] 143 (0,0))/\W1.heap[bv]?=some (.cells #[ui 0,ui 0,uw 0,ui 0,uw 0,ui 0,ub 0,.bool false] 143 (0,0))):=⟨hr1,hv1⟩;obtain⟨d0,d1⟩:=bk2 hx0;obtain⟨e0,e1⟩:=bk2 hx1;have zz0:=bk8 hv1;have f0:W1.frozen? ⟨bv,0,none⟩=false:=Ad hv1 0;have f1:W1.frozen? ⟨bv,1,none⟩=false:=Ad hv1 1;have f2:W1.frozen? ⟨bv,2,none⟩=false:=Ad hv1 2;have f3:W1.frozen? ⟨bv,3,none⟩=false:=Ad hv1 3;have f4:W1.frozen? ⟨bv,4,none⟩=false:=Ad hv1 4;have f5:W1.frozen? ⟨bv,5,none⟩=false:=Ad hv1 5;have f6:W1.frozen? ⟨bv,6,none⟩=false:=Ad hv1 6;have f7:W1.frozen? ⟨bv,7,none⟩=false:=Ad hv1 7;clear h h0 h1 hb0 hb0' hb1' hba hxa hx0 hx1 hr0 hr1 hv1 hgK;simp only[vdV]at q0 q1 q2;rw[hbt]at hbr hsa hs0;have hsa':Wa.heap.size=br:=by omega
 clear hbr hsa hs0;go_enter Tryz.func118,Tryz.ntmps118;go_wp2_with fail;go_region;obtain⟨X,hX⟩:=xj ((((((((W1.setCell ⟨bv,0,none⟩ (ui x.c)).setCell ⟨bv,1,none⟩ (ui x.n)).setCell ⟨bv,2,none⟩ (uw x.sp)).setCell ⟨bv,3,none⟩ (ui x.sl)).setCell ⟨bv,4,none⟩ (uw x.ap)).setCell ⟨bv,5,none⟩ (ui x.al)).setCell ⟨bv,6,none⟩ (ub x.pt)).setCell ⟨bv,7,none⟩ (.bool x.dn));have HX:Hid (X.heap[bv]?=some (.cells #[ui x.c,ui x.n,uw x.sp,ui x.sl,uw x.ap,ui x.al,ub x.pt,.bool x.dn] 143 (0,0))/\X.heap[br]?=some (.cells #[ui 0,ui 0,uw 0,ui 0,uw 0,ui 0,ub 0,.bool false] 143 (0,0))/\Bw w X):=by have hk:=ah8 W1 bv x;have i1:=bx8 x HR.out.2;have i2:=ack x HBF.out HN.out.1;rw[hX]at hk i1 i2;exact⟨i1,(hk.block br (gsz HR.out.1) HN.out.2.1).trans HR.out.1,i2⟩
 rw[hX];clear hX;obtain⟨W2,hW2⟩:=xj X.drew;have H2:Hid (W2.heap[bv]?=some (.cells #[ui x.c,ui x.n,uw x.sp,ui x.sl,uw x.ap,ui x.al,ub x.pt,.bool x.dn] 143 (0,0))/\W2.heap[br]?=some (.cells #[ui 0,ui 0,uw 0,ui 0,uw 0,ui 0,ub 0,.bool false] 143 (0,0))/\Bw w W2):=by rw[<-hW2];exact⟨HX.out.1,HX.out.2.1,HX.out.2.2.drew⟩
 rw[hW2];clear HX hW2 q0 q1 q2 c0 c1 d0 d1 e0 e1 f0 f1 f2 f3 f4 f5 f6 f7 HR HBF hWa hW0 hW1 hbt hbv hsa' zz0;have zz0:=bk8 H2.out.1;have zy0:=bk8 H2.out.2.1;have f0:W2.frozen? ⟨br,0,none⟩=false:=Ad H2.out.2.1 0;have f1:W2.frozen? ⟨br,1,none⟩=false:=Ad H2.out.2.1 1;have f2:W2.frozen? ⟨br,2,none⟩=false:=Ad H2.out.2.1 2;have f3:W2.frozen? ⟨br,3,none⟩=false:=Ad H2.out.2.1 3;have f4:W2.frozen? ⟨br,4,none⟩=false:=Ad H2.out.2.1 4;have f5:W2.frozen? ⟨br,5,none⟩=false:=Ad H2.out.2.1 5;have f6:W2.frozen? ⟨br,6,none⟩=false:=Ad H2.out.2.1 6;have f7:W2.frozen? ⟨br,7,none⟩=false:=Ad H2.out.2.1 7;have HI:Hid _:=bx8 x H2.out.2.1;have HBw:Hid _:=ack x H2.out.2.2 HN.out.2.2;go_wp2_with fail;have g0:((((((((W2.setCell ⟨br,0,none⟩ (ui x.c)).setCell ⟨br,1,none⟩ (ui x.n)).setCell ⟨br,2,none⟩ (uw x.sp)).setCell ⟨br,3,none⟩ (ui x.sl)).setCell ⟨br,4,none⟩ (uw x.ap)).setCell ⟨br,5,none⟩ (ui x.al)).setCell ⟨br,6,none⟩ (ub x.pt)).setCell ⟨br,7,none⟩ (.bool x.dn)).cell? ⟨br,0,none⟩=some (ui x.c):=Aa HI.out rfl;have g1:((((((((W2.setCell ⟨br,0,none⟩ (ui x.c)).setCell ⟨br,1,none⟩ (ui x.n)).setCell ⟨br,2,none⟩ (uw x.sp)).setCell ⟨br,3,none⟩ (ui x.sl)).setCell ⟨br,4,none⟩ (uw x.ap)).setCell ⟨br,5,none⟩ (ui x.al)).setCell ⟨br,6,none⟩ (ub x.pt)).setCell ⟨br,7,none⟩ (.bool x.dn)).cell? ⟨br,1,none⟩=some (ui x.n):=Aa HI.out rfl;have g2:((((((((W2.setCell ⟨br,0,none⟩ (ui x.c)).setCell ⟨br,1,none⟩ (ui x.n)).setCell ⟨br,2,none⟩ (uw x.sp)).setCell ⟨br,3,none⟩ (ui x.sl)).setCell ⟨br,4,none⟩ (uw x.ap)).setCell ⟨br,5,none⟩ (ui x.al)).setCell ⟨br,6,none⟩ (ub x.pt)).setCell ⟨br,7,none⟩ (.bool x.dn)).cell? ⟨br,2,none⟩=some (uw x.sp):=Aa HI.out rfl;have g3:((((((((W2.setCell ⟨br,0,none⟩ (ui x.c)).setCell ⟨br,1,none⟩ (ui x.n)).setCell ⟨br,2,none⟩ (uw x.sp)).setCell ⟨br,3,none⟩ (ui x.sl)).setCell ⟨br,4,none⟩ (uw x.ap)).setCell ⟨br,5,none⟩ (ui x.al)).setCell ⟨br,6,none⟩ (ub x.pt)).setCell ⟨br,7,none⟩ (.bool x.dn)).cell? ⟨br,3,none⟩=some (ui x.sl):=Aa HI.out rfl;have g4:((((((((W2.setCell ⟨br,0,none⟩ (ui x.c)).setCell ⟨br,1,none⟩ (ui x.n)).setCell ⟨br,2,none⟩ (uw x.sp)).setCell ⟨br,3,none⟩ (ui x.sl)).setCell ⟨br,4,none⟩ (uw x.ap)).setCell ⟨br,5,none⟩ (ui x.al)).setCell ⟨br,6,none⟩ (ub x.pt)).setCell ⟨br,7,none⟩ (.bool x.dn)).cell? ⟨br,4,none⟩=some (uw x.ap):=Aa HI.out rfl;have g5:((((((((W2.setCell ⟨br,0,none⟩ (ui x.c)).setCell ⟨br,1,none⟩ (ui x.n)).setCell ⟨br,2,none⟩ (uw x.sp)).setCell ⟨br,3,none⟩ (ui x.sl)).setCell ⟨br,4,none⟩ (uw x.ap)).setCell ⟨br,5,none⟩ (ui x.al)).setCell ⟨br,6,none⟩ (ub x.pt)).setCell ⟨br,7,none⟩ (.bool x.dn)).cell? ⟨br,5,none⟩=some (ui x.al):=Aa HI.out rfl;have g6:((((((((W2.setCell ⟨br,0,none⟩ (ui x.c)).setCell ⟨br,1,none⟩ (ui x.n)).setCell ⟨br,2,none⟩ (uw x.sp)).setCell ⟨br,3,none⟩ (ui x.sl)).setCell ⟨br,4,none⟩ (uw x.ap)).setCell ⟨br,5,none⟩ (ui x.al)).setCell ⟨br,6,none⟩ (ub x.pt)).setCell ⟨br,7,none⟩ (.bool x.dn)).cell? ⟨br,6,none⟩=some (ub x.pt):=Aa HI.out rfl;have g7:((((((((W2.setCell ⟨br,0,none⟩ (ui x.c)).setCell ⟨br,1,none⟩ (ui x.n)).setCell ⟨br,2,none⟩ (uw x.sp)).setCell ⟨br,3,none⟩ (ui x.sl)).setCell ⟨br,4,none⟩ (uw x.ap)).setCell ⟨br,5,none⟩ (ui x.al)).setCell ⟨br,6,none⟩ (ub x.pt)).setCell ⟨br,7,none⟩ (.bool x.dn)).cell? ⟨br,7,none⟩=some (.bool x.dn):=Aa HI.out rfl;refine ay (v:=.tuple #[vdV x,.bool z]) (by simp[results,Tryz.results118,go_sem,g0,g1,g2,g3,g4,g5,g6,g7,vdV]) rfl ?_;exact⟨rfl,HBw.out⟩
def Ud(b:Nat)(w:World):(binOp .eql 127 (.map (some b)) (.map none)).run Tryz.prog w=.ok (.bool false) w:=by have e:=run_equal_map_nil (P:=Tryz.prog) w 127 36 143 (some b) Tryz.underlying127;simp[binOp,e,Result.andThen]
def aoi(x y:Vd)(w:World):(binOp .neq 143 (.agg #[ui x.c,ui x.n,uw x.sp,ui x.sl,uw x.ap,ui x.al,ub x.pt,.bool x.dn]) (.agg #[ui y.c,ui y.n,uw y.sp,ui y.sl,uw y.ap,ui y.al,ub y.pt,.bool y.dn])).run Tryz.prog w=.ok (.bool (!eqV x y)) w:=by
 obtain⟨c,n,sp,sl,ap,al,pt,dn⟩:=x;have zc':=y;simp only[eqV];simp[go_sem];repeat' split
 all_goals simp_all
structure Sb(B p hb:Nat)(m K:Bk)(w:World)(bv:Nat)(v:Vd)(W:World):Prop where
 bo:Bo B p hb m K W
 bel:Bw w W
 bx:W.heap[bv]?=some (.cells #[ui v.c,ui v.n,uw v.sp,ui v.sl,uw v.ap,ui v.al,ub v.pt,.bool v.dn] 143 (0,0))
def Sb.on{B p hb:Nat}{m K:Bk}{w W W':World}{bv:Nat}{v:Vd}(h:Sb B p hb m K w bv v W)(hb':Bw W W'):Sb B p hb m K w bv v W':=
 ⟨h.bo.on hb',h.bel.trans (hb'.mono h.bel.size),by rw[hb'.block _ (gsz h.bx)];exact h.bx⟩
def Vx{B p hb:Nat}{m K:Bk}{w W:World}(h:Bo B p hb m K W)(hb':Bw w W):∃M',BoAt B p M' K W/\Kept (λk=>k=p\/k=hb) w W/\∀i,M' i->(i=p\/i=hb)\/w.heap.size<=i:=
 ⟨λk=>k=p\/k=hb,⟨hb,m,h,λ_=>Iff.rfl⟩,Kept.of_below hb',λ_ hi=>.inl hi⟩
def aei{B p hb:Nat}{m m' K K':Bk}{w W W':World}(h:Bo B p hb m K W)(hb':Bw w W)(hk:Kept (λi=>i=hb) W W')(hm:Gv.At kd vdV hb m' W')(hr:Rl m' K'):∃M',BoAt B p M' K' W'/\Kept (λk=>k=p\/k=hb) w W'/\∀i,M' i->(i=p\/i=hb)\/w.heap.size<=i:=by
 refine⟨λk=>k=p\/k=hb,⟨hb,m',⟨?_,hm,hr,h.lo,h.lh⟩,λ_=>Iff.rfl⟩,?_,λ_ hi=>.inl hi⟩
 .rw[hk.block p (gsz h.box) h.ne];exact h.box
 .exact(Kept.of_below (F:=λk=>k=p\/k=hb) hb').trans hk (λ_ e=>.inl (.inr e))
def aof{B p hb:Nat}{m K:Bk}{w:World}(v:Vd)(h:Bo B p hb m K w):cpr 50 #[pz p,.agg #[ui v.c,ui v.n,uw v.sp,ui v.sl,uw v.ap,ui v.al,ub v.pt,.bool v.dn]] w λe w'=>e=.returned (iw (setB v K).2)/\∃M',BoAt B p M' (setB v K).1 w'/\Kept (λk=>k=p\/k=hb) w w'/\∀i,M' i->(i=p\/i=hb)\/w.heap.size<=i:=by
 obtain⟨W0,hW0⟩:=xj (w.alloc (.cells #[ui v.c,ui v.n,uw v.sp,ui v.sl,uw v.ap,ui v.al,ub v.pt,.bool v.dn] 143));have hb0:Bw w W0:=by rw[<-hW0];exact al _
 have hx0:W0.heap[w.heap.size]?=some (.cells #[ui v.c,ui v.n,uw v.sp,ui v.sl,uw v.ap,ui v.al,ub v.pt,.bool v.dn] 143 (0,0)):=by rw[<-hW0];exact ae w _
 have H0:Hid (Sb B p hb m K w w.heap.size v W0):=⟨h.on hb0,hb0,hx0⟩;have c0:=H0.out.bo.cell;have x0:ce W0 w.heap.size 0 (ui v.c):=Aa hx0 rfl;have x1:ce W0 w.heap.size 1 (ui v.n):=Aa hx0 rfl;have x2:ce W0 w.heap.size 2 (uw v.sp):=Aa hx0 rfl;have x3:ce W0 w.heap.size 3 (ui v.sl):=Aa hx0 rfl;have x4:ce W0 w.heap.size 4 (uw v.ap):=Aa hx0 rfl;have x5:ce W0 w.heap.size 5 (ui v.al):=Aa hx0 rfl;have x6:ce W0 w.heap.size 6 (ub v.pt):=Aa hx0 rfl;have x7:ce W0 w.heap.size 7 (.bool v.dn):=Aa hx0 rfl;have qn:=Ud hb;have CR:Hid (∀W,Sb B p hb m K w w.heap.size v W->cpr 117 #[.agg #[ui v.c,ui v.n,uw v.sp,ui v.sl,uw v.ap,ui v.al,ub v.pt,.bool v.dn]] W λe w'=>e=.returned (.bool (okV v))/\Hid (Sb B p hb m K w w.heap.size v w')):=λW hW=>(atg v W).mono (by rintro e w' ⟨rfl,hb'⟩;exact⟨rfl,hW.on hb'⟩)
 have HG:Hid (m.find? (Gv.isK kd (kd v))=getB v.c v.n K):=h.rel.get v.c v.n;have CO:Hid (∀W,Sb B p hb m K w w.heap.size v W->cpr 118 #[pz p,.agg #[ui v.c,ui v.n]] W λe w'=>e=.returned (.tuple #[.agg #[ui (vz (getB v.c v.n K)).c,ui (vz (getB v.c v.n K)).n,uw (vz (getB v.c v.n K)).sp,ui (vz (getB v.c v.n K)).sl,uw (vz (getB v.c v.n K)).ap,ui (vz (getB v.c v.n K)).al,ub (vz (getB v.c v.n K)).pt,.bool (vz (getB v.c v.n K)).dn],.bool (getB v.c v.n K).isSome])/\Hid (Sb B p hb m K w w.heap.size v w')):=λW hW=>(of15 v.c v.n hW.bo).mono (by rintro e w' ⟨rfl,hb'⟩;exact⟨by rw[ahi];rfl,hW.on hb'⟩)
 have HR:Hid (Rl m K):=h.rel;have HS1:Hid (okV v=false->setB v K=(K,1)):=λe=>by unfold setB;rw[e];rfl
 have HS2:Hid (okV v=true->getB v.c v.n K=none->setB v K=(insB v K,0)):=λe e2=>by unfold setB;rw[e,e2];rfl
 have HS3:Hid (∀o,okV v=true->getB v.c v.n K=some o->setB v K=(K,if eqV {o with dn:=v.dn} v then 0 else 40)):=λo e e2=>by unfold setB;rw[e,e2];rfl
 clear h hb0 hx0;generalize okV v=r at*;obtain⟨bv,hbv⟩:=xj w.heap.size;rw[hbv]at x0 x1 x2 x3 x4 x5 x6 x7 H0 CR CO;go_enter Tryz.func50,Tryz.ntmps50;go_wp2_with fail;refine(CR.out _ H0.out).mono ?_;rintro e w1 ⟨rfl,H1⟩;clear x0 x1 x2 x3 x4 x5 x6 x7 c0 hW0 CR H0 hbv;cases r
 .go_wp2_with fail;go_ret;rw[HS1.out (by simp)];exact⟨rfl,Vx H1.out.bo H1.out.bel⟩
 .have x0:ce w1 bv 0 (ui v.c):=Aa H1.out.bx rfl;have x1:ce w1 bv 1 (ui v.n):=Aa H1.out.bx rfl;go_wp2_with fail;refine(CO.out _ H1.out).mono ?_;rintro e w2 ⟨rfl,H2⟩;clear x0 x1 CO HS1 H1;cases hg:getB v.c v.n K with
  |none=>
   have HS:Hid (setB v K=(insB v K,0)):=HS2.out (by simp) hg;have HGN:Hid (getB v.c v.n K=none):=hg;rw[hg]at HG;simp only[Option.isSome_none];generalize vz none=x;clear HS2 HS3 hg;obtain⟨W3,hW3⟩:=xj (w2.alloc (.cells #[ui x.c,ui x.n,uw x.sp,ui x.sl,uw x.ap,ui x.al,ub x.pt,.bool x.dn] 143));have H3:Hid (Sb B p hb m K w bv v W3):=by rw[<-hW3];exact H2.out.on (al _)
   obtain⟨wU,hrun,hmU,hkU,-⟩:=Gv.ae2 (w:=W3.drew) Tryz.underlying127 (H3.out.on ((ai _ _).drew)).bo.map v HG.out;have HU:Hid (Gv.At kd vdV hb (m++[v]) wU/\Kept (λi=>i=hb) W3.drew wU):=⟨hmU,hkU⟩;have hru:(Instr.mapUpdate 127 (.map (some hb)) (.agg #[ui v.c,ui v.n]) (.agg #[ui v.c,ui v.n,uw v.sp,ui v.sl,uw v.ap,ui v.al,ub v.pt,.bool v.dn])).run Tryz.prog W3.drew=.ok () wU:=hrun;clear hrun hmU hkU H2;have c0:=H3.out.bo.cell;obtain⟨x0,x1,x2,x3,x4,x5,x6,x7⟩:=bk8 H3.out.bx;go_wp2_with fail;go_region;go_wp2_with fail;go_ret;rw[HS.out];exact⟨rfl,aei (W:=W3.drew) (H3.out.on ((ai _ _).drew)).bo (H3.out.on ((ai _ _).drew)).bel HU.out.2 HU.out.1 (HR.out.ins HGN.out)⟩
  |some o=>
   have HS:Hid (setB v K=(K,if eqV {o with dn:=v.dn} v then 0 else 40)):=HS3.out o (by simp) hg;simp only[vz,Option.getD_some,Option.isSome_some];clear HS2 HS3 hg HG;obtain⟨W3,hW3⟩:=xj (w2.alloc (.cells #[ui o.c,ui o.n,uw o.sp,ui o.sl,uw o.ap,ui o.al,ub o.pt,.bool o.dn] 143));have H3:Hid (Sb B p hb m K w bv v W3/\W3.heap[w2.heap.size]?=some (.cells #[ui o.c,ui o.n,uw o.sp,ui o.sl,uw o.ap,ui o.al,ub o.pt,.bool o.dn] 143 (0,0))/\bv<w2.heap.size):=by rw[<-hW3];exact⟨H2.out.on (al _),ae w2 _,(gsz H2.out.bx)⟩
   have HLo:Hid (w.heap.size<=w2.heap.size):=H2.out.bel.size;have HBo:Hid (Kept (λi=>i=w2.heap.size) W3 (W3.setCell ⟨w2.heap.size,7,none⟩ (.bool v.dn))/\(W3.setCell ⟨w2.heap.size,7,none⟩ (.bool v.dn)).heap[w2.heap.size]?=some (.cells #[ui o.c,ui o.n,uw o.sp,ui o.sl,uw o.ap,ui o.al,ub o.pt,.bool v.dn] 143 (0,0))/\p<w2.heap.size/\hb<w2.heap.size):=⟨Ai _ _ _ _,Af _ H3.out.2.1,(gsz H2.out.bo.box),H2.out.bo.map.lt⟩;clear H2;obtain⟨bo,hbo⟩:=xj w2.heap.size;rw[hbo]at H3 HBo HLo;have x7:ce W3 bv 7 (.bool v.dn):=Aa H3.out.1.bx rfl;have y7:ce W3 bo 7 (.bool o.dn):=Aa H3.out.2.1 rfl;have f7:W3.frozen? ⟨bo,7,none⟩=false:=Ad H3.out.2.1 7;obtain⟨W4,hW4⟩:=xj (W3.setCell ⟨bo,7,none⟩ (.bool v.dn));rw[hW4]at HBo;have H4:Hid (Sb B p hb m K w bv v W4):=by have hk:=HBo.out.1;have n1:=H3.out.2.2;have n2:=HBo.out.2.2;refine⟨H3.out.1.bo.kept hk (by omega) (by omega),H3.out.1.bel.trans (hk.below H3.out.1.bel.size (λk e=>by rw[e];exact HLo.out)),?_⟩;rw[hk.block bv (gsz H3.out.1.bx) (by omega)];exact H3.out.1.bx
   have zu0:=bk8 H4.out.bx;have zz0:=bk8 HBo.out.2.1;have hq:=aoi {o with dn:=v.dn} v;dsimp only at hq;generalize eqV {o with dn:=v.dn} v=q at*;cases q
   .go_wp2_with fail;go_ret;rw[HS.out];exact⟨rfl,Vx H4.out.bo H4.out.bel⟩
   .go_wp2_with fail;go_ret;rw[HS.out];exact⟨rfl,Vx H4.out.bo H4.out.bel⟩
structure Tb(B p hb:Nat)(m K:Bk)(w:World)(bt:Nat)(c n:Int)(W:World):Prop where
 bo:Bo B p hb m K W
 bel:Bw w W
 bx:W.heap[bt]?=some (.cells #[ui c,ui n] 36 (0,0))
def Tb.on{B p hb:Nat}{m K:Bk}{w W W':World}{bt:Nat}{c n:Int}(h:Tb B p hb m K w bt c n W)(hb':Bw W W'):Tb B p hb m K w bt c n W':=
 ⟨h.bo.on hb',h.bel.trans (hb'.mono h.bel.size),by rw[hb'.block _ (gsz h.bx)];exact h.bx⟩
def azd{B p hb:Nat}{m K:Bk}{w:World}(c n:Int)(h:Bo B p hb m K w):cpr 55 #[pz p,.agg #[ui c,ui n]] w λe w'=>e=.returned (.bool (I8 c n K).2)/\∃M',BoAt B p M' (I8 c n K).1 w'/\Kept (λk=>k=p\/k=hb) w w'/\∀i,M' i->(i=p\/i=hb)\/w.heap.size<=i:=by
 obtain⟨W0,hW0⟩:=xj (w.alloc (.cells #[ui c,ui n] 36));have hb0:Bw w W0:=by rw[<-hW0];exact al _
 have hx0:W0.heap[w.heap.size]?=some (.cells #[ui c,ui n] 36 (0,0)):=by rw[<-hW0];exact ae w _
 have H0:Hid (Tb B p hb m K w w.heap.size c n W0):=⟨h.on hb0,hb0,hx0⟩;have x0:ce W0 w.heap.size 0 (ui c):=Aa hx0 rfl;have x1:ce W0 w.heap.size 1 (ui n):=Aa hx0 rfl;have HG:Hid (m.find? (Gv.isK kd (c,n))=getB c n K):=h.rel.get c n;have CO:Hid (∀W,Tb B p hb m K w w.heap.size c n W->cpr 118 #[pz p,.agg #[ui c,ui n]] W λe w'=>e=.returned (.tuple #[.agg #[ui (vz (getB c n K)).c,ui (vz (getB c n K)).n,uw (vz (getB c n K)).sp,ui (vz (getB c n K)).sl,uw (vz (getB c n K)).ap,ui (vz (getB c n K)).al,ub (vz (getB c n K)).pt,.bool (vz (getB c n K)).dn],.bool (getB c n K).isSome])/\Hid (Tb B p hb m K w w.heap.size c n w')):=λW hW=>(of15 c n hW.bo).mono (by rintro e w' ⟨rfl,hb'⟩;exact⟨by rw[ahi];rfl,hW.on hb'⟩)
 have HR:Hid (Rl m K):=h.rel;have HS1:Hid (getB c n K=none->I8 c n K=(K,false)):=λe=>by unfold I8;rw[e]
 have HS2:Hid (∀o,getB c n K=some o->I8 c n K=if cmB o then(P6 c n K,true)else(K,false)):=λo e=>by unfold I8;rw[e]
 clear h hb0 hx0;obtain⟨bt,hbt⟩:=xj w.heap.size;rw[hbt]at x0 x1 H0 CO;go_enter Tryz.func55,Tryz.ntmps55;go_wp2_with fail;refine(CO.out _ H0.out).mono ?_;rintro e w1 ⟨rfl,H1⟩;clear x0 x1 hW0 CO H0 hbt;cases hg:getB c n K with
 |none=>
  have HS:Hid (I8 c n K=(K,false)):=HS1.out hg;simp only[Option.isSome_none];generalize vz none=x;clear HS1 HS2 hg;have HB:Hid (∀o,Tb B p hb m K w bt c n (w1.alloc o)):=λo=>H1.out.on (al _);clear H1;go_wp2_with fail;go_ret;rw[HS.out];exact⟨rfl,Vx (HB.out _).bo (HB.out _).bel⟩
 |some o=>
  have hS:=HS2.out o hg;have hmo:m.find? (Gv.isK kd (c,n))=some o:=HG.out.trans hg;have hko:kd o=(c,n):=((Qb HR.out.apart).1 hmo).2;obtain⟨rfl,rfl⟩:o.c=c/\o.n=n:=⟨iq Prod.fst hko,iq Prod.snd hko⟩;have CC:Hid (∀W,1=1->cpr 127 #[.agg #[ui o.c,ui o.n,uw o.sp,ui o.sl,uw o.ap,ui o.al,ub o.pt,.bool o.dn]] W λe w'=>e=.returned (.bool (cmB o))/\Bw W w'):=λW _=>aie o W;simp only[vz,Option.getD_some,Option.isSome_some];have HM:Hid (m.find? (Gv.isK kd (kd ({o with dn:=true}:Vd)))=some o):=hmo;clear HS1 HS2 hg HG hmo hko;obtain⟨W2,hW2⟩:=xj (w1.alloc (.cells #[ui o.c,ui o.n,uw o.sp,ui o.sl,uw o.ap,ui o.al,ub o.pt,.bool o.dn] 143));have H2:Hid (Tb B p hb m K w bt o.c o.n W2/\W2.heap[w1.heap.size]?=some (.cells #[ui o.c,ui o.n,uw o.sp,ui o.sl,uw o.ap,ui o.al,ub o.pt,.bool o.dn] 143 (0,0))/\w.heap.size<=w1.heap.size/\bt≠w1.heap.size/\p≠w1.heap.size/\hb≠w1.heap.size):=by rw[<-hW2];have n1:=(gsz H1.out.bx);have n2:=(gsz H1.out.bo.box);have n3:=H1.out.bo.map.lt;exact⟨H1.out.on (al _),ae w1 _,H1.out.bel.size,by omega,by omega,by omega⟩
  clear H1;obtain⟨bo,hbo⟩:=xj w1.heap.size;rw[hbo]at H2;obtain⟨y0,y1,y2,y3,y4,y5,y6,y7⟩:=bk8 H2.out.2.1;go_wp2_with fail;refine(CC.out _ (by simp)).mono ?_;rintro e w3 ⟨rfl,hb3⟩;have H3:Hid (Tb B p hb m K w bt o.c o.n w3/\w3.heap[bo]?=some (.cells #[ui o.c,ui o.n,uw o.sp,ui o.sl,uw o.ap,ui o.al,ub o.pt,.bool o.dn] 143 (0,0))):=⟨H2.out.1.on hb3,by rw[hb3.block _ (gsz H2.out.2.1)];exact H2.out.2.1⟩;have HN:=H2.out.2.2;have HNE:Hid (w.heap.size<=bo/\bt≠bo/\p≠bo/\hb≠bo):=HN;clear HN H2 hb3 y0 y1 y2 y3 y4 y5 y6 y7 hW2 hbo CC;have HS:Hid (I8 o.c o.n K=if cmB o then(P6 o.c o.n K,true)else(K,false)):=hS;clear hS;generalize cmB o=z at*;cases z
  .go_wp2_with fail;go_ret;rw[HS.out];exact⟨rfl,Vx H3.out.1.bo H3.out.1.bel⟩
  .have y7:ce w3 bo 7 (.bool o.dn):=Aa H3.out.2 rfl;have f7:w3.frozen? ⟨bo,7,none⟩=false:=Ad H3.out.2 7;obtain⟨W4,hW4⟩:=xj (w3.setCell ⟨bo,7,none⟩ (.bool true));have H4:Hid (Tb B p hb m K w bt o.c o.n W4/\W4.heap[bo]?=some (.cells #[ui o.c,ui o.n,uw o.sp,ui o.sl,uw o.ap,ui o.al,ub o.pt,.bool true] 143 (0,0))):=by have hk:=Ai w3 bo 7 (.bool true);have hx:=Af (j:=7) (.bool true) H3.out.2;rw[hW4]at hk hx;refine⟨⟨H3.out.1.bo.kept hk HNE.out.2.2.1 HNE.out.2.2.2,H3.out.1.bel.trans (hk.below H3.out.1.bel.size (λk e=>by rw[e];exact HNE.out.1)),?_⟩,hx⟩;rw[hk.block bt (gsz H3.out.1.bx) HNE.out.2.1];exact H3.out.1.bx
   obtain⟨wU,j,hrun,hj,hmU,hkU,-⟩:=Gv.ae1 (w:=W4.drew) Tryz.underlying127 (H4.out.1.on ((ai _ _).drew)).bo.map ({o with dn:=true}:Vd) HM.out;have HU:Hid (Gv.At kd vdV hb (m.set j {o with dn:=true}) wU/\Kept (λi=>i=hb) W4.drew wU/\m[j]?=some o):=⟨hmU,hkU,hj⟩;have hru:(Instr.mapUpdate 127 (.map (some hb)) (.agg #[ui o.c,ui o.n]) (.agg #[ui o.c,ui o.n,uw o.sp,ui o.sl,uw o.ap,ui o.al,ub o.pt,.bool true])).run Tryz.prog W4.drew=.ok () wU:=hrun;clear hrun hmU hkU hj H3;have c0:=H4.out.1.bo.cell;obtain⟨x0,x1⟩:=bk2 H4.out.1.bx;have zz0:=bk8 H4.out.2;go_wp2_with fail;go_region;go_wp2_with fail;go_ret;rw[HS.out];exact⟨rfl,aei (W:=W4.drew) (H4.out.1.on ((ai _ _).drew)).bo (H4.out.1.on ((ai _ _).drew)).bel HU.out.2.1 HU.out.1 (HR.out.done HU.out.2.2 rfl)⟩
def tk(k:Int×Int):Int×Int:=k
def uz(_:Int×Int):Value:=.agg #[]
abbrev Ro(b:Nat)(S:List (Int×Int))(w:World):Prop:=Gv.At tk uz b S w
def atc{b:Nat}{S:List (Int×Int)}{w:World}(h:Ro b S w)(c n:Int):∃w' S',(Instr.mapUpdate 214 (.map (some b)) (.agg #[ui c,ui n]) (.agg #[])).run Tryz.prog w=.ok () w'/\Ro b S' w'/\(∀x,x∈S'↔x∈S\/x=(c,n))/\Kept (λi=>i=b) w w':=by
 cases hg:S.find? (Gv.isK tk (tk (c,n)))with
 |none=>
  obtain⟨w',h1,h2,h3,_⟩:=Gv.ae2 Tryz.underlying214 h (c,n) hg;exact⟨w',S++[(c,n)],h1,h2,λx=>by simp,h3⟩
 |some y=>
  obtain⟨w',j,h1,h2,h3,h4,_⟩:=Gv.ae1 Tryz.underlying214 h (c,n) hg;have hy:y=(c,n):=by have:=List.find?_some hg;exact of_decide_eq_true this
  subst hy;rw[Gv.Df h2]at h3;refine⟨w',S,h1,h3,λx=>⟨.inl,?_⟩,h4⟩;rintro(e|e)
  .exact e
  .rw[e];exact wz h2
def ata{b:Nat}{S:List (Int×Int)}{w:World}(h:Ro b S w)(c n:Int):(Instr.lookup 214 (.map (some b)) (.agg #[ui c,ui n]) true).run Tryz.prog w=.ok (.tuple #[.agg #[],.bool (decide ((c,n)∈S))]) w:=by
 show(Instr.lookup 214 (.map (some b)) (Gv.kx (c,n)) true).run Tryz.prog w=_;obtain⟨es,cl,h1,h2,_⟩:=h;cases hg:S.find? (Gv.isK tk (c,n))with
 |none=>
  have:(c,n)∉S:=λhm=>by have:=List.find?_eq_none.1 hg (c,n) hm;simp[Gv.isK,tk]at this
  simp[Instr.lookup,ku Tryz.underlying214,jk h1,Gv.Em,Gv.Ej (c,n) h2,Gv.Vg (i:=0) hg,Result.andThen,this]
 |some t=>
  obtain⟨j,g1,g2,g3⟩:=Gv.Q7 (i:=0) hg;have:(c,n)∈S:=by have e:t=(c,n):=g3;rw[<-e];exact wz g2
  simp[Instr.lookup,ku Tryz.underlying214,jk h1,Gv.Em,Gv.Ej (c,n) h2,g1,Result.andThen,this];rfl
def as5(L:List (Int×Int))(v:Value)(w:World)(h:TsAt w.heap.size v L w)(hz:L.length*8<=140737488355328):
  cpr 123 #[v] w λe w'=>∃sb S,e=.returned (.map (some sb))/\Ro sb S w'/\(∀x,x∈S↔x∈L)/\w.heap.size<=sb/\Below w.heap.size w w':=by
 obtain⟨ao,cap,rfl,hla,hma⟩:=h.shape;have HA:Hid (∀W,Below w.heap.size w W->∀i,i<L.length->∃b off,ao=some ⟨b,off,none⟩/\ce W b (off+i*2) (ui (L.getD i dtx).1)/\ce W b (off+i*2+1) (ui (L.getD i dtx).2)):=λW hW i hi=>TsAt.el (RwAt.on h hW) hi;have hL9:L.length<9223372036854775808:=by omega
 have HT:Hid (∀m,m<L.length->∀x,x∈L.take (m+1)↔x∈L.take m\/x=L.getD m dtx):=λm hm x=>by rw[jg hm,bu,kw,show L.getD m dtx=L[m]from by simp[List.getD,hm]]
 have HE:Hid (∀m,L.length<=m->L.take m=L):=λm hm=>au hm;have hmm:=@run_makeMap Tryz.prog;have H0:Hid (Ro w.heap.size [] (w.alloc (.map #[] 0))/\Below w.heap.size w (w.alloc (.map #[] 0))):=⟨Gv.At.new w,al _⟩;clear h hla hma hz;obtain⟨sb,hsb⟩:=xj w.heap.size;have HSB:Hid (w.heap.size=sb):=hsb;rw[hsb]at H0;go_enter Tryz.func123,Tryz.ntmps123;go_wp2_with fail;clear hsb hmm;obtain⟨W0,hW0⟩:=xj (w.alloc (.map #[] 0));rw[hW0]at H0|-;clear hW0;go_loopw [9] (λi wr=>∃m:Nat,m<=L.length/\i=iw m/\∃S,Ro sb S wr/\(∀x,x∈S↔x∈L.take m)/\Below w.heap.size w wr) (λi _=>L.length-(intOf i).toNat)
 case atStart=>exact⟨0,gp _,rfl,[],H0.out.1,by simp,by have:=H0.out.2;rwa [<-HSB.out]at this⟩
 case round=>
  obtain⟨m,hm,rfl,S,hS,hx,hbr⟩:=hrel;have HR:Hid (Ro sb S wr/\(∀x,x∈S↔x∈L.take m)/\Below w.heap.size w wr):=⟨hS,hx,hbr⟩;clear hS hx hbr;by_cases hml:m<L.length
  .obtain⟨b,off,rfl,e0,e1⟩:=HA.out wr HR.out.2.2 m hml;have hml':(m:Int)<L.length:=by omega
   have HX:Hid (∀x,x∈L.take (m+1)↔x∈L.take m\/x=L.getD m dtx):=HT.out m hml;generalize L.getD m dtx=x at*;obtain⟨p,q⟩:=x;dsimp only at e0 e1;obtain⟨W1,hW1⟩:=xj (wr.alloc (.cells #[ui p,ui q] 36));have H1:Hid (Ro sb S W1/\Below w.heap.size w W1):=by rw[<-hW1];exact⟨HR.out.1.on (al _),HR.out.2.2.alloc HR.out.2.2.size _⟩
   have hx1:W1.heap[wr.heap.size]?=some (.cells #[ui p,ui q] 36 (0,0)):=by rw[<-hW1];exact ae wr _
   have z0:ce W1 wr.heap.size 0 (ui p):=Aa hx1 rfl;have z1:ce W1 wr.heap.size 1 (ui q):=Aa hx1 rfl;obtain⟨w2,S',hru,g1,g2,g3⟩:=atc H1.out.1 p q;have H2:Hid (Ro sb S' w2/\(∀x,x∈S'↔x∈S\/x=(p,q))/\Kept (λi=>i=sb) W1 w2):=⟨g1,g2,g3⟩;clear g1 g2 g3 hx1;go_wp2_with fail;go_roundw
   case rel=>
    refine⟨m+1,by omega,by go_num,S',H2.out.1,λx=>?_,H1.out.2.trans (H2.out.2.2.below H1.out.2.size (λk e=>by rw[e,<-HSB.out];exact aj _))⟩;rw[H2.out.2.1 x,HX.out x,HR.out.2.1 x]
   case measure=>simp[intOf];omega
  .have hml':¬(m:Int)<L.length:=by omega
   have HL:Hid (L.take m=L):=HE.out m (by omega);go_wp2_with fail;go_ret;have hxx:=HR.out.2.1;rw[HL.out]at hxx;exact⟨sb,rfl,S,HR.out.1,λa b=>hxx (a,b),Nat.le_of_eq HSB.out,HR.out.2.2⟩
structure Cap(sb bk bs:Nat)(S:List (Int×Int))(sp sl:Int)(w:World):Prop where
 set:Ro sb S w
 bk:w.heap[bk]?=some (.cells #[.map (some sb)] 214 (0,0))
 bs:w.heap[bs]?=some (.cells #[uw sp,ui sl] 38 (0,0))
def Cap.kept{sb bk bs:Nat}{S:List (Int×Int)}{sp sl:Int}{w w':World}{F:Nat->Prop}(h:Cap sb bk bs S sp sl w)(hk:Kept F w w')(h1:¬F sb)(h2:¬F bk)(h3:¬F bs):Cap sb bk bs S sp sl w':=
 ⟨h.set.kept hk h1,by rw[hk.block _ (gsz h.bk) h2];exact h.bk,by rw[hk.block _ (gsz h.bs) h3];exact h.bs⟩
def Cap.on{sb bk bs:Nat}{S:List (Int×Int)}{sp sl:Int}{w w':World}(h:Cap sb bk bs S sp sl w)(hb:Below w.heap.size w w'):Cap sb bk bs S sp sl w':=h.kept (F:=λ_=>False) (Kept.of_below hb) (λh=>h) (λh=>h) (λh=>h)
def goB(S:List (Int×Int))(sp sl:Int)(x:Vd):Bool:= !decide ((x.c,x.n)∈S)&&ovB x&&Ar x.sp x.sl sp sl
def au3{S L:List (Int×Int)}(h:∀x,x∈S↔x∈L)(sp sl:Int)(x:Vd):(!goB S sp sl x)=anx sp sl L x:=by
 have e:decide ((x.c,x.n)∈S)=L.contains (x.c,x.n):=by rw[yh,decide_eq_true_iff,h,List.contains_iff_mem]
 unfold goB anx ovB;rw[e];cases L.contains (x.c,x.n)<;>cases x.dn<;>cases cmB x<;>cases Ar x.sp x.sl sp sl<;>rfl
def del26{sb bk bs:Nat}{S:List (Int×Int)}{sp sl:Int}{w:World}(x:Vd)(h:Cap sb bk bs S sp sl w):
  cpr 125 #[.agg #[ui x.c,ui x.n],.agg #[ui x.c,ui x.n,uw x.sp,ui x.sl,uw x.ap,ui x.al,ub x.pt,.bool x.dn],pz bk,pz bs] w λe w'=>e=.returned (.bool (goB S sp sl x))/\Below w.heap.size w w':=by
 obtain⟨W0,hW0⟩:=xj (w.alloc (.cells #[ui x.c,ui x.n] 36));have hb0:Below w.heap.size w W0:=by rw[<-hW0];exact al _
 have hx0:W0.heap[w.heap.size]?=some (.cells #[ui x.c,ui x.n] 36 (0,0)):=by rw[<-hW0];exact ae w _
 obtain⟨W1,hW1⟩:=xj (W0.alloc (.cells #[ui x.c,ui x.n,uw x.sp,ui x.sl,uw x.ap,ui x.al,ub x.pt,.bool x.dn] 143));have hb1':Below W0.heap.size W0 W1:=by rw[<-hW1];exact al _
 have hb1:Below w.heap.size w W1:=hb0.trans (hb1'.mono hb0.size);have hx1:W1.heap[w.heap.size]?=some (.cells #[ui x.c,ui x.n] 36 (0,0)):=by rw[hb1'.block _ (gsz hx0)];exact hx0
 have hv1:W1.heap[W0.heap.size]?=some (.cells #[ui x.c,ui x.n,uw x.sp,ui x.sl,uw x.ap,ui x.al,ub x.pt,.bool x.dn] 143 (0,0)):=by rw[<-hW1];exact ae W0 _
 obtain⟨W2,hW2⟩:=xj (W1.alloc (.cells #[] 217));have hb2':Below W1.heap.size W1 W2:=by rw[<-hW2];exact al _
 have h1:=h.on hb1;obtain⟨bt,hbt⟩:=xj w.heap.size;obtain⟨bv,hbv⟩:=xj W0.heap.size;have HV:Hid (∀W,Below W2.heap.size W2 W->Cap sb bk bs S sp sl W/\W.heap[bv]?=some (.cells #[ui x.c,ui x.n,uw x.sp,ui x.sl,uw x.ap,ui x.al,ub x.pt,.bool x.dn] 143 (0,0))/\Below w.heap.size w W):=λW hb=>by have hb':Below W1.heap.size W1 W:=hb2'.trans (hb.mono hb2'.size);exact⟨h1.on hb',by rw[<-hbv,hb'.block _ (gsz hv1)];exact hv1,hb1.trans (hb'.mono hb1.size)⟩
 have H2:Hid (Cap sb bk bs S sp sl W2/\W2.heap[bv]?=some (.cells #[ui x.c,ui x.n,uw x.sp,ui x.sl,uw x.ap,ui x.al,ub x.pt,.bool x.dn] 143 (0,0))/\Below w.heap.size w W2):=HV.out W2 (ai _ _);have q0:=ata h1.set x.c x.n;rw[hbt]at hx1;have k0:ce W1 bk 0 (.map (some sb)):=Aa h1.bk rfl;obtain⟨t0,t1⟩:=bk2 hx1;have CO:Hid (∀W,1=1->cpr 126 #[.agg #[ui x.c,ui x.n,uw x.sp,ui x.sl,uw x.ap,ui x.al,ub x.pt,.bool x.dn]] W λe w'=>e=.returned (.bool (ovB x))/\Below W.heap.size W w'):=λW _=>aya x W;have CL:Hid (∀W,1=1->cpr 84 #[.agg #[uw x.sp,ui x.sl],.agg #[uw sp,ui sl]] W λe w'=>e=.returned (.bool (Ar x.sp x.sl sp sl))/\Below W.heap.size W w'):=λW _=>Ya x.sp x.sl sp sl W;have HG:Hid (goB S sp sl x=(!decide ((x.c,x.n)∈S)&&ovB x&&Ar x.sp x.sl sp sl)):=rfl;clear h h1 hb0 hb1 hb1' hb2' hx0 hx1 hv1;generalize goB S sp sl x=y at*;generalize decide ((x.c,x.n)∈S)=z at*;generalize ovB x=o at*;generalize Ar x.sp x.sl sp sl=r at*;obtain⟨v0,v1,v2,v3,v4,v5,v6,v7⟩:=bk8 H2.out.2.1;cases z
 .go_enter Tryz.func125,Tryz.ntmps125;go_wp2_with fail;refine(CO.out _ (by simp)).mono ?_;rintro e w3 ⟨rfl,hb3⟩;have H3:Hid (Cap sb bk bs S sp sl w3/\w3.heap[bv]?=some (.cells #[ui x.c,ui x.n,uw x.sp,ui x.sl,uw x.ap,ui x.al,ub x.pt,.bool x.dn] 143 (0,0))/\Below w.heap.size w w3):=HV.out w3 hb3;clear q0 k0 t0 t1 v0 v1 v2 v3 v4 v5 v6 v7 hW0 hW1 hW2 hbt hbv hb3 HV CO H2;cases o
  .go_wp2_with fail;go_ret;exact⟨by rw[HG.out];rfl,H3.out.2.2⟩
  .have v2:ce w3 bv 2 (uw x.sp):=Aa H3.out.2.1 rfl;have v3:ce w3 bv 3 (ui x.sl):=Aa H3.out.2.1 rfl;obtain⟨s0,s1⟩:=bk2 H3.out.1.bs;go_wp2_with fail;refine(CL.out _ (by simp)).mono ?_;rintro e w4 ⟨rfl,hb4⟩;have HB4:Hid (Below w.heap.size w w4):=H3.out.2.2.trans (hb4.mono H3.out.2.2.size);clear hb4 v2 v3 s0 s1;cases r
   .go_wp2_with fail;go_ret;exact⟨by rw[HG.out];rfl,HB4.out⟩
   .go_wp2_with fail;go_ret;exact⟨by rw[HG.out];rfl,HB4.out⟩
 .go_enter Tryz.func125,Tryz.ntmps125;go_wp2_with fail;go_ret;exact⟨by rw[HG.out];rfl,by have:=H2.out.2.2;rwa [hbt]at this⟩
