import Derived.WideKeyRuns
import Derived.Maps.Range
import Derived.RangeFuncNested
import Derived.Test.YtdplfgcoaddbdaaGreatXas
set_option maxHeartbeats 4000000
set_option maxRecDepth 100000
set_option linter.unusedVariables false
set_option linter.unusedSimpArgs false
namespace Go.Proofs.YtdplfgcoaddbdaaGreat.Ver
open Go.RowKit
namespace Gv
def kx(k:Int×Int):Value:=.agg #[ui k.1,ui k.2]
theorem run_same(a b:Int×Int)(w:World):(Op.equal 26 (kx a) (kx b)).run Tryz.prog w=.ok (decide (a=b)) w:=by obtain⟨p,l⟩:=a;obtain⟨q,m⟩:=b;show(Op.equalIn 10000 26 (.agg #[ui p,ui l]) (.agg #[ui q,ui m])).run Tryz.prog w=_;by_cases h:p=q<;>by_cases h2:l=m<;>simp[go_sem,h,h2]
theorem run_check1(n:Nat)(k:Int)(em:Bool)(w:World):(Instr.checkKey em (n+1) 24 (ui k)).run Tryz.prog w=.ok () w:=by unfold Instr.checkKey;simp[go_sem]
theorem run_check2(n:Nat)(k:Int×Int)(em:Bool)(w:World):(Instr.checkKey em (n+1+1) 26 (kx k)).run Tryz.prog w=.ok () w:=by unfold kx;unfold Instr.checkKey;simp[go_sem,run_check1]
theorem run_check(k:Int×Int)(em:Bool)(w:World):(Instr.checkKey em 10000 26 (kx k)).run Tryz.prog w=.ok () w:=run_check2 9998 k em w
theorem sameBits_kx(n:Nat)(k:Int×Int):Instr.sameBits (n+1) (kx k) (kx k)=true:=by simp[kx,Instr.sameBits]
theorem set_kb{w:World}{b:Nat}{o o':Obj}(h:w.heap[b]?=some o):Kept (fun i=>i=b) w {w with heap:=w.heap.setIfInBounds b o'}:=⟨rfl,rfl,rfl,by simp,fun k _ hk=>(MapKept.heap_set h).2 k hk⟩
theorem set_same{β:Type}{l:List β}{j:Nat}{a:β}(h:l[j]?=some a):l.set j a=l:=by
 refine List.ext_getElem? (fun i=>?_);rw[List.getElem?_set];split
 ·rename_i e;subst e;rw[if_pos (List.getElem?_eq_some_iff.1 h).1,h]
 ·rfl
section
variable {α:Type}(key:α->Int×Int)(val:α->Value)
def Ek(es:List MapEntry)(m:List α):Prop:=es.map (fun e=>(e.key,e.val))=m.map (fun x=>(kx (key x),val x))
def isK(k:Int×Int)(x:α):Bool:=decide (key x=k)
def idx(k:Int×Int):List α->Nat->Option (Nat×α)
 |[],_=>none
 |x::m,i=>if k=key x then some (i,x)else idx k m (i+1)
variable {key val}
theorem Ek.len{es:List MapEntry}{m:List α}(h:Ek key val es m):es.length=m.length:=by have:=congrArg List.length h;simpa using this
theorem idx_none{k:Int×Int}:∀{m:List α} {i:Nat},m.find? (isK key k)=none->idx key k m i=none
 |[],_,_=>rfl
 |x::m,i,h=>by
  simp only[List.find?_cons]at h;split at h
  ·cases h
  ·rename_i e;unfold idx;rw[if_neg (fun e2=>by simp[isK,e2]at e)];exact idx_none h
theorem idx_some{k:Int×Int}{x:α}:∀{m:List α} {i:Nat},m.find? (isK key k)=some x->∃j,idx key k m i=some (i+j,x)/\m[j]?=some x/\key x=k
 |[],_,h=>by cases h
 |y::m,i,h=>by
  simp only[List.find?_cons]at h;split at h
  ·rename_i e;injection h with h;subst h;have e':key y=k:=by simpa[isK]using e
   exact⟨0,by unfold idx;rw[if_pos e'.symm];rfl,rfl,e'⟩
  ·rename_i e;obtain⟨j,h1,h2,h3⟩:=idx_some (i:=i+1) h;refine⟨j+1,?_,h2,h3⟩;unfold idx;rw[if_neg (fun e2=>by simp[isK,e2]at e),h1];congr 2;omega
theorem run_ask(k:Int×Int)(w:World):∀(es:List MapEntry) (m:List α) (i:Nat),Ek key val es m->(Instr.findAsking 26 (kx k) es i).run Tryz.prog w=.ok ((idx key k m i).map fun p=>(p.1,val p.2)) w
 |[],[],i,_=>rfl
 |[],x::m,_,h=>by cases h
 |e::es,[],_,h=>by cases h
 |e::es,x::m,i,h=>by
  simp only[Ek,List.map_cons,List.cons.injEq,Prod.mk.injEq]at h;obtain⟨⟨h1,h2⟩,h3⟩:=h;unfold Instr.findAsking idx;simp only[h1,h2,Sem.run_bind,run_same,Result.andThen];by_cases e1:k=key x
  ·rw[if_pos e1];simp[e1]
  ·rw[if_neg e1];simp[e1,run_ask k w es m (i+1) h3]
theorem run_findK(k:Int×Int){es:List MapEntry}{m:List α}(h:Ek key val es m)(w:World):(Instr.findKey 26 (kx k) es).run Tryz.prog w=.ok ((idx key k m 0).map fun p=>(p.1,val p.2)) w:=by rw[run_findKey_eq w (by kernel_rfl)];exact run_ask k w es m 0 h
variable (key val)
def At(b:Nat)(m:List α)(w:World):Prop:=∃es clock,w.heap[b]?=some (.map es clock)/\Ek key val es.toList m/\(es.toList.map (·.born)).Nodup/\∀e∈es.toList,e.born<clock
variable {key val}
theorem At.kept{b:Nat}{m:List α}{w w':World}{F:Nat->Prop}(h:At key val b m w)(hk:Kept F w w')(hF:¬F b):At key val b m w':=by obtain⟨es,cl,h1,h2⟩:=h;exact⟨es,cl,by rw[hk.block b (gsz h1) hF];exact h1,h2⟩
theorem At.on{b:Nat}{m:List α}{w w':World}(h:At key val b m w)(hb:Below w.heap.size w w'):At key val b m w':=h.kept (F:=fun _=>False) (Kept.of_below hb) (fun h=>h)
theorem At.lt{b:Nat}{m:List α}{w:World}(h:At key val b m w):b<w.heap.size:=by obtain⟨es,cl,h1,_⟩:=h;exact(gsz h1)
theorem At.new(w:World):At key val w.heap.size [] (w.alloc (.map #[] 0)):=⟨#[],0,heap_alloc_new w _,rfl,by simp,by simp⟩
theorem At.size{b:Nat}{m:List α}{w:World}(h:At key val b m w)(t e:TypeId)(ht:Tryz.prog.underlying t=some (.map 26 e))(ty:TypeId):(Builtin.len_ #[t] ty #[.map (some b)]).run Tryz.prog w=.ok (iw m.length) w:=by
 obtain⟨es,cl,h1,h2,_⟩:=h;have:es.size=m.length:=by rw[<-h2.len];simp
 simp[Builtin.len_,run_underlying ht,MapKept.run_getObj_map h1,Result.andThen,this,goInt]
theorem run_upd0{t e b:Nat}{m:List α}{w:World}(ht:Tryz.prog.underlying t=some (.map 26 e))(h:At key val b m w)(v:α)(hg:m.find? (isK key (key v))=none):∃w',(Instr.mapUpdate t (.map (some b)) (kx (key v)) (val v)).run Tryz.prog w=.ok () w'/\At key val b (m++[v]) w'/\Kept (fun i=>i=b) w w'/\w'.heap.size=w.heap.size:=by
 obtain⟨es,cl,h1,h2,h3,h4⟩:=h;refine⟨_,?_,⟨es.push ⟨kx (key v),val v,cl⟩,cl+1,(MapKept.heap_set h1).1,?_,?_,?_⟩,set_kb h1,by simp⟩
 ·simp[Instr.mapUpdate,run_underlying ht,MapKept.run_getObj_map h1,run_check,run_findK (key v) h2,idx_none (i:=0) hg,MapKept.run_setObj_map _ h1,Result.andThen]
 ·unfold Ek;rw[Array.toList_push,List.map_append,List.map_append,h2];rfl
 ·rw[Array.toList_push,List.map_append,List.nodup_append];refine⟨h3,by simp,fun a ha b' hb'=>?_⟩;simp at hb';subst hb';obtain⟨x,hx,rfl⟩:=List.mem_map.1 ha;have:=h4 x hx;omega
 ·intro x hx;rw[Array.toList_push]at hx;rcases List.mem_append.1 hx with hx|hx
  ·have:=h4 x hx;omega
  ·simp at hx;subst hx;exact Nat.lt_succ_self _
theorem run_upd1{t e b:Nat}{m:List α}{w:World}(ht:Tryz.prog.underlying t=some (.map 26 e))(h:At key val b m w)(v:α){x:α}(hg:m.find? (isK key (key v))=some x):∃w' j,(Instr.mapUpdate t (.map (some b)) (kx (key v)) (val v)).run Tryz.prog w=.ok () w'/\m[j]?=some x/\At key val b (m.set j v) w'/\Kept (fun i=>i=b) w w'/\w'.heap.size=w.heap.size:=by
 obtain⟨es,cl,h1,h2,h3,h4⟩:=h;obtain⟨j,g1,g2,g3⟩:=idx_some (i:=0) hg;have hl:=h2.len;have hj:j<m.length:=(List.getElem?_eq_some_iff.1 g2).1;have hje:es.toList[j]?=some (es.toList[j]'(by omega)):=List.getElem?_eq_getElem (by omega);generalize es.toList[j]'(by omega)=e0 at hje;have hk0:e0.key=kx (key v):=by
  have a1:(es.toList.map (fun e=>(e.key,e.val)))[j]?=some (e0.key,e0.val):=by rw[List.getElem?_map,hje];rfl
  rw[h2,List.getElem?_map,g2]at a1;simp only[Option.map_some,Option.some.injEq,Prod.mk.injEq]at a1;rw[<-a1.1,g3]
 have hja:es[j]?=some e0:=by simpa using hje
 have hmod:(es.modify j (fun e'=>{e' with key:=kx (key v),val:=val v})).toList=es.toList.set j {e0 with key:=kx (key v),val:=val v}:=by rw[Array.toList_modify,ChangeMaps.modify_eq_set _ _ _ _ hje]
 refine⟨_,j,?_,g2,⟨es.modify j (fun e'=>{e' with key:=kx (key v),val:=val v}),cl,(MapKept.heap_set h1).1,?_,?_,?_⟩,set_kb h1,by simp⟩
 ·simp[Instr.mapUpdate,run_underlying ht,MapKept.run_getObj_map h1,run_check,run_findK (key v) h2,g1,hja,hk0,Instr.keyThatStays,sameBits_kx 9999 (key v),MapKept.run_setObj_map _ h1,Result.andThen]
 ·unfold Ek;rw[hmod,List.map_set,List.map_set,h2]
 ·rw[hmod,List.map_set];have:(es.toList.map (·.born)).set j e0.born=es.toList.map (·.born):=set_same (by rw[List.getElem?_map,hje];rfl);show((es.toList.map (·.born)).set j e0.born).Nodup;rw[this];exact h3
 ·intro y hy;rw[hmod]at hy;rcases List.mem_or_eq_of_mem_set hy with hy|rfl
  ·exact h4 y hy
  ·exact h4 e0 (List.mem_of_getElem? hje)
variable (key val)
def Rg(b r:Nat)(m left:List α)(w:World):Prop:=∃es clock since seen c0,w.heap[b]?=some (.map es clock)/\Ek key val es.toList m/\(es.toList.map (·.born)).Nodup/\(∀e∈es.toList,e.born<clock)/\w.heap[r]?=some (.mapIter (some b) since seen c0)/\(∀e∈es.toList,e.born<since)/\since<=c0/\since<=clock/\Ek key val (es.toList.filter fun e=> !seen.contains e.born) left
variable {key val}
theorem Rg.at{b r:Nat}{m left:List α}{w:World}(h:Rg key val b r m left w):At key val b m w:=by obtain⟨es,cl,since,seen,c0,h1,h2,h3,h4,_⟩:=h;exact⟨es,cl,h1,h2,h3,h4⟩
theorem Rg.lt{b r:Nat}{m left:List α}{w:World}(h:Rg key val b r m left w):r<w.heap.size:=by obtain⟨es,cl,since,seen,c0,h1,h2,h3,h4,h5,_⟩:=h;exact(gsz h5)
theorem Rg.ne{b r:Nat}{m left:List α}{w:World}(h:Rg key val b r m left w):r≠b:=by obtain⟨es,cl,since,seen,c0,h1,h2,h3,h4,h5,_⟩:=h;intro e;rw[e,h1]at h5;cases h5
theorem Rg.walk{b r:Nat}{m left:List α}{w:World}(h:Rg key val b r m left w):∃o:Obj,w.heap[r]?=some o/\o.isWalk=true:=by obtain⟨es,cl,since,seen,c0,h1,h2,h3,h4,h5,_⟩:=h;exact⟨_,h5,rfl⟩
theorem Rg.kept{b r:Nat}{m left:List α}{w w':World}{F:Nat->Prop}(h:Rg key val b r m left w)(hk:Kept F w w')(hb:¬F b)(hr:¬F r):Rg key val b r m left w':=by have l1:=h.at.lt;have l2:=h.lt;obtain⟨es,cl,since,seen,c0,h1,h2,h3,h4,h5,h6⟩:=h;exact⟨es,cl,since,seen,c0,by rw[hk.block b l1 hb];exact h1,h2,h3,h4,by rw[hk.block r l2 hr];exact h5,h6⟩
theorem Rg.on{b r:Nat}{m left:List α}{w w':World}(h:Rg key val b r m left w)(hb:Below w.heap.size w w'):Rg key val b r m left w':=h.kept (F:=fun _=>False) (Kept.of_below hb) (fun h=>h) (fun h=>h)
theorem Rg.walks{b r:Nat}{m left:List α}{w w':World}(h:Rg key val b r m left w)(hk:KeepsWalks w w'):Rg key val b r m left w':=by obtain⟨es,cl,since,seen,c0,h1,h2,h3,h4,h5,h6⟩:=h;exact⟨es,cl,since,seen,c0,hk.same b _ h1 rfl,h2,h3,h4,hk.same r _ h5 rfl,h6⟩
theorem Rg.left_eq{b r:Nat}{m left:List α}{w:World}(h:Rg key val b r m left w):w.rangeLeft b r=left.length:=by obtain⟨es,cl,since,seen,c0,h1,h2,h3,h4,h5,h6,h7,h8,h9⟩:=h;simp only[World.rangeLeft,h1,h5];rw[<-h9.len];unfold leftOf;rw[<-Array.toList_filter,Array.length_toList]
theorem run_range{t e b:Nat}{m:List α}{w:World}(ht:Tryz.prog.underlying t=some (.map 26 e))(h:At key val b m w):∃w',(Instr.range t (.map (some b))).run Tryz.prog w=.ok (pz w.heap.size) w'/\Rg key val b w.heap.size m m w'/\w.grownBy w' none/\w'.heap.size=w.heap.size+1:=by have hlt:=h.lt;obtain⟨es,cl,h1,h2,h3,h4⟩:=h;refine⟨_,run_range_map w t 26 e b es cl ht h1,⟨es,cl,cl,#[],cl,((MapKept.heap_alloc w _).2 b hlt).trans h1,h2,h3,h4,(MapKept.heap_alloc w _).1,h4,Nat.le_refl _,Nat.le_refl _,?_⟩,World.grownBy_alloc w _ none,by simp⟩;rw[List.filter_eq_self.2 (fun a _=>by simp)];exact h2
theorem ek_split{l1 l2:List MapEntry}{e:MapEntry}{L:List α}(h:Ek key val (l1++e::l2) L):∃L1 x L2,L=L1++x::L2/\e.key=kx (key x)/\e.val=val x/\Ek key val (l1++l2) (L1++L2):=by unfold Ek at h;rw[List.map_append,List.map_cons]at h;obtain⟨L1,R,rfl,h1,h2⟩:=List.map_eq_append_iff.1 h.symm;obtain⟨x,L2,rfl,h3,h4⟩:=List.map_eq_cons_iff.1 h2;simp only[Prod.mk.injEq]at h3;exact⟨L1,x,L2,rfl,h3.1.symm,h3.2.symm,by unfold Ek;rw[List.map_append,List.map_append,h1,h4]⟩
theorem filter_push{es:List MapEntry}{seen:Array Nat}{e:MapEntry}(hn:(es.map (·.born)).Nodup)(he:e∈es.filter fun x=> !seen.contains x.born):∃l1 l2,(es.filter fun x=> !seen.contains x.born)=l1++e::l2/\(es.filter fun x=> !(seen.push e.born).contains x.born)=l1++l2:=by
 obtain⟨l1,l2,hs⟩:=List.append_of_mem he;refine⟨l1,l2,hs,?_⟩;have e1:(es.filter fun x=> !(seen.push e.born).contains x.born)=(es.filter fun x=> !seen.contains x.born).filter fun x=> !(x.born==e.born):=by rw[List.filter_filter];refine List.filter_congr (fun x _=>?_);rw[contains_push];cases seen.contains x.born<;>cases(x.born==e.born)<;>rfl
 have hn2:((l1++e::l2).map (·.born)).Nodup:=by rw[<-hs];exact hn.sublist (List.filter_sublist.map _)
 rw[e1,hs,List.filter_append,List.filter_cons];simp only[beq_self_eq_true,Bool.not_true,Bool.false_eq_true,if_false];rw[List.map_append,List.map_cons,List.nodup_append]at hn2;obtain⟨_,h2,h3⟩:=hn2;rw[List.nodup_cons]at h2;congr 1
 ·refine List.filter_eq_self.2 (fun x hx=>?_);have:x.born≠e.born:=h3 _ (List.mem_map.2 ⟨x,hx,rfl⟩) _ (List.mem_cons_self ..);simpa using this
 ·refine List.filter_eq_self.2 (fun x hx=>?_);have:x.born≠e.born:=fun h=>h2.1 (List.mem_map.2 ⟨x,hx,h⟩);simpa using this
theorem Rg.next{b r:Nat}{m left:List α}{w:World}(h:Rg key val b r m left w)(ty:TypeId):
  (left=[]/\(Instr.next (pz r) false ty).run Tryz.prog w=.ok (.tuple #[.bool false]) w)\/
  ∃L1 x L2 w',left=L1++x::L2/\(Instr.next (pz r) false ty).run Tryz.prog w=.ok (.tuple #[.bool true,kx (key x),val x]) w'/\Rg key val b r m (L1++L2) w'/\w.grownBy w' (some r)/\w'.heap.size=w.heap.size/\(Instr.entry (pz r)).run Tryz.prog w'=.ok (.tuple #[kx (key x),val x]) w':=by
 have hne:=h.ne;obtain⟨es,clock,since,seen,c0,hb,h2,h3,h4,hr,hold,hsc,hsk,hl⟩:=h;have hfl:(leftOf es seen).toList=es.toList.filter fun e=> !seen.contains e.born:=by unfold leftOf;rw[Array.toList_filter]
 rcases run_next_at (P:=Tryz.prog) w ty r b since c0 seen es clock hr hb hold hsc with⟨h0,hrun⟩|⟨e,he,w1,hal,hrun⟩
 ·refine .inl ⟨?_,hrun⟩;have:(leftOf es seen).toList.length=0:=by rw[Array.length_toList];exact h0
  rw[hfl,hl.len]at this;exact List.eq_nil_of_length_eq_zero this
 ·rw[hfl]at he;have hem:e∈es.toList:=(List.mem_filter.1 he).1;obtain⟨l1,l2,s1,s2⟩:=filter_push h3 he;rw[s1]at hl;obtain⟨L1,x,L2,rfl,k1,k2,k3⟩:=ek_split hl;have hr1:w1.heap[r]?=some (.mapIter (some b) since seen c0):=by rcases hal with rfl|rfl<;>exact hr
  have hb1:w1.heap[b]?=some (.map es clock):=by rcases hal with rfl|rfl<;>exact hb
  have hset:=MapKept.heap_set (o':=.mapIter (some b) since (seen.push e.born) clock) hr1;have hb':(ChangeMaps.setBlock w1 r (.mapIter (some b) since (seen.push e.born) clock)).heap[b]?=some (.map es clock):=(hset.2 b (fun e1=>hne e1.symm)).trans hb1;refine .inr ⟨L1,x,L2,_,rfl,by rw[hrun,k1,k2],⟨es,clock,since,seen.push e.born,clock,hb',h2,h3,h4,hset.1,hold,hsk,hsk,by rw[s2];exact k3⟩,?_,?_,?_⟩
  ·rcases hal with rfl|rfl<;>exact⟨rfl,rfl,rfl,by simp[ChangeMaps.setBlock],fun i _ hi=>hset.2 i (fun e1=>hi (by rw[e1]))⟩
  ·rcases hal with rfl|rfl<;>simp[ChangeMaps.setBlock]
  ·rw[run_entry_at _ r b since seen es clock e hset.1 hb' hem h3,k1,k2]
theorem Rg.del{t e b r:Nat}{m left:List α}{w:World}(ht:Tryz.prog.underlying t=some (.map 26 e))(h:Rg key val b r m left w)(k:Int×Int){x:α}(hg:m.find? (isK key k)=some x)(hx:∀y∈left,key y≠k):∃w' m1 m2,(∀ty:TypeId,(Builtin.delete_ #[t,32] ty #[.map (some b),kx k]).run Tryz.prog w=.ok (.tuple #[]) w')/\m=m1++x::m2/\Rg key val b r (m1++m2) left w'/\Kept (fun i=>i=b) w w'/\w'.heap.size=w.heap.size:=by
 have hne:=h.ne;obtain⟨es,clock,since,seen,c0,hb,h2,h3,h4,hr,hold,hsc,hsk,hl⟩:=h;obtain⟨j,g1,g2,g3⟩:=idx_some (i:=0) hg;have hlen:=h2.len;have hj:j<m.length:=(List.getElem?_eq_some_iff.1 g2).1;have hjs:j<es.size:=by simpa using(by omega:j<es.toList.length)
 have hje:es.toList[j]?=some (es.toList[j]'(by omega)):=List.getElem?_eq_getElem (by omega);generalize es.toList[j]'(by omega)=e0 at hje;have a1:(e0.key,e0.val)=(kx (key x),val x):=by
  have a1:(es.toList.map (fun e=>(e.key,e.val)))[j]?=some (e0.key,e0.val):=by rw[List.getElem?_map,hje];rfl
  rw[h2,List.getElem?_map,g2]at a1;simpa using a1.symm
 have e1:(es.eraseIdxIfInBounds j).toList=es.toList.eraseIdx j:=by simp[Array.eraseIdxIfInBounds,hjs]
 have hmj:m=m.take j++x::m.drop (j+1):=by
  have:m[j]'hj=x:=by have:=(List.getElem?_eq_some_iff.1 g2).2;exact this
  rw[<-this,List.getElem_cons_drop,List.take_append_drop]
 have hjl:j<es.toList.length:=by omega
 have hesj:es.toList=es.toList.take j++e0::es.toList.drop (j+1):=by have:es.toList[j]'hjl=e0:=(List.getElem?_eq_some_iff.1 hje).2;rw[<-this,List.getElem_cons_drop,List.take_append_drop]
 have hsub:(es.toList.eraseIdx j).Sublist es.toList:=List.eraseIdx_sublist _ _;have hseen:seen.contains e0.born=true:=by
  cases hc:seen.contains e0.born with
  |true=>rfl
  |false=>
   have hm:e0∈es.toList.filter fun e=> !seen.contains e.born:=List.mem_filter.2 ⟨List.mem_of_getElem? hje,by rw[hc];rfl⟩;have hm2:(e0.key,e0.val)∈(es.toList.filter fun e=> !seen.contains e.born).map (fun e=>(e.key,e.val)):=List.mem_map.2 ⟨e0,hm,rfl⟩;rw[hl]at hm2;obtain⟨y,hy,e2⟩:=List.mem_map.1 hm2;have e3:kx (key y)=kx (key x):=by rw[a1]at e2;exact(Prod.mk.inj e2).1
   have e4:key y=key x:=by simp only[kx,Value.agg.injEq,Array.mk.injEq,List.cons.injEq,Value.int.injEq,true_and,and_true]at e3;exact Prod.ext e3.1 e3.2
   exact absurd (e4.trans g3) (hx y hy)
 refine⟨_,m.take j,m.drop (j+1),fun ty=>?_,hmj,⟨es.eraseIdxIfInBounds j,clock,since,seen,c0,(MapKept.heap_set hb).1,?_,?_,?_,((MapKept.heap_set hb).2 r hne).trans hr,?_,hsc,hsk,?_⟩,set_kb hb,by simp⟩
 ·simp[Builtin.delete_,run_underlying ht,MapKept.run_getObj_map hb,run_check,run_findK k h2,g1,MapKept.run_setObj_map _ hb,Result.andThen]
 ·unfold Ek;rw[e1,ChangeMaps.map_eraseIdx,h2,<-ChangeMaps.map_eraseIdx,List.eraseIdx_eq_take_drop_succ]
 ·rw[e1];exact h3.sublist (hsub.map _)
 ·intro y hy;rw[e1]at hy;exact h4 y (hsub.subset hy)
 ·intro y hy;rw[e1]at hy;exact hold y (hsub.subset hy)
 ·rw[e1,List.eraseIdx_eq_take_drop_succ];have:(es.toList.filter fun e=> !seen.contains e.born)=((es.toList.take j++es.toList.drop (j+1)).filter fun e=> !seen.contains e.born):=by
   conv=>lhs;rw[hesj]
   rw[List.filter_append,List.filter_append,List.filter_cons,if_neg (by rw[hseen];decide)]
  rw[<-this];exact hl
end
end Gv
end Go.Proofs.YtdplfgcoaddbdaaGreat.Ver
namespace Go.Proofs.YtdplfgcoaddbdaaGreat.Ver
open Go.RowKit
def kd(x:Vd):Int×Int:=(x.c,x.n)
def Kd(m:Bk):Prop:=m.Pairwise fun x y=>kd x≠kd y
structure Rl(m K:Bk):Prop where
 srt:SrtV K
 perm:K.Perm m
theorem srt_kd{K:Bk}(h:SrtV K):Kd K:=h.imp fun{a b} hab e=>by have e1:a.c=b.c:=congrArg Prod.fst e;have e2:a.n=b.n:=congrArg Prod.snd e;rw[e1,e2,ltT_irrefl]at hab;cases hab
theorem Rl.apart{m K:Bk}(h:Rl m K):Kd m:=(h.perm.pairwise_iff (fun{_ _} hne=>Ne.symm hne)).1 (srt_kd h.srt)
theorem Rl.len{m K:Bk}(h:Rl m K):m.length=K.length:=h.perm.length_eq.symm
theorem Rl.nil:Rl [] []:=⟨srtV_nil,List.Perm.refl _⟩
theorem kd_find{k:Int×Int}{o:Vd}:∀{m:Bk},Kd m->(m.find? (Gv.isK kd k)=some o↔o∈m/\kd o=k)
 |[],_=>by simp
 |x::m,h=>by
  obtain⟨h1,h2⟩:=List.pairwise_cons.1 h;rw[List.find?_cons];split
  ·rename_i e;have e':kd x=k:=by simpa[Gv.isK]using e
   constructor
   ·intro ho;injection ho with ho;subst ho;exact⟨List.mem_cons_self ..,e'⟩
   ·rintro⟨ho,hk⟩;rcases List.mem_cons.1 ho with rfl|ho
    ·rfl
    ·exact absurd (e'.trans hk.symm) (h1 o ho)
  ·rename_i e;rw[kd_find h2];constructor
   ·rintro⟨a,b⟩;exact⟨List.mem_cons_of_mem _ a,b⟩
   ·rintro⟨a,b⟩;rcases List.mem_cons.1 a with rfl|a
    ·simp[Gv.isK,b]at e
    ·exact⟨a,b⟩
theorem getB_find(c n:Int):∀m:Bk,getB c n m=m.find? (Gv.isK kd (c,n))
 |[]=>rfl
 |x::m=>by
  unfold getB;rw[List.find?_cons,getB_find c n m];have:Gv.isK kd (c,n) x=ofN c n x:=by simp only[Gv.isK,kd,ofN,Prod.mk.injEq];by_cases h1:x.c=c<;>by_cases h2:x.n=n<;>simp[h1,h2]
  rw[this];cases ofN c n x<;>rfl
theorem Rl.get{m K:Bk}(h:Rl m K)(c n:Int):m.find? (Gv.isK kd (c,n))=getB c n K:=by
 rw[getB_find];cases hm:m.find? (Gv.isK kd (c,n))with
 |some o=>
  obtain⟨h1,h2⟩:=(kd_find h.apart).1 hm;exact((kd_find (srt_kd h.srt)).2 ⟨h.perm.mem_iff.2 h1,h2⟩).symm
 |none=>
  cases hK:K.find? (Gv.isK kd (c,n))with
  |none=>rfl
  |some o=>
   obtain⟨h1,h2⟩:=(kd_find (srt_kd h.srt)).1 hK;have:=(kd_find h.apart).2 ⟨h.perm.mem_iff.1 h1,h2⟩;rw[hm]at this;cases this
theorem ins_perm(v:Vd):∀B:Bk,(insB v B).Perm (v::B)
 |[]=>List.Perm.refl _
 |x::B=>by
  unfold insB;split
  ·exact((ins_perm v B).cons x).trans (List.Perm.swap v x B)
  ·exact List.Perm.refl _
theorem Rl.ins{m K:Bk}{v:Vd}(h:Rl m K)(hg:getB v.c v.n K=none):Rl (m++[v]) (insB v K):=⟨ins_srt h.srt hg,(ins_perm v K).trans ((h.perm.cons v).trans (List.perm_append_singleton v m).symm)⟩
theorem set_done{m:Bk}{j:Nat}{o:Vd}{c n:Int}(hk:Kd m)(hj:m[j]?=some o)(ho:kd o=(c,n)):m.set j {o with dn:=true}=mkDone c n m:=by
 have hjl:=(List.getElem?_eq_some_iff.1 hj).1;have hjo:=(List.getElem?_eq_some_iff.1 hj).2;refine List.ext_getElem? (fun i=>?_);unfold mkDone;rw[List.getElem?_set,List.getElem?_map];by_cases hij:j=i
 ·subst hij;rw[if_pos rfl,if_pos hjl,hj];have:ofN c n o=true:=ofN_iff.2 ⟨congrArg Prod.fst ho,congrArg Prod.snd ho⟩;simp[this]
 ·rw[if_neg hij];cases hi:m[i]?with
  |none=>rfl
  |some x=>
   have hil:=(List.getElem?_eq_some_iff.1 hi).1;have hix:=(List.getElem?_eq_some_iff.1 hi).2;have hne:kd x≠kd o:=by
    rw[<-hix,<-hjo];rcases Nat.lt_or_gt_of_ne hij with hl|hl
    ·exact fun e=>List.pairwise_iff_getElem.1 hk j i hjl hil hl e.symm
    ·exact List.pairwise_iff_getElem.1 hk i j hil hjl hl
   have:ofN c n x=false:=by rw[<-Bool.not_eq_true];intro e;obtain⟨e1,e2⟩:=ofN_iff.1 e;exact hne (by rw[ho];exact Prod.ext e1 e2)
   simp[this]
theorem Rl.done{m K:Bk}{j:Nat}{o:Vd}{c n:Int}(h:Rl m K)(hj:m[j]?=some o)(ho:kd o=(c,n)):Rl (m.set j {o with dn:=true}) (mkDone c n K):=by rw[set_done h.apart hj ho];exact⟨done_srt h.srt c n,h.perm.map _⟩
theorem Rl.filt{m m' K:Bk}(h:Rl m K)(p:Vd->Bool)(hm:m'.Perm (m.filter p)):Rl m' (K.filter p):=⟨filt_srt h.srt p,(h.perm.filter p).trans hm.symm⟩
theorem Rl.sorted{m K L:Bk}(h:Rl m K)(hp:L.Perm m)(hs:L.Pairwise fun x y=>ltT y.c y.n x.c x.n=false):L=K:=by
 have hL:Kd L:=(hp.pairwise_iff (fun{_ _} hne=>Ne.symm hne)).2 h.apart;have hS:SrtV L:=(List.pairwise_and_iff.2 ⟨hs,hL⟩).imp (fun{a b} ⟨h1,h2⟩=>by
  cases h3:ltT a.c a.n b.c b.n with
  |true=>rfl
  |false=>
   obtain⟨e1,e2⟩:=ltT_tri h3 h1;exact absurd (Prod.ext e1 e2) h2)
 exact srt_ext hS h.srt (fun x=>by rw[hp.mem_iff,h.perm.mem_iff])
theorem comm23(x:Vd)(w:World):Calls Tryz.prog 153 #[.agg #[ui x.c,ui x.n,uw x.sp,ui x.sl,uw x.ap,ui x.al,ub x.pt,.bool x.dn]] w fun e w'=>e=.returned (.bool (cmB x))/\Below w.heap.size w w':=by have hq:=run_neq35 x.ap x.al 0 0;have HB:Hid (∀o,Below w.heap.size w (w.alloc o)):=fun o=>al o;have HC:Hid (cmB x= !(x.ap==0&&x.al==0)):=rfl;generalize (x.ap==0&&x.al==0)=z at*;go_enter Tryz.func153,Tryz.ntmps153;go_wp2_with fail;go_ret;exact⟨by rw[HC.out];rfl,HB.out _⟩
def ovB(x:Vd):Bool:=x.dn|| !cmB x
theorem over27(x:Vd)(w:World):Calls Tryz.prog 152 #[.agg #[ui x.c,ui x.n,uw x.sp,ui x.sl,uw x.ap,ui x.al,ub x.pt,.bool x.dn]] w fun e w'=>e=.returned (.bool (ovB x))/\Below w.heap.size w w':=by
 obtain⟨c,n,sp,sq,ap,aq,pt,dn⟩:=x;have HB:Hid (∀o,Below w.heap.size w (w.alloc o)):=fun o=>al o;have CC:Hid (∀W,1=1->_):=fun W _=>comm23 ⟨c,n,sp,sq,ap,aq,pt,dn⟩ W;have HC:Hid (ovB ⟨c,n,sp,sq,ap,aq,pt,dn⟩=(dn|| !cmB ⟨c,n,sp,sq,ap,aq,pt,dn⟩)):=rfl;generalize cmB ⟨c,n,sp,sq,ap,aq,pt,dn⟩=z at*;cases dn
 ·go_enter Tryz.func152,Tryz.ntmps152;go_wp2_with fail;refine(CC.out _ (by simp)).mono ?_;rintro e w1 ⟨rfl,hb1⟩;have HB1:Hid (Below w.heap.size w w1):=(HB.out _).trans (hb1.mono (HB.out _).size);clear hb1;cases z
  ·go_wp2_with fail;go_ret;exact⟨by rw[HC.out];rfl,HB1.out⟩
  ·go_wp2_with fail;go_ret;exact⟨by rw[HC.out];rfl,HB1.out⟩
 ·go_enter Tryz.func152,Tryz.ntmps152;go_wp2_with fail;go_ret;exact⟨by rw[HC.out];rfl,HB.out _⟩
theorem right19(x:Vd)(w:World):Calls Tryz.prog 143 #[.agg #[ui x.c,ui x.n,uw x.sp,ui x.sl,uw x.ap,ui x.al,ub x.pt,.bool x.dn]] w fun e w'=>e=.returned (.bool (okV x))/\Below w.heap.size w w':=by
 obtain⟨c,n,sp,sq,ap,aq,pt,dn⟩:=x;have CC:Hid (∀W,1=1->_):=fun W _=>comm23 ⟨c,n,sp,sq,ap,aq,pt,dn⟩ W;have C1:Hid (∀W,1=1->_):=fun W _=>rightP sp sq W;have C2:Hid (∀W,1=1->_):=fun W _=>rightP ap aq W;have HO:Hid (okV ⟨c,n,sp,sq,ap,aq,pt,dn⟩=(rightB sp sq&&rightB ap aq&&(cmB ⟨c,n,sp,sq,ap,aq,pt,dn⟩||(pt==0&& !dn)))):=rfl;generalize okV ⟨c,n,sp,sq,ap,aq,pt,dn⟩=y at*;generalize cmB ⟨c,n,sp,sq,ap,aq,pt,dn⟩=z at*;generalize rightB sp sq=r1 at*;generalize rightB ap aq=r2 at*;obtain⟨W0,hW0⟩:=xj (w.alloc (.cells #[ui c,ui n,uw sp,ui sq,uw ap,ui aq,ub pt,.bool dn] 116));have HB0:Hid (Below w.heap.size w W0):=by rw[<-hW0];exact al _
 have hx0:W0.heap[w.heap.size]?=some (.cells #[ui c,ui n,uw sp,ui sq,uw ap,ui aq,ub pt,.bool dn] 116 (0,0)):=by rw[<-hW0];exact heap_alloc_new w _
 have HV:Hid (∀W,Below W0.heap.size W0 W->VdAt W w.heap.size 0 ⟨c,n,sp,sq,ap,aq,pt,dn⟩):=fun W hb=>by
  have hx:W.heap[w.heap.size]?=some (.cells #[ui c,ui n,uw sp,ui sq,uw ap,ui aq,ub pt,.bool dn] 116 (0,0)):=by rw[hb.block _ (gsz hx0)];exact hx0
  exact⟨block_cell hx rfl,block_cell hx rfl,block_cell hx rfl,block_cell hx rfl,block_cell hx rfl,block_cell hx rfl,block_cell hx rfl,block_cell hx rfl⟩
 clear hx0;obtain⟨c0,c1,c2,c3,c4,c5,c6,c7⟩:=HV.out W0 (Below.refl _ _);go_enter Tryz.func143,Tryz.ntmps143;go_wp2_with fail;refine(C1.out W0 (by simp)).mono ?_;rintro e w1 ⟨rfl,hb1⟩;clear c0 c1 c2 c3 c4 c5 c6 c7;obtain⟨c0,c1,c2,c3,c4,c5,c6,c7⟩:=HV.out w1 hb1;have HB1:Hid (Below W0.heap.size W0 w1):=hb1;have HX:Hid (∀W,Below W0.heap.size W0 W->Below w.heap.size w W):=fun W hb=>HB0.out.trans (hb.mono HB0.out.size);clear hb1 hW0;cases r1
 ·go_wp2_with fail;go_ret;exact⟨by rw[HO.out];rfl,HX.out _ HB1.out⟩
 ·go_wp2_with fail;refine(C2.out w1 (by simp)).mono ?_;rintro e w2 ⟨rfl,hb2⟩;have HB2:Hid (Below W0.heap.size W0 w2):=HB1.out.trans (hb2.mono HB1.out.size);clear c0 c1 c2 c3 c4 c5 c6 c7 hb2;obtain⟨c0,c1,c2,c3,c4,c5,c6,c7⟩:=HV.out w2 HB2.out;cases r2
  ·go_wp2_with fail;go_ret;exact⟨by rw[HO.out];rfl,HX.out _ HB2.out⟩
  ·go_wp2_with fail;refine(CC.out w2 (by simp)).mono ?_;rintro e w3 ⟨rfl,hb3⟩;have HB3:Hid (Below W0.heap.size W0 w3):=HB2.out.trans (hb3.mono HB2.out.size);clear c0 c1 c2 c3 c4 c5 c6 c7 hb3;obtain⟨c0,c1,c2,c3,c4,c5,c6,c7⟩:=HV.out w3 HB3.out;cases z
   ·by_cases hp:pt=0
    ·subst hp;cases dn
     ·go_wp2_with fail;go_ret;exact⟨by rw[HO.out];rfl,HX.out _ HB3.out⟩
     ·go_wp2_with fail;go_ret;exact⟨by rw[HO.out];rfl,HX.out _ HB3.out⟩
    ·have hp':(pt==0)=false:=by simpa using hp
     go_wp2_with fail;go_ret;exact⟨by rw[HO.out,hp'];rfl,HX.out _ HB3.out⟩
   ·go_wp2_with fail;go_ret;exact⟨by rw[HO.out];rfl,HX.out _ HB3.out⟩
structure Bo(B p hb:Nat)(m K:Bk)(w:World):Prop where
 box:w.heap[p]?=some (.cells #[.map (some hb)] 137 (0,0))
 map:Gv.At kd vdV hb m w
 rel:Rl m K
 lo:B<=p
 lh:B<=hb
theorem Bo.kept{B p hb:Nat}{m K:Bk}{w w':World}{F:Nat->Prop}(h:Bo B p hb m K w)(hk:Kept F w w')(h1:¬F p)(h2:¬F hb):Bo B p hb m K w':=
 ⟨by rw[hk.block p (gsz h.box) h1];exact h.box,h.map.kept hk h2,h.rel,h.lo,h.lh⟩
theorem Bo.on{B p hb:Nat}{m K:Bk}{w w':World}(h:Bo B p hb m K w)(hb':Below w.heap.size w w'):Bo B p hb m K w':=h.kept (F:=fun _=>False) (Kept.of_below hb') (fun h=>h) (fun h=>h)
theorem Bo.cell{B p hb:Nat}{m K:Bk}{w:World}(h:Bo B p hb m K w):ce w p 0 (.map (some hb)):=block_cell h.box rfl
theorem Bo.ne{B p hb:Nat}{m K:Bk}{w:World}(h:Bo B p hb m K w):p≠hb:=by obtain⟨es,cl,h1,_⟩:=h.map;intro e;have:=h.box;rw[e,h1]at this;cases this
def BoAt(B p:Nat)(M:Nat->Prop)(K:Bk)(w:World):Prop:=∃hb m,Bo B p hb m K w/\∀k,M k↔k=p\/k=hb
theorem BoAt.lt{B p:Nat}{M:Nat->Prop}{K:Bk}{w:World}(h:BoAt B p M K w)(k:Nat)(hk:M k):B<=k/\k<w.heap.size:=by
 obtain⟨hb,m,h,hM⟩:=h;rcases(hM k).1 hk with rfl|rfl
 ·exact⟨h.lo,(gsz h.box)⟩
 ·exact⟨h.lh,h.map.lt⟩
theorem BoAt.keep{B p:Nat}{M G:Nat->Prop}{K:Bk}{w w':World}(h:BoAt B p M K w)(hk:Kept G w w')(hM:∀k,M k->¬G k):BoAt B p M K w':=by obtain⟨hb,m,h,hM'⟩:=h;exact⟨hb,m,h.kept hk (hM p ((hM' p).2 (.inl rfl))) (hM hb ((hM' hb).2 (.inr rfl))),hM'⟩
def vz(o:Option Vd):Vd:=o.getD dv
theorem ofV_eq(o:Option Vd):ofV o=.tuple #[vdV (vz o),.bool o.isSome]:=by cases o<;>rfl
theorem run_lookv{b:Nat}{m:Bk}{w:World}(h:Gv.At kd vdV b m w)(c n:Int):(Instr.lookup 135 (.map (some b)) (.agg #[ui c,ui n]) true).run Tryz.prog w=.ok (.tuple #[vdV (vz (m.find? (Gv.isK kd (c,n)))),.bool (m.find? (Gv.isK kd (c,n))).isSome]) w:=by
 show(Instr.lookup 135 (.map (some b)) (Gv.kx (c,n)) true).run Tryz.prog w=_;obtain⟨es,cl,h1,h2,_⟩:=h;cases hg:m.find? (Gv.isK kd (c,n))with
 |none=>
  simp[Instr.lookup,run_underlying Tryz.underlying135,MapKept.run_getObj_map h1,Gv.run_check,Gv.run_findK (c,n) h2,Gv.idx_none (i:=0) hg,Result.andThen];rfl
 |some t=>
  obtain⟨j,g1,_⟩:=Gv.idx_some (i:=0) hg;simp[Instr.lookup,run_underlying Tryz.underlying135,MapKept.run_getObj_map h1,Gv.run_check,Gv.run_findK (c,n) h2,g1,Result.andThen];rfl
theorem new8(w:World):Calls Tryz.prog 30 #[] w fun e w'=>∃p M,e=.returned (pz p)/\BoAt w.heap.size p M [] w'/\Below w.heap.size w w':=by
 have hmm:=@run_makeMap Tryz.prog;go_enter Tryz.func30,Tryz.ntmps30;go_wp2_with fail;go_ret;refine⟨_,fun k=>k=w.heap.size+1\/k=w.heap.size,rfl,⟨w.heap.size,[],⟨?_,?_,Rl.nil,Nat.le_succ _,Nat.le_refl _⟩,fun k=>Iff.rfl⟩,(al _).alloc (by simp) _⟩
 ·have:=heap_alloc_new (w.alloc (.map #[] 0)) (.cells #[.map (some w.heap.size)] 137)
  rwa [size_al]at this
 ·exact(Gv.At.new w).on (al _)
theorem eight_kept(W:World)(b:Nat)(x:Vd):Kept (fun i=>i=b) W ((((((((W.setCell ⟨b,0,none⟩ (ui x.c)).setCell ⟨b,1,none⟩ (ui x.n)).setCell ⟨b,2,none⟩ (uw x.sp)).setCell ⟨b,3,none⟩ (ui x.sl)).setCell ⟨b,4,none⟩ (uw x.ap)).setCell ⟨b,5,none⟩ (ui x.al)).setCell ⟨b,6,none⟩ (ub x.pt)).setCell ⟨b,7,none⟩ (.bool x.dn)):=by have t:∀{w1 w2 w3:World},Kept (fun i=>i=b) w1 w2->Kept (fun i=>i=b) w2 w3->Kept (fun i=>i=b) w1 w3:=fun h k=>h.trans k (fun i e=>.inl e);exact t (t (t (t (t (t (t (set_kept' _ _ _ _) (set_kept' _ _ _ _)) (set_kept' _ _ _ _)) (set_kept' _ _ _ _)) (set_kept' _ _ _ _)) (set_kept' _ _ _ _)) (set_kept' _ _ _ _)) (set_kept' _ _ _ _)
theorem of15{B p hb:Nat}{m K:Bk}{w:World}(c n:Int)(h:Bo B p hb m K w):Calls Tryz.prog 97 #[pz p,.agg #[ui c,ui n]] w fun e w'=>e=.returned (ofV (getB c n K))/\Below w.heap.size w w':=by
 obtain⟨Wa,hWa⟩:=xj (w.alloc (.cells #[ui c,ui n] 26));have hba:Below w.heap.size w Wa:=by rw[<-hWa];exact al _
 have hxa:Wa.heap[w.heap.size]?=some (.cells #[ui c,ui n] 26 (0,0)):=by rw[<-hWa];exact heap_alloc_new w _
 have hsa:Wa.heap.size=w.heap.size+1:=by rw[<-hWa];simp
 obtain⟨W0,hW0⟩:=xj (Wa.alloc (.cells #[ui 0,ui 0,uw 0,ui 0,uw 0,ui 0,ub 0,.bool false] 116));have hb0':Below Wa.heap.size Wa W0:=by rw[<-hW0];exact al _
 have hb0:Below w.heap.size w W0:=hba.trans (hb0'.mono hba.size);have hx0:W0.heap[w.heap.size]?=some (.cells #[ui c,ui n] 26 (0,0)):=by rw[hb0'.block _ (gsz hxa)];exact hxa
 have hr0:W0.heap[w.heap.size+1]?=some (.cells #[ui 0,ui 0,uw 0,ui 0,uw 0,ui 0,ub 0,.bool false] 116 (0,0)):=by rw[<-hsa,<-hW0];exact heap_alloc_new Wa _
 have hs0:W0.heap.size=w.heap.size+2:=by rw[<-hW0,size_al,hsa]
 obtain⟨W1,hW1⟩:=xj (W0.alloc (.cells #[ui 0,ui 0,uw 0,ui 0,uw 0,ui 0,ub 0,.bool false] 116));have hb1':Below W0.heap.size W0 W1:=by rw[<-hW1];exact al _
 have hx1:W1.heap[w.heap.size]?=some (.cells #[ui c,ui n] 26 (0,0)):=by rw[hb1'.block _ (gsz hx0)];exact hx0
 have hr1:W1.heap[w.heap.size+1]?=some (.cells #[ui 0,ui 0,uw 0,ui 0,uw 0,ui 0,ub 0,.bool false] 116 (0,0)):=by rw[hb1'.block _ (gsz hr0)];exact hr0
 have hv1:W1.heap[W0.heap.size]?=some (.cells #[ui 0,ui 0,uw 0,ui 0,uw 0,ui 0,ub 0,.bool false] 116 (0,0)):=by rw[<-hW1];exact heap_alloc_new W0 _
 have h0:=h.on hb0;have h1:=h0.on hb1';have hgK:=h.rel.get c n;have q0:(Instr.lookup 135 (.map (some hb)) (.agg #[ui c,ui n]) true).run Tryz.prog W0=_:=run_lookv h0.map c n;have q1:(Instr.lookup 135 (.map (some hb)) (.agg #[ui c,ui n]) true).run Tryz.prog W0.drew=_:=run_lookv (w:=W0.drew) h0.map c n;have q2:(Instr.lookup 135 (.map (some hb)) (.agg #[ui c,ui n]) true).run Tryz.prog W1.drew=_:=run_lookv (w:=W1.drew) h1.map c n;rw[hgK]at q0 q1 q2;have c0:=h0.cell;have c1:=h1.cell;rw[ofV_eq];generalize (getB c n K).isSome=z at*;generalize vz (getB c n K)=x at*;obtain⟨bt,hbt⟩:=xj w.heap.size;obtain⟨br,hbr⟩:=xj (w.heap.size+1);obtain⟨bv,hbv⟩:=xj W0.heap.size;rw[hbt]at hx0 hx1;rw[hbr]at hr0 hr1;rw[hbv]at hv1;have HBF:Hid (Below w.heap.size w W1):=hb0.trans (hb1'.mono hb0.size);have HN:Hid (w.heap.size<=bv/\br≠bv/\w.heap.size<=br):=by refine⟨?_,?_,?_⟩<;>omega
 have HR:Hid (W1.heap[br]?=some (.cells #[ui 0,ui 0,uw 0,ui 0,uw 0,ui 0,ub 0,.bool false] 116 (0,0))/\W1.heap[bv]?=some (.cells #[ui 0,ui 0,uw 0,ui 0,uw 0,ui 0,ub 0,.bool false] 116 (0,0))):=⟨hr1,hv1⟩;obtain⟨d0,d1⟩:=bk2 hx0;obtain⟨e0,e1⟩:=bk2 hx1;have zz0:=bk8 hv1;have f0:W1.frozen? ⟨bv,0,none⟩=false:=block_frozen hv1 0;have f1:W1.frozen? ⟨bv,1,none⟩=false:=block_frozen hv1 1;have f2:W1.frozen? ⟨bv,2,none⟩=false:=block_frozen hv1 2;have f3:W1.frozen? ⟨bv,3,none⟩=false:=block_frozen hv1 3;have f4:W1.frozen? ⟨bv,4,none⟩=false:=block_frozen hv1 4;have f5:W1.frozen? ⟨bv,5,none⟩=false:=block_frozen hv1 5;have f6:W1.frozen? ⟨bv,6,none⟩=false:=block_frozen hv1 6;have f7:W1.frozen? ⟨bv,7,none⟩=false:=block_frozen hv1 7;clear h h0 h1 hb0 hb0' hb1' hba hxa hx0 hx1 hr0 hr1 hv1 hgK;simp only[vdV]at q0 q1 q2;rw[hbt]at hbr hsa hs0;have hsa':Wa.heap.size=br:=by omega
 clear hbr hsa hs0;go_enter Tryz.func97,Tryz.ntmps97;go_wp2_with fail;go_region;obtain⟨X,hX⟩:=xj ((((((((W1.setCell ⟨bv,0,none⟩ (ui x.c)).setCell ⟨bv,1,none⟩ (ui x.n)).setCell ⟨bv,2,none⟩ (uw x.sp)).setCell ⟨bv,3,none⟩ (ui x.sl)).setCell ⟨bv,4,none⟩ (uw x.ap)).setCell ⟨bv,5,none⟩ (ui x.al)).setCell ⟨bv,6,none⟩ (ub x.pt)).setCell ⟨bv,7,none⟩ (.bool x.dn));have HX:Hid (X.heap[bv]?=some (.cells #[ui x.c,ui x.n,uw x.sp,ui x.sl,uw x.ap,ui x.al,ub x.pt,.bool x.dn] 116 (0,0))/\X.heap[br]?=some (.cells #[ui 0,ui 0,uw 0,ui 0,uw 0,ui 0,ub 0,.bool false] 116 (0,0))/\Below w.heap.size w X):=by have hk:=eight_kept W1 bv x;have i1:=bx8 x HR.out.2;have i2:=bx8_below x HBF.out HN.out.1;rw[hX]at hk i1 i2;exact⟨i1,(hk.block br (gsz HR.out.1) HN.out.2.1).trans HR.out.1,i2⟩
 rw[hX];clear hX;obtain⟨W2,hW2⟩:=xj X.drew;have H2:Hid (W2.heap[bv]?=some (.cells #[ui x.c,ui x.n,uw x.sp,ui x.sl,uw x.ap,ui x.al,ub x.pt,.bool x.dn] 116 (0,0))/\W2.heap[br]?=some (.cells #[ui 0,ui 0,uw 0,ui 0,uw 0,ui 0,ub 0,.bool false] 116 (0,0))/\Below w.heap.size w W2):=by rw[<-hW2];exact⟨HX.out.1,HX.out.2.1,HX.out.2.2.drew⟩
 rw[hW2];clear HX hW2 q0 q1 q2 c0 c1 d0 d1 e0 e1 f0 f1 f2 f3 f4 f5 f6 f7 HR HBF hWa hW0 hW1 hbt hbv hsa' zz0;have zz0:=bk8 H2.out.1;have zy0:=bk8 H2.out.2.1;have f0:W2.frozen? ⟨br,0,none⟩=false:=block_frozen H2.out.2.1 0;have f1:W2.frozen? ⟨br,1,none⟩=false:=block_frozen H2.out.2.1 1;have f2:W2.frozen? ⟨br,2,none⟩=false:=block_frozen H2.out.2.1 2;have f3:W2.frozen? ⟨br,3,none⟩=false:=block_frozen H2.out.2.1 3;have f4:W2.frozen? ⟨br,4,none⟩=false:=block_frozen H2.out.2.1 4;have f5:W2.frozen? ⟨br,5,none⟩=false:=block_frozen H2.out.2.1 5;have f6:W2.frozen? ⟨br,6,none⟩=false:=block_frozen H2.out.2.1 6;have f7:W2.frozen? ⟨br,7,none⟩=false:=block_frozen H2.out.2.1 7;have HI:Hid _:=bx8 x H2.out.2.1;have HBw:Hid _:=bx8_below x H2.out.2.2 HN.out.2.2;go_wp2_with fail;have g0:((((((((W2.setCell ⟨br,0,none⟩ (ui x.c)).setCell ⟨br,1,none⟩ (ui x.n)).setCell ⟨br,2,none⟩ (uw x.sp)).setCell ⟨br,3,none⟩ (ui x.sl)).setCell ⟨br,4,none⟩ (uw x.ap)).setCell ⟨br,5,none⟩ (ui x.al)).setCell ⟨br,6,none⟩ (ub x.pt)).setCell ⟨br,7,none⟩ (.bool x.dn)).cell? ⟨br,0,none⟩=some (ui x.c):=block_cell HI.out rfl;have g1:((((((((W2.setCell ⟨br,0,none⟩ (ui x.c)).setCell ⟨br,1,none⟩ (ui x.n)).setCell ⟨br,2,none⟩ (uw x.sp)).setCell ⟨br,3,none⟩ (ui x.sl)).setCell ⟨br,4,none⟩ (uw x.ap)).setCell ⟨br,5,none⟩ (ui x.al)).setCell ⟨br,6,none⟩ (ub x.pt)).setCell ⟨br,7,none⟩ (.bool x.dn)).cell? ⟨br,1,none⟩=some (ui x.n):=block_cell HI.out rfl;have g2:((((((((W2.setCell ⟨br,0,none⟩ (ui x.c)).setCell ⟨br,1,none⟩ (ui x.n)).setCell ⟨br,2,none⟩ (uw x.sp)).setCell ⟨br,3,none⟩ (ui x.sl)).setCell ⟨br,4,none⟩ (uw x.ap)).setCell ⟨br,5,none⟩ (ui x.al)).setCell ⟨br,6,none⟩ (ub x.pt)).setCell ⟨br,7,none⟩ (.bool x.dn)).cell? ⟨br,2,none⟩=some (uw x.sp):=block_cell HI.out rfl;have g3:((((((((W2.setCell ⟨br,0,none⟩ (ui x.c)).setCell ⟨br,1,none⟩ (ui x.n)).setCell ⟨br,2,none⟩ (uw x.sp)).setCell ⟨br,3,none⟩ (ui x.sl)).setCell ⟨br,4,none⟩ (uw x.ap)).setCell ⟨br,5,none⟩ (ui x.al)).setCell ⟨br,6,none⟩ (ub x.pt)).setCell ⟨br,7,none⟩ (.bool x.dn)).cell? ⟨br,3,none⟩=some (ui x.sl):=block_cell HI.out rfl;have g4:((((((((W2.setCell ⟨br,0,none⟩ (ui x.c)).setCell ⟨br,1,none⟩ (ui x.n)).setCell ⟨br,2,none⟩ (uw x.sp)).setCell ⟨br,3,none⟩ (ui x.sl)).setCell ⟨br,4,none⟩ (uw x.ap)).setCell ⟨br,5,none⟩ (ui x.al)).setCell ⟨br,6,none⟩ (ub x.pt)).setCell ⟨br,7,none⟩ (.bool x.dn)).cell? ⟨br,4,none⟩=some (uw x.ap):=block_cell HI.out rfl;have g5:((((((((W2.setCell ⟨br,0,none⟩ (ui x.c)).setCell ⟨br,1,none⟩ (ui x.n)).setCell ⟨br,2,none⟩ (uw x.sp)).setCell ⟨br,3,none⟩ (ui x.sl)).setCell ⟨br,4,none⟩ (uw x.ap)).setCell ⟨br,5,none⟩ (ui x.al)).setCell ⟨br,6,none⟩ (ub x.pt)).setCell ⟨br,7,none⟩ (.bool x.dn)).cell? ⟨br,5,none⟩=some (ui x.al):=block_cell HI.out rfl;have g6:((((((((W2.setCell ⟨br,0,none⟩ (ui x.c)).setCell ⟨br,1,none⟩ (ui x.n)).setCell ⟨br,2,none⟩ (uw x.sp)).setCell ⟨br,3,none⟩ (ui x.sl)).setCell ⟨br,4,none⟩ (uw x.ap)).setCell ⟨br,5,none⟩ (ui x.al)).setCell ⟨br,6,none⟩ (ub x.pt)).setCell ⟨br,7,none⟩ (.bool x.dn)).cell? ⟨br,6,none⟩=some (ub x.pt):=block_cell HI.out rfl;have g7:((((((((W2.setCell ⟨br,0,none⟩ (ui x.c)).setCell ⟨br,1,none⟩ (ui x.n)).setCell ⟨br,2,none⟩ (uw x.sp)).setCell ⟨br,3,none⟩ (ui x.sl)).setCell ⟨br,4,none⟩ (uw x.ap)).setCell ⟨br,5,none⟩ (ui x.al)).setCell ⟨br,6,none⟩ (ub x.pt)).setCell ⟨br,7,none⟩ (.bool x.dn)).cell? ⟨br,7,none⟩=some (.bool x.dn):=block_cell HI.out rfl;refine bodyPost_ret (v:=.tuple #[vdV x,.bool z]) (by simp[results,Tryz.results97,go_sem,g0,g1,g2,g3,g4,g5,g6,g7,vdV]) rfl ?_;exact⟨rfl,HBw.out⟩
end Go.Proofs.YtdplfgcoaddbdaaGreat.Ver
