import Derived.Test.YtdplfgcoaddbdaaGreatXbv
import Derived.Test.YtdplfgcoaddbdaaGreatXbw
set_option maxHeartbeats 4000000
set_option maxRecDepth 100000
set_option linter.unusedVariables false
set_option linter.unusedSimpArgs false
namespace Go.Proofs.YtdplfgcoaddbdaaGreat
open Go.RowKit
variable {SA:TyS}{TA:TyT}{BA:TyB}
variable {f:Fp}{M:Nat->Prop}{X:Sd}{a:Int}{g:Nat}{D:Drm.Dr}{w w1 W W':World}{Lo:List (Nat×Obj)}
theorem QIn.on{q:Rq}{wa sa:Option Addr}{wc sc:Nat}(h:QIn w q wa wc sa sc)(hb:Below w.heap.size w W):QIn W q wa wc sa sc:=⟨h.ok,(RwAt.on h.ws hb).le hb.size,(RwAt.on h.sk hb).le hb.size⟩
theorem AcsAt.on{v:Value}{L:List Ac}(h:AcsAt w v L)(hb:Below w.heap.size w W):AcsAt W v L:=⟨(RwAt.on h.1 hb).le hb.size,fun x hx=>⟨(h.2 x hx).q.on hb,(h.2 x hx).ph⟩⟩
def rpC(r:Rp)(ao:Option Addr)(n cap:Nat):Array Value:=#[iw r.k,iw r.err,.bool r.found,sd r.val,.slice ao n cap,ui r.c,ui r.n,uw r.sp,ui r.sl,uw r.ap,ui r.al,sd r.prim,uw r.np,ui r.nl]
theorem rp_is(r:Rp)(ao:Option Addr)(n cap:Nat):rpV r (.slice ao n cap)=.agg (rpC r ao n cap):=rfl
end Go.Proofs.YtdplfgcoaddbdaaGreat
namespace Go.Proofs.YtdplfgcoaddbdaaGreat
open Go.RowKit
namespace Gs
abbrev Tx:=List UInt8
def kx(k:Tx):Value:=sd k
theorem bs_eqb(a b:Tx):(bs a==bs b)=decide (a=b):=by
 have h:(bs a==bs b)=(a.toArray==b.toArray):=rfl;rw[h];by_cases e:a=b
 ·subst e;simp
 ·simp[e]
theorem sameBits_kx(n:Nat)(k:Tx):Instr.sameBits (n+1) (kx k) (kx k)=true:=by simp[kx,Instr.sameBits,bs_eqb]
theorem run_check(k:Tx)(em:Bool)(w:World):(Instr.checkKey em 10000 9 (kx k)).run Tryz.prog w=.ok () w:=by unfold kx;unfold Instr.checkKey;simp[go_sem]
theorem set_kb{w:World}{b:Nat}{o o':Obj}(h:w.heap[b]?=some o):Kept (fun i=>i=b) w {w with heap:=w.heap.setIfInBounds b o'}:=⟨rfl,rfl,rfl,by simp,fun k _ hk=>(MapKept.heap_set h).2 k hk⟩
theorem set_same{β:Type}{l:List β}{j:Nat}{a:β}(h:l[j]?=some a):l.set j a=l:=by
 refine List.ext_getElem? (fun i=>?_);rw[List.getElem?_set];split
 ·rename_i e;subst e;rw[if_pos (List.getElem?_eq_some_iff.1 h).1,h]
 ·rfl
section
variable {α:Type}(key:α->Tx)(val:α->Value)
def Ek(es:List MapEntry)(m:List α):Prop:=es.map (fun e=>(e.key,e.val))=m.map (fun x=>(kx (key x),val x))
def isK(k:Tx)(x:α):Bool:=decide (key x=k)
def idx(k:Tx):List α->Nat->Option (Nat×α)
 |[],_=>none
 |x::m,i=>if k=key x then some (i,x)else idx k m (i+1)
variable {key val}
theorem Ek.len{es:List MapEntry}{m:List α}(h:Ek key val es m):es.length=m.length:=by have:=congrArg List.length h;simpa using this
theorem idx_none{k:Tx}:∀{m:List α} {i:Nat},m.find? (isK key k)=none->idx key k m i=none
 |[],_,_=>rfl
 |x::m,i,h=>by
  simp only[List.find?_cons]at h;split at h
  ·cases h
  ·rename_i e;unfold idx;rw[if_neg (fun e2=>by simp[isK,e2]at e)];exact idx_none h
theorem idx_some{k:Tx}{x:α}:∀{m:List α} {i:Nat},m.find? (isK key k)=some x->∃j,idx key k m i=some (i+j,x)/\m[j]?=some x/\key x=k
 |[],_,h=>by cases h
 |y::m,i,h=>by
  simp only[List.find?_cons]at h;split at h
  ·rename_i e;injection h with h;subst h;have e':key y=k:=by simpa[isK]using e
   exact⟨0,by unfold idx;rw[if_pos e'.symm];rfl,rfl,e'⟩
  ·rename_i e;obtain⟨j,h1,h2,h3⟩:=idx_some (i:=i+1) h;refine⟨j+1,?_,h2,h3⟩;unfold idx;rw[if_neg (fun e2=>by simp[isK,e2]at e),h1];congr 2;omega
theorem run_now{d:TypeDesc}(hd:Tryz.prog.underlying 9=some d)(k:Tx):∀(es:List MapEntry) (m:List α) (i:Nat),Ek key val es m->Instr.findNow d (kx k) es i=some ((idx key k m i).map fun p=>(p.1,val p.2))
 |[],[],i,_=>rfl
 |[],x::m,_,h=>by cases h
 |e::es,[],_,h=>by cases h
 |e::es,x::m,i,h=>by
  simp only[Ek,List.map_cons,List.cons.injEq,Prod.mk.injEq]at h;obtain⟨⟨h1,h2⟩,h3⟩:=h;have hs:Instr.sameNow d (kx k) (kx (key x))=some (decide (k=key x)):=by rw[Tryz.underlying9]at hd;injection hd with hd;subst hd;simp[Instr.sameNow,kx,bs_eqb]
  unfold Instr.findNow idx;rw[h1,hs];by_cases e1:k=key x
  ·rw[if_pos e1];simp[e1,h2]
  ·rw[if_neg e1];simp[e1,run_now hd k es m (i+1) h3]
theorem run_findK(k:Tx){es:List MapEntry}{m:List α}(h:Ek key val es m)(w:World):(Instr.findKey 9 (kx k) es).run Tryz.prog w=.ok ((idx key k m 0).map fun p=>(p.1,val p.2)) w:=
 MapKept.run_findKey Tryz.underlying9 (run_now Tryz.underlying9 k es m 0 h)
variable (key val)
def At(b:Nat)(m:List α)(w:World):Prop:=∃es clock,w.heap[b]?=some (.map es clock)/\Ek key val es.toList m/\(es.toList.map (·.born)).Nodup/\∀e∈es.toList,e.born<clock
variable {key val}
theorem At.kept{b:Nat}{m:List α}{w w':World}{F:Nat->Prop}(h:At key val b m w)(hk:Kept F w w')(hF:¬F b):At key val b m w':=by obtain⟨es,cl,h1,h2⟩:=h;exact⟨es,cl,by rw[hk.block b (gsz h1) hF];exact h1,h2⟩
theorem At.on{b:Nat}{m:List α}{w w':World}(h:At key val b m w)(hb:Below w.heap.size w w'):At key val b m w':=h.kept (F:=fun _=>False) (Kept.of_below hb) (fun h=>h)
theorem At.lt{b:Nat}{m:List α}{w:World}(h:At key val b m w):b<w.heap.size:=by obtain⟨es,cl,h1,_⟩:=h;exact(gsz h1)
theorem At.new(w:World):At key val w.heap.size [] (w.alloc (.map #[] 0)):=⟨#[],0,heap_alloc_new w _,rfl,by simp,by simp⟩
theorem run_upd0{t e b:Nat}{m:List α}{w:World}(ht:Tryz.prog.underlying t=some (.map 9 e))(h:At key val b m w)(v:α)(hg:m.find? (isK key (key v))=none):∃w',(Instr.mapUpdate t (.map (some b)) (kx (key v)) (val v)).run Tryz.prog w=.ok () w'/\At key val b (m++[v]) w'/\Kept (fun i=>i=b) w w'/\w'.heap.size=w.heap.size:=by
 obtain⟨es,cl,h1,h2,h3,h4⟩:=h;refine⟨_,?_,⟨es.push ⟨kx (key v),val v,cl⟩,cl+1,(MapKept.heap_set h1).1,?_,?_,?_⟩,set_kb h1,by simp⟩
 ·simp[Instr.mapUpdate,run_underlying ht,MapKept.run_getObj_map h1,run_check,run_findK (key v) h2,idx_none (i:=0) hg,MapKept.run_setObj_map _ h1,Result.andThen]
 ·unfold Ek;rw[Array.toList_push,List.map_append,List.map_append,h2];rfl
 ·rw[Array.toList_push,List.map_append,List.nodup_append];refine⟨h3,by simp,fun a ha b' hb'=>?_⟩;simp at hb';subst hb';obtain⟨x,hx,rfl⟩:=List.mem_map.1 ha;have:=h4 x hx;omega
 ·intro x hx;rw[Array.toList_push]at hx;rcases List.mem_append.1 hx with hx|hx
  ·have:=h4 x hx;omega
  ·simp at hx;subst hx;exact Nat.lt_succ_self _
theorem run_upd1{t e b:Nat}{m:List α}{w:World}(ht:Tryz.prog.underlying t=some (.map 9 e))(h:At key val b m w)(v:α){x:α}(hg:m.find? (isK key (key v))=some x):∃w' j,(Instr.mapUpdate t (.map (some b)) (kx (key v)) (val v)).run Tryz.prog w=.ok () w'/\m[j]?=some x/\At key val b (m.set j v) w'/\Kept (fun i=>i=b) w w'/\w'.heap.size=w.heap.size:=by
 obtain⟨es,cl,h1,h2,h3,h4⟩:=h;obtain⟨j,g1,g2,g3⟩:=idx_some (i:=0) hg;have hl:=h2.len;have hj:j<m.length:=(List.getElem?_eq_some_iff.1 g2).1;have hje:es.toList[j]?=some (es.toList[j]'(by omega)):=List.getElem?_eq_getElem (by omega);generalize es.toList[j]'(by omega)=e0 at hje;have hk0:e0.key=kx (key v):=by
  have a1:(es.toList.map (fun e=>(e.key,e.val)))[j]?=some (e0.key,e0.val):=by rw[List.getElem?_map,hje];rfl
  rw[h2,List.getElem?_map,g2]at a1;simp only[Option.map_some,Option.some.injEq,Prod.mk.injEq]at a1;rw[<-a1.1,g3]
 have hja:es[j]?=some e0:=by simpa using hje
 have hmod:(es.modify j (fun e'=>{e' with key:=kx (key v),val:=val v})).toList=es.toList.set j {e0 with key:=kx (key v),val:=val v}:=by rw[Array.toList_modify,ChangeMaps.modify_eq_set _ _ _ _ hje]
 refine⟨_,j,?_,g2,⟨es.modify j (fun e'=>{e' with key:=kx (key v),val:=val v}),cl,(MapKept.heap_set h1).1,?_,?_,?_⟩,set_kb h1,by simp⟩
 ·simp[Instr.mapUpdate,run_underlying ht,MapKept.run_getObj_map h1,run_check,run_findK (key v) h2,g1,hja,hk0,Instr.keyThatStays,sameBits_kx 9999 (key v),MapKept.run_setObj_map _ h1,Result.andThen]
 ·unfold Ek;rw[hmod,List.map_set,List.map_set,h2]
 ·rw[hmod,List.map_set];have:(es.toList.map (·.born)).set j e0.born=es.toList.map (·.born):=set_same (by rw[List.getElem?_map,hje];rfl);show((es.toList.map (·.born)).set j e0.born).Nodup;rw[this];exact h3
 ·intro y hy;rw[hmod]at hy;rcases List.mem_or_eq_of_mem_set hy with hy|rfl
  ·exact h4 y hy
  ·exact h4 e0 (List.mem_of_getElem? hje)
variable (key val)
def Rg(b r:Nat)(m left:List α)(w:World):Prop:=∃es clock since seen c0,w.heap[b]?=some (.map es clock)/\Ek key val es.toList m/\(es.toList.map (·.born)).Nodup/\(∀e∈es.toList,e.born<clock)/\w.heap[r]?=some (.mapIter (some b) since seen c0)/\(∀e∈es.toList,e.born<since)/\since<=c0/\since<=clock/\Ek key val (es.toList.filter fun e=> !seen.contains e.born) left
variable {key val}
theorem Rg.at{b r:Nat}{m left:List α}{w:World}(h:Rg key val b r m left w):At key val b m w:=by obtain⟨es,cl,since,seen,c0,h1,h2,h3,h4,_⟩:=h;exact⟨es,cl,h1,h2,h3,h4⟩
theorem Rg.lt{b r:Nat}{m left:List α}{w:World}(h:Rg key val b r m left w):r<w.heap.size:=by obtain⟨es,cl,since,seen,c0,h1,h2,h3,h4,h5,_⟩:=h;exact(gsz h5)
theorem Rg.ne{b r:Nat}{m left:List α}{w:World}(h:Rg key val b r m left w):r≠b:=by obtain⟨es,cl,since,seen,c0,h1,h2,h3,h4,h5,_⟩:=h;intro e;rw[e,h1]at h5;cases h5
theorem Rg.kept{b r:Nat}{m left:List α}{w w':World}{F:Nat->Prop}(h:Rg key val b r m left w)(hk:Kept F w w')(hb:¬F b)(hr:¬F r):Rg key val b r m left w':=by have l1:=h.at.lt;have l2:=h.lt;obtain⟨es,cl,since,seen,c0,h1,h2,h3,h4,h5,h6⟩:=h;exact⟨es,cl,since,seen,c0,by rw[hk.block b l1 hb];exact h1,h2,h3,h4,by rw[hk.block r l2 hr];exact h5,h6⟩
theorem Rg.on{b r:Nat}{m left:List α}{w w':World}(h:Rg key val b r m left w)(hb:Below w.heap.size w w'):Rg key val b r m left w':=h.kept (F:=fun _=>False) (Kept.of_below hb) (fun h=>h) (fun h=>h)
theorem Rg.left_eq{b r:Nat}{m left:List α}{w:World}(h:Rg key val b r m left w):w.rangeLeft b r=left.length:=by obtain⟨es,cl,since,seen,c0,h1,h2,h3,h4,h5,h6,h7,h8,h9⟩:=h;simp only[World.rangeLeft,h1,h5];rw[<-h9.len];unfold leftOf;rw[<-Array.toList_filter,Array.length_toList]
theorem run_range{t e b:Nat}{m:List α}{w:World}(ht:Tryz.prog.underlying t=some (.map 9 e))(h:At key val b m w):∃w',(Instr.range t (.map (some b))).run Tryz.prog w=.ok (pz w.heap.size) w'/\Rg key val b w.heap.size m m w'/\w.grownBy w' none/\w'.heap.size=w.heap.size+1:=by have hlt:=h.lt;obtain⟨es,cl,h1,h2,h3,h4⟩:=h;refine⟨_,run_range_map w t 9 e b es cl ht h1,⟨es,cl,cl,#[],cl,((MapKept.heap_alloc w _).2 b hlt).trans h1,h2,h3,h4,(MapKept.heap_alloc w _).1,h4,Nat.le_refl _,Nat.le_refl _,?_⟩,World.grownBy_alloc w _ none,by simp⟩;rw[List.filter_eq_self.2 (fun a _=>by simp)];exact h2
theorem ek_split{l1 l2:List MapEntry}{e:MapEntry}{L:List α}(h:Ek key val (l1++e::l2) L):∃L1 x L2,L=L1++x::L2/\e.key=kx (key x)/\e.val=val x/\Ek key val (l1++l2) (L1++L2):=by unfold Ek at h;rw[List.map_append,List.map_cons]at h;obtain⟨L1,R,rfl,h1,h2⟩:=List.map_eq_append_iff.1 h.symm;obtain⟨x,L2,rfl,h3,h4⟩:=List.map_eq_cons_iff.1 h2;simp only[Prod.mk.injEq]at h3;exact⟨L1,x,L2,rfl,h3.1.symm,h3.2.symm,by unfold Ek;rw[List.map_append,List.map_append,h1,h4]⟩
theorem filter_push{es:List MapEntry}{seen:Array Nat}{e:MapEntry}(hn:(es.map (·.born)).Nodup)(he:e∈es.filter fun x=> !seen.contains x.born):∃l1 l2,(es.filter fun x=> !seen.contains x.born)=l1++e::l2/\(es.filter fun x=> !(seen.push e.born).contains x.born)=l1++l2:=by
 obtain⟨l1,l2,hs⟩:=List.append_of_mem he;refine⟨l1,l2,hs,?_⟩;have e1:(es.filter fun x=> !(seen.push e.born).contains x.born)=(es.filter fun x=> !seen.contains x.born).filter fun x=> !(x.born==e.born):=by rw[List.filter_filter];refine List.filter_congr (fun x _=>?_);rw[contains_push];cases seen.contains x.born<;>cases(x.born==e.born)<;>rfl
 have hn2:((l1++e::l2).map (·.born)).Nodup:=by rw[<-hs];exact hn.sublist (List.filter_sublist.map _)
 rw[e1,hs,List.filter_append,List.filter_cons];simp only[beq_self_eq_true,Bool.not_true,Bool.false_eq_true,if_false];rw[List.map_append,List.map_cons,List.nodup_append]at hn2;obtain⟨_,h2,h3⟩:=hn2;rw[List.nodup_cons]at h2;congr 1
 ·refine List.filter_eq_self.2 (fun x hx=>?_);have:x.born≠e.born:=h3 _ (List.mem_map.2 ⟨x,hx,rfl⟩) _ (List.mem_cons_self ..);simpa using this
 ·refine List.filter_eq_self.2 (fun x hx=>?_);have:x.born≠e.born:=fun h=>h2.1 (List.mem_map.2 ⟨x,hx,h⟩);simpa using this
theorem Rg.next{b r:Nat}{m left:List α}{w:World}(h:Rg key val b r m left w)(ty:TypeId):
  (left=[]/\(Instr.next (pz r) false ty).run Tryz.prog w=.ok (.tuple #[.bool false]) w)\/
  ∃L1 x L2 w',left=L1++x::L2/\(Instr.next (pz r) false ty).run Tryz.prog w=.ok (.tuple #[.bool true,kx (key x),val x]) w'/\Rg key val b r m (L1++L2) w'/\w.grownBy w' (some r)/\w'.heap.size=w.heap.size/\(Instr.entry (pz r)).run Tryz.prog w'=.ok (.tuple #[kx (key x),val x]) w':=by
 have hne:=h.ne;obtain⟨es,clock,since,seen,c0,hb,h2,h3,h4,hr,hold,hsc,hsk,hl⟩:=h;have hfl:(leftOf es seen).toList=es.toList.filter fun e=> !seen.contains e.born:=by unfold leftOf;rw[Array.toList_filter]
 rcases run_next_at (P:=Tryz.prog) w ty r b since c0 seen es clock hr hb hold hsc with⟨h0,hrun⟩|⟨e,he,w1,hal,hrun⟩
 ·refine .inl ⟨?_,hrun⟩;have:(leftOf es seen).toList.length=0:=by rw[Array.length_toList];exact h0
  rw[hfl,hl.len]at this;exact List.eq_nil_of_length_eq_zero this
 ·rw[hfl]at he;have hem:e∈es.toList:=(List.mem_filter.1 he).1;obtain⟨l1,l2,s1,s2⟩:=filter_push h3 he;rw[s1]at hl;obtain⟨L1,x,L2,rfl,k1,k2,k3⟩:=ek_split hl;have hr1:w1.heap[r]?=some (.mapIter (some b) since seen c0):=by rcases hal with rfl|rfl<;>exact hr
  have hb1:w1.heap[b]?=some (.map es clock):=by rcases hal with rfl|rfl<;>exact hb
  have hset:=MapKept.heap_set (o':=.mapIter (some b) since (seen.push e.born) clock) hr1;have hb':(ChangeMaps.setBlock w1 r (.mapIter (some b) since (seen.push e.born) clock)).heap[b]?=some (.map es clock):=(hset.2 b (fun e1=>hne e1.symm)).trans hb1;refine .inr ⟨L1,x,L2,_,rfl,by rw[hrun,k1,k2],⟨es,clock,since,seen.push e.born,clock,hb',h2,h3,h4,hset.1,hold,hsk,hsk,by rw[s2];exact k3⟩,?_,?_,?_⟩
  ·rcases hal with rfl|rfl<;>exact⟨rfl,rfl,rfl,by simp[ChangeMaps.setBlock],fun i _ hi=>hset.2 i (fun e1=>hi (by rw[e1]))⟩
  ·rcases hal with rfl|rfl<;>simp[ChangeMaps.setBlock]
  ·rw[run_entry_at _ r b since seen es clock e hset.1 hb' hem h3,k1,k2]
end
def ins(k:Tx)(m:List Tx):List Tx:=if k∈m then m else m++[k]
theorem ins_mem{k x:Tx}{m:List Tx}:x∈ins k m↔x=k\/x∈m:=by
 unfold ins;split
 ·next h=>exact⟨.inr,fun e=>e.elim (fun e=>e▸h) id⟩
 ·simp[or_comm]
theorem ins_nodup{k:Tx}{m:List Tx}(h:m.Nodup):(ins k m).Nodup:=by
 unfold ins;split
 ·exact h
 ·next e=>exact List.nodup_append.2 ⟨h,by simp,fun a ha b hb=>by simp at hb;subst hb;exact fun e2=>e (e2▸ha)⟩
theorem find_tx{k:Tx}{m:List Tx}:m.find? (isK (fun x:Tx=>x) k)=if k∈m then some k else none:=by
 induction m with
 |nil=>rfl
 |cons x m ih=>
  rw[List.find?_cons];by_cases e:x=k
  ·subst e;simp[isK]
  ·simp only[isK,e,decide_false];have:k≠x:=fun h=>e h.symm;simpa[isK,this]using ih
def tv(_:Tx):Value:=.bool true
abbrev AtS(b:Nat)(m:List Tx)(w:World):Prop:=At (fun x:Tx=>x) tv b m w
theorem AtS.ins{b:Nat}{m:List Tx}{w:World}(h:AtS b m w)(k:Tx){t e:TypeId}(ht:Tryz.prog.underlying t=some (.map 9 e)):∃w',(Instr.mapUpdate t (.map (some b)) (sd k) (.bool true)).run Tryz.prog w=.ok () w'/\AtS b (ins k m) w'/\Kept (fun i=>i=b) w w'/\w'.heap.size=w.heap.size:=by
 unfold Gs.ins;by_cases hk:k∈m
 ·obtain⟨w',j,h1,h2,h3,h4⟩:=run_upd1 ht h k (x:=k) (by rw[find_tx,if_pos hk]);rw[if_pos hk];rw[set_same h2]at h3;exact⟨w',h1,h3,h4⟩
 ·rw[if_neg hk];exact run_upd0 ht h k (by rw[find_tx,if_neg hk])
end Gs
end Go.Proofs.YtdplfgcoaddbdaaGreat
namespace Go.Proofs.YtdplfgcoaddbdaaGreat
variable {X:Sd}{f:Int}{D:Drm.Dr}{q:Rq}
def scQ(q:Rq):Rq:={q with k:=2,c:=99,n:=0,lim:=32,sk:=[]}
def geQ(q:Rq)(k:List UInt8):Rq:=⟨1,99,0,q.sp,q.sl,0,0,k,[],0,0,[],[]⟩
def lkF(q:Rq)(T:Lat.Tb)(lo hi:List UInt8):Option (List UInt8×Lat.Ii):=Lat.firstF lo hi q.sp q.sl [(99,0)] T
def lkB(q:Rq)(T:Lat.Tb)(k:List UInt8):Bool:=(lkF q T k (k++[0])).isSome
def seK(q:Rq)(S:Sto.Sk)(k:List UInt8):Option (List UInt8):=Sto.seeF (Sto.chainF k S) q.sp q.sl
structure Sc(f:Int)(q:Rq)(r:Rp)(X1:Sd)(D1:Drm.Dr):Prop where
 hr:Clk.rightB q.sp q.sl=true
 ls:Clk.lessB q.sp q.sl X1.sp X1.sl=false
 he:hearF f q.sp q.sl X1 0 D1=(0,X1,D1)
 k:r.k=if(lkF q X1.T q.key q.hi).isSome then 3 else 2
 p:r.prs=if(lkF q X1.T q.key q.hi).isSome then[]else Sto.scanS q.key q.hi q.sp q.sl 32 X1.S
theorem sc_of(h0:(handF f (scQ q) X 0 D).1.k≠0)(hX:XOk X)(hs:Ts q.sp q.sl):Sc f q (handF f (scQ q) X 0 D).1 (handF f (scQ q) X 0 D).2.1 (handF f (scQ q) X 0 D).2.2:=by
 have e1:(handF f (scQ q) X 0 D).1.k=(ansF f (scQ q) X 0 D).1.k:=rfl;have e2:(handF f (scQ q) X 0 D).1.prs=(ansF f (scQ q) X 0 D).1.prs:=rfl;have e3:(handF f (scQ q) X 0 D).2=(ansF f (scQ q) X 0 D).2:=rfl;rw[e1]at h0;rw[e3];cases hr:rightQ (scQ q)with
 |false=>
  have:ansF f (scQ q) X 0 D=(refR 1,X,D):=by unfold ansF;rw[if_pos hr]
  rw[this]at h0;exact absurd rfl h0
 |true=>
 cases hd:D.down with
 |true=>
  have:ansF f (scQ q) X 0 D=(refR 11,X,D):=by unfold ansF;rw[if_neg (by rw[hr];simp),if_pos hd]
  rw[this]at h0;exact absurd rfl h0
 |false=>
 have ha:ansF f (scQ q) X 0 D=scanFn f (scQ q) X 0 D:=by unfold ansF;rw[if_neg (by rw[hr];simp),if_neg (by rw[hd];simp),if_neg (show¬(scQ q).k=1 from by show¬(2:Int)=1;omega),if_pos (show(scQ q).k=2 from rfl)]
 have r1:Clk.rightB q.sp q.sl=true:=by unfold rightQ at hr;simp only[Bool.and_eq_true]at hr;exact hr.1.1.1.2
 rw[ha]at h0 e1 e2|-;have hk:(handF f (scQ q) X 0 D).1.k=(scanFn f (scQ q) X 0 D).1.k:=e1;cases hl:Clk.lessB q.sp q.sl X.sp X.sl with
 |true=>
  have:(scanFn f (scQ q) X 0 D).1.k=0:=by unfold scanFn hindF;rw[if_pos (show Clk.lessB (scQ q).sp (scQ q).sl X.sp X.sl=true from hl)];rfl
  exact absurd this h0
 |false=>
 by_cases hh:(hearF f q.sp q.sl X 0 D).1=0
 ·have hi:hindF f (scQ q) q.key q.hi X 0 D=((lkF q (hearF f q.sp q.sl X 0 D).2.1.T q.key q.hi).map (fun x=>lockR x.2),(hearF f q.sp q.sl X 0 D).2):=by unfold hindF;rw[if_neg (show¬Clk.lessB (scQ q).sp (scQ q).sl X.sp X.sl=true from by rw[show Clk.lessB (scQ q).sp (scQ q).sl X.sp X.sl=false from hl];simp),if_neg (show¬(hearF f (scQ q).sp (scQ q).sl X 0 D).1≠0 from fun h=>h hh)];rfl
  have hs2:(scanFn f (scQ q) X 0 D).2=(hearF f q.sp q.sl X 0 D).2:=by unfold scanFn;rw[show(scQ q).key=q.key from rfl,show(scQ q).hi=q.hi from rfl,hi];cases(lkF q (hearF f q.sp q.sl X 0 D).2.1.T q.key q.hi)<;>rfl
  have sd:=(hear_ok (f:=f) (a:=0) (D:=D) hs hX).1;rw[hs2];refine⟨r1,by rw[sd.sp,sd.sl];exact hl,hear_again hh hs hX rfl rfl rfl rfl,?_,?_⟩
  ·rw[hk];unfold scanFn;rw[show(scQ q).key=q.key from rfl,show(scQ q).hi=q.hi from rfl,hi];cases(lkF q (hearF f q.sp q.sl X 0 D).2.1.T q.key q.hi)<;>rfl
  ·rw[e2];unfold scanFn;rw[show(scQ q).key=q.key from rfl,show(scQ q).hi=q.hi from rfl,hi];cases(lkF q (hearF f q.sp q.sl X 0 D).2.1.T q.key q.hi)<;>rfl
 ·have:(scanFn f (scQ q) X 0 D).1.k=0:=by unfold scanFn hindF;rw[if_neg (show¬Clk.lessB (scQ q).sp (scQ q).sl X.sp X.sl=true from by rw[show Clk.lessB (scQ q).sp (scQ q).sl X.sp X.sl=false from hl];simp),if_pos (show(hearF f (scQ q).sp (scQ q).sl X 0 D).1≠0 from hh)];rfl
  exact absurd this h0
theorem get_sc{r:Rp}(s:Sc f q r X D)(hd:D.down=false){k:List UInt8}(hk:kOk k=true):(handF f (geQ q k) X 0 D).2=(X,D)/\(handF f (geQ q k) X 0 D).1.k=(if lkB q X.T k then 3 else 1)/\(handF f (geQ q k) X 0 D).1.prs=[]/\(lkB q X.T k=false->(handF f (geQ q k) X 0 D).1.found=(seK q X.S k).isSome/\(handF f (geQ q k) X 0 D).1.val=(seK q X.S k).getD []):=by
 have hr:rightQ (geQ q k)=true:=by unfold rightQ;rw[if_pos (show(geQ q k).k=1 from rfl)];show(decide ((1:Int)<=1)&&decide ((1:Int)<=9)&&Clk.rightB q.sp q.sl&&Clk.rightB 0 0&&decide ((0:Nat)<=16)&&kOk k)=true;rw[s.hr,hk];rfl
 have hi:hindF f (geQ q k) k (k++[0]) X 0 D=((lkF q X.T k (k++[0])).map (fun x=>lockR x.2),X,D):=by unfold hindF;rw[if_neg (show¬Clk.lessB (geQ q k).sp (geQ q k).sl X.sp X.sl=true from by rw[show Clk.lessB (geQ q k).sp (geQ q k).sl X.sp X.sl=false from s.ls];simp),show hearF f (geQ q k).sp (geQ q k).sl X 0 D=(0,X,D)from s.he,if_neg (by simp)];rfl
 have ha:ansF f (geQ q k) X 0 D=getFn f (geQ q k) X 0 D:=by unfold ansF;rw[if_neg (by rw[hr];simp),if_neg (by rw[hd];simp),if_pos (show(geQ q k).k=1 from rfl)]
 have hg:getFn f (geQ q k) X 0 D=match (lkF q X.T k (k++[0])).map (fun x=>lockR x.2)with
  |some r=>(r,X,D)
  |none=>({Rp.zero with k:=1,found:=(Sto.getV (seK q X.S k)).2,val:=(Sto.getV (seK q X.S k)).1},X,D):=by
  unfold getFn;rw[show(geQ q k).key=k from rfl,hi];rfl
 unfold handF;rw[ha,hg];unfold lkB;cases(lkF q X.T k (k++[0]))with
 |some x=>exact⟨rfl,rfl,rfl,fun e=>by cases e⟩
 |none=>refine⟨rfl,rfl,rfl,fun _=>?_⟩;cases seK q X.S k<;>exact⟨rfl,rfl⟩
theorem lt_one:∀k:List UInt8,ltK k (k++[0])=true
 |[]=>rfl
 |a::k=>by have:=lt_one k;unfold ltK at this|-;simp[Op.bytesLess,this]
theorem one_lt:∀{k y:List UInt8},ltK y (k++[0])=true->ltK y k=false->y=k
 |[],[],_,_=>rfl
 |[],b::y,h,_=>by unfold ltK at h;cases y<;>simp[Op.bytesLess]at h
 |a::k,[],_,h=>by simp[ltK,Op.bytesLess]at h
 |a::k,b::y,h1,h2=>by
  have ih:=@one_lt k y;unfold ltK at*;simp only[List.cons_append,Op.bytesLess,Bool.or_eq_true,Bool.and_eq_true,Bool.or_eq_false_iff,Bool.and_eq_false_iff,decide_eq_true_eq,decide_eq_false_iff_not,beq_iff_eq,beq_eq_false_iff_ne]at h1 h2;rcases h1 with h1|⟨rfl,h1⟩
  ·exact absurd h1 h2.1
  ·rw[ih h1 (h2.2.resolve_left (fun e=>e rfl))]
theorem in_one{k y:List UInt8}:inR k (k++[0]) y=true↔y=k:=by
 unfold inR;constructor
 ·intro h;simp only[Bool.and_eq_true,Bool.or_eq_true,Bool.not_eq_true']at h;exact one_lt (h.2.resolve_left (by simp)) h.1
 ·rintro rfl;rw[ltK_irrefl,lt_one];simp
def stB(q:Rq)(x:List UInt8×Lat.Ii):Bool:= !Lat.ltT q.sp q.sl x.2.mp x.2.ml&& !([((99:Int),(0:Int))].contains (x.2.c,x.2.n))
theorem lk_some{T:Lat.Tb}{lo hi:List UInt8}:(lkF q T lo hi).isSome=true↔∃x∈T,inR lo hi x.1=true/\stB q x=true:=by unfold lkF Lat.firstF;rw[List.find?_isSome];unfold Lat.standsB stB;simp only[Bool.and_eq_true,and_assoc]
theorem lk_one{T:Lat.Tb}{k:List UInt8}:lkB q T k=true↔∃x∈T,x.1=k/\stB q x=true:=by unfold lkB;rw[lk_some];simp only[in_one]
theorem lk_any{T:Lat.Tb}{lo hi:List UInt8}{m:List (List UInt8)}(hm:∀x∈T,x.1∈m):(m.any fun k=>inR lo hi k&&lkB q T k)=(lkF q T lo hi).isSome:=by
 rw[Bool.eq_iff_iff,List.any_eq_true,lk_some];constructor
 ·rintro⟨k,_,h⟩;rw[Bool.and_eq_true]at h;obtain⟨x,hx,rfl,h3⟩:=lk_one.1 h.2;exact⟨x,hx,h.1,h3⟩
 ·rintro⟨x,hx,h1,h2⟩;exact⟨x.1,hm x hx,by rw[h1,lk_one.2 ⟨x,hx,rfl,h2⟩];rfl⟩
theorem chain_of{S:Sto.Sk}(hS:Srt S){x:List UInt8×List Sto.Ve}(hx:x∈S):Sto.chainF x.1 S=x.2:=by unfold Sto.chainF;rw[(getF_mem hS).2 (show(x.1,x.2)∈S from hx)];rfl
theorem se_mem{S:Sto.Sk}(hS:Srt S){k v:List UInt8}(h:seK q S k=some v):∃x∈S,x.1=k/\Sto.seeF x.2 q.sp q.sl=some v:=by
 unfold seK Sto.chainF at h;cases hg:getF k S with
 |none=>rw[hg]at h;cases h
 |some c=>
  rw[hg]at h;exact⟨(k,c),(getF_mem hS).1 hg,rfl,h⟩
theorem sc_len{S:Sto.Sk}(hS:Srt S){lo hi:List UInt8}{m:List (List UInt8)}(hn:m.Nodup)(hm:∀x∈S,x.1∈m):(Sto.scanS lo hi q.sp q.sl 32 S).length=min (m.filter fun k=>inR lo hi k&&(seK q S k).isSome).length 32:=by
 have e:(Sto.scanR q.sp q.sl (Sto.rngS lo hi S)).length=(m.filter fun k=>inR lo hi k&&(seK q S k).isSome).length:=by
  have h1:(Sto.scanR q.sp q.sl (Sto.rngS lo hi S)).map (·.1)=((S.filter fun x=>inR lo hi x.1&&(Sto.seeF x.2 q.sp q.sl).isSome).map (·.1)):=by
   unfold Sto.scanR Sto.rngS;clear hm hS;induction S with
   |nil=>rfl
   |cons x S ih=>
    cases h1:inR lo hi x.1<;>cases h2:Sto.seeF x.2 q.sp q.sl<;>simp[List.filter_cons,List.filterMap_cons,h1,h2,ih]
  have h2:((S.filter fun x=>inR lo hi x.1&&(Sto.seeF x.2 q.sp q.sl).isSome).map (·.1)).Perm (m.filter fun k=>inR lo hi k&&(seK q S k).isSome):=by
   refine(List.perm_ext_iff_of_nodup (srt_nodup (List.Pairwise.filter _ hS)) (hn.filter _)).2 (fun k=>?_);rw[List.mem_map,List.mem_filter];constructor
   ·rintro⟨x,hx,rfl⟩;obtain⟨h3,h4⟩:=List.mem_filter.1 hx;exact⟨hm x h3,by unfold seK;rw[chain_of hS h3];exact h4⟩
   ·rintro⟨_,h3⟩;rw[Bool.and_eq_true]at h3;obtain⟨v,hv⟩:=Option.isSome_iff_exists.1 h3.2;obtain⟨x,hx,rfl,h5⟩:=se_mem hS hv;exact⟨x,List.mem_filter.2 ⟨hx,by rw[h3.1,h5];rfl⟩,rfl⟩
  rw[<-h2.length_eq,<-h1,List.length_map]
 unfold Sto.scanS;rw[List.length_take,e];show min 32 _=_;omega
theorem scr_srt{S:Sto.Sk}(hS:Srt S)(p l:Int):Srt (Sto.scanR p l S):=by unfold Sto.scanR Srt;refine List.Pairwise.filterMap _ (fun a a' h b hb b' hb'=>?_) hS;obtain⟨s,_,rfl⟩:=Option.map_eq_some_iff.1 hb;obtain⟨s',_,rfl⟩:=Option.map_eq_some_iff.1 hb';exact h
theorem sc_sees{S:Sto.Sk}(hS:Srt S){lo hi k v:List UInt8}(hr:inR lo hi k=true)(h:seK q S k=some v):(k,v)∈Sto.scanS lo hi q.sp q.sl 32 S\/((Sto.scanS lo hi q.sp q.sl 32 S).length=32/\ltK ((Sto.scanS lo hi q.sp q.sl 32 S).getD 31 ([],[])).1 k=true):=by
 obtain⟨x,hx,rfl,h1⟩:=se_mem hS h;have hm:(x.1,v)∈Sto.scanR q.sp q.sl (Sto.rngS lo hi S):=List.mem_filterMap.2 ⟨x,List.mem_filter.2 ⟨hx,hr⟩,by rw[h1];rfl⟩;have hs:=scr_srt (Sto.rngS_srt hS lo hi) q.sp q.sl;unfold Sto.scanS;rw[show(min (32:Int) 32).toNat=32 from rfl];generalize Sto.scanR q.sp q.sl (Sto.rngS lo hi S)=L at*;obtain⟨i,hi',e⟩:=List.mem_iff_getElem.1 hm;by_cases h32:i<32
 ·exact .inl (List.mem_iff_getElem.2 ⟨i,by rw[List.length_take];omega,by rw[List.getElem_take];exact e⟩)
 ·refine .inr ⟨by rw[List.length_take];omega,?_⟩;have:=List.pairwise_iff_getElem.1 hs 31 i (by omega) hi' (by omega);rw[e]at this;rw[List.getD_eq_getElem?_getD,List.getElem?_take,if_pos (by omega),List.getElem?_eq_getElem (by omega)];exact this
end Go.Proofs.YtdplfgcoaddbdaaGreat
