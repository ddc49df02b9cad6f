import Derived.WideKeyRuns
import Derived.Test.YtdplfgcoaddbdaaGreatWam
set_option maxHeartbeats 4000000
set_option maxRecDepth 100000
set_option linter.unusedVariables false
set_option linter.unusedSimpArgs false
namespace Go.Proofs.YtdplfgcoaddbdaaGreat.Lat
open Go.RowKit
structure Tm where
 sp:Int
 sl:Int
 mp:Int
 ml:Int
 prim:List UInt8
 sv:Option Addr×Nat×Nat
 kl:List (List UInt8)
def tmV(t:Tm):Value:=.agg #[uw t.sp,ui t.sl,uw t.mp,ui t.ml,sd t.prim,.slice t.sv.1 t.sv.2.1 t.sv.2.2]
def zt:Tm:=⟨0,0,0,0,[],(none,0,0),[]⟩
def kx(k:Int×Int):Value:=.agg #[ui k.1,ui k.2]
abbrev Mm:=List ((Int×Int)×Tm)
def getM(k:Int×Int):Mm->Option Tm
 |[]=>none
 |(a,t)::m=>if a=k then some t else getM k m
def setM(k:Int×Int)(v:Tm):Mm->Mm
 |[]=>[(k,v)]
 |(a,t)::m=>if a=k then(k,v)::m else(a,t)::setM k v m
def delM(k:Int×Int):Mm->Mm
 |[]=>[]
 |(a,t)::m=>if a=k then m else(a,t)::delM k m
theorem get_setM(k k':Int×Int)(v:Tm):∀m:Mm,getM k' (setM k v m)=if k=k' then some v else getM k' m
 |[]=>by simp[setM,getM]
 |(a,t)::m=>by
  unfold setM;by_cases h:a=k
  ·subst h;rw[if_pos rfl];simp only[getM];by_cases h2:a=k'
   ·rw[if_pos h2,if_pos h2]
   ·rw[if_neg h2,if_neg h2,if_neg h2]
  ·rw[if_neg h];simp only[getM];rw[get_setM k k' v m];by_cases h2:a=k'
   ·rw[if_pos h2,if_pos h2,if_neg (fun e=>h (h2.trans e.symm))]
   ·rw[if_neg h2,if_neg h2]
theorem get_none{k:Int×Int}:∀{m:Mm},k∉m.map (·.1)->getM k m=none
 |[],_=>rfl
 |(a,t)::m,h=>by simp only[List.map_cons,List.mem_cons,not_or]at h;unfold getM;rw[if_neg (fun e=>h.1 e.symm)];exact get_none h.2
theorem get_mem{k:Int×Int}{t:Tm}:∀{m:Mm},getM k m=some t->(k,t)∈m
 |[],h=>by cases h
 |(a,u)::m,h=>by
  unfold getM at h;split at h
  ·rename_i e;subst e;injection h with h;subst h;exact List.mem_cons_self ..
  ·exact List.mem_cons_of_mem _ (get_mem h)
theorem mem_setM{k:Int×Int}{v:Tm}{x:(Int×Int)×Tm}:∀{m:Mm},x∈setM k v m->x=(k,v)\/x∈m
 |[],h=>by simpa[setM]using h
 |(a,t)::m,h=>by
  unfold setM at h;split at h
  ·rcases List.mem_cons.1 h with e|e
   ·exact .inl e
   ·exact .inr (List.mem_cons_of_mem _ e)
  ·rcases List.mem_cons.1 h with e|e
   ·exact .inr (by rw[e];exact List.mem_cons_self ..)
   ·rcases mem_setM e with e|e
    ·exact .inl e
    ·exact .inr (List.mem_cons_of_mem _ e)
theorem keys_setM(k:Int×Int)(v:Tm):∀m:Mm,(setM k v m).map (·.1)=if k∈m.map (·.1)then m.map (·.1)else m.map (·.1)++[k]
 |[]=>by simp[setM]
 |(a,t)::m=>by
  unfold setM;by_cases h:a=k
  ·subst h;simp
  ·rw[if_neg h];simp only[List.map_cons];rw[keys_setM k v m];by_cases h2:k∈m.map (·.1)
   ·rw[if_pos h2,if_pos (List.mem_cons_of_mem _ h2)]
   ·rw[if_neg h2,if_neg (by simp only[List.mem_cons,not_or];exact⟨fun e=>h e.symm,h2⟩)];rfl
theorem nd_setM{k:Int×Int}{v:Tm}{m:Mm}(h:(m.map (·.1)).Nodup):((setM k v m).map (·.1)).Nodup:=by
 rw[keys_setM];split
 ·exact h
 ·rename_i h2;rw[List.nodup_append];exact⟨h,by simp,fun a ha b hb=>by simp at hb;subst hb;exact fun e=>h2 (e▸ha)⟩
theorem del_sub{k:Int×Int}:∀m:Mm,(delM k m).Sublist m
 |[]=>List.Sublist.slnil
 |(a,t)::m=>by
  unfold delM;split
  ·exact List.sublist_cons_self _ _
  ·exact List.Sublist.cons_cons _ (del_sub m)
theorem nd_delM{k:Int×Int}{m:Mm}(h:(m.map (·.1)).Nodup):((delM k m).map (·.1)).Nodup:=h.sublist ((del_sub m).map _)
theorem get_delM{k k':Int×Int}:∀{m:Mm},(m.map (·.1)).Nodup->getM k' (delM k m)=if k=k' then none else getM k' m
 |[],_=>by simp[delM,getM]
 |(a,t)::m,hn=>by
  simp only[List.map_cons,List.nodup_cons]at hn;unfold delM;by_cases h:a=k
  ·subst h;rw[if_pos rfl];by_cases h2:a=k'
   ·subst h2;rw[if_pos rfl];exact get_none hn.1
   ·rw[if_neg h2];simp only[getM];rw[if_neg h2]
  ·rw[if_neg h];simp only[getM];rw[get_delM hn.2];by_cases h2:a=k'
   ·rw[if_pos h2,if_pos h2,if_neg (fun e=>h (h2.trans e.symm))]
   ·rw[if_neg h2,if_neg h2]
def GmAt(b:Nat)(m:Mm)(w:World):Prop:=∃es clock,w.heap[b]?=some (.map es clock)/\es.toList.map (fun e=>(e.key,e.val))=m.map (fun x=>(kx x.1,tmV x.2))
theorem GmAt.kept{b:Nat}{m:Mm}{w w':World}{F:Nat->Prop}(h:GmAt b m w)(hk:Kept F w w')(hF:¬F b):GmAt b m w':=by obtain⟨es,cl,h1,h2⟩:=h;exact⟨es,cl,by rw[hk.block b (gsz h1) hF];exact h1,h2⟩
theorem GmAt.lt{b:Nat}{m:Mm}{w:World}(h:GmAt b m w):b<w.heap.size:=by obtain⟨es,cl,h1,_⟩:=h;exact(gsz h1)
theorem GmAt.new(w:World):GmAt w.heap.size [] (w.alloc (.map #[] 0)):=⟨#[],0,heap_alloc_new w _,rfl⟩
theorem run_same(a b:Int×Int)(w:World):(Op.equal 26 (kx a) (kx b)).run Tryz.prog w=.ok (decide (a=b)) w:=by obtain⟨p,l⟩:=a;obtain⟨q,m⟩:=b;show(Op.equalIn 10000 26 (.agg #[ui p,ui l]) (.agg #[ui q,ui m])).run Tryz.prog w=_;by_cases h:p=q<;>by_cases h2:l=m<;>simp[go_sem,h,h2]
theorem run_check1(n:Nat)(k:Int)(em:Bool)(w:World):(Instr.checkKey em (n+1) 24 (ui k)).run Tryz.prog w=.ok () w:=by unfold Instr.checkKey;simp[go_sem]
theorem run_check2(n:Nat)(k:Int×Int)(em:Bool)(w:World):(Instr.checkKey em (n+1+1) 26 (kx k)).run Tryz.prog w=.ok () w:=by unfold kx;unfold Instr.checkKey;simp[go_sem,run_check1]
theorem run_check(k:Int×Int)(em:Bool)(w:World):(Instr.checkKey em 10000 26 (kx k)).run Tryz.prog w=.ok () w:=run_check2 9998 k em w
def findI(k:Int×Int):Mm->Nat->Option (Nat×Value)
 |[],_=>none
 |(a,t)::m,i=>if k=a then some (i,tmV t)else findI k m (i+1)
theorem find_none{k:Int×Int}:∀{m:Mm} {i:Nat},getM k m=none->findI k m i=none
 |[],_,_=>rfl
 |(a,t)::m,i,h=>by
  unfold getM at h;split at h
  ·cases h
  ·rename_i e;unfold findI;rw[if_neg (fun e2=>e e2.symm)];exact find_none h
theorem find_some{k:Int×Int}{t:Tm}:∀{m:Mm} {i:Nat},getM k m=some t->∃j,findI k m i=some (i+j,tmV t)/\m[j]?=some (k,t)/\(∀v,setM k v m=m.set j (k,v))/\delM k m=m.eraseIdx j
 |[],_,h=>by cases h
 |(a,u)::m,i,h=>by
  unfold getM at h;split at h
  ·rename_i e;subst e;injection h with h;subst h;refine⟨0,by unfold findI;rw[if_pos rfl];rfl,rfl,fun v=>?_,?_⟩
   ·unfold setM;rw[if_pos rfl];rfl
   ·unfold delM;rw[if_pos rfl];rfl
  ·rename_i e;obtain⟨j,h1,h2,h3,h4⟩:=find_some (i:=i+1) h;refine⟨j+1,?_,h2,fun v=>?_,?_⟩
   ·unfold findI;rw[if_neg (fun e2=>e e2.symm),h1];congr 2;omega
   ·unfold setM;rw[if_neg e,h3 v];rfl
   ·unfold delM;rw[if_neg e,h4];rfl
theorem run_ask(k:Int×Int)(w:World):∀(es:List MapEntry) (m:Mm) (i:Nat),es.map (fun e=>(e.key,e.val))=m.map (fun x=>(kx x.1,tmV x.2))->(Instr.findAsking 26 (kx k) es i).run Tryz.prog w=.ok (findI k m i) w
 |[],[],i,_=>rfl
 |[],x::m,_,h=>by cases h
 |e::es,[],_,h=>by cases h
 |e::es,(a,t)::m,i,h=>by
  simp only[List.map_cons,List.cons.injEq,Prod.mk.injEq]at h;obtain⟨⟨h1,h2⟩,h3⟩:=h;unfold Instr.findAsking findI;simp only[h1,h2,Sem.run_bind,run_same,Result.andThen];by_cases e1:k=a
  ·rw[if_pos e1];simp[e1]
  ·rw[if_neg e1];simp[e1,run_ask k w es m (i+1) h3]
theorem run_findK(k:Int×Int){es:List MapEntry}{m:Mm}(h:es.map (fun e=>(e.key,e.val))=m.map (fun x=>(kx x.1,tmV x.2)))(w:World):(Instr.findKey 26 (kx k) es).run Tryz.prog w=.ok (findI k m 0) w:=by rw[run_findKey_eq w (by kernel_rfl)];exact run_ask k w es m 0 h
theorem run_look{b:Nat}{m:Mm}{w:World}(h:GmAt b m w)(k:Int×Int):(Instr.lookup 124 (.map (some b)) (kx k) false).run Tryz.prog w=.ok (tmV ((getM k m).getD zt)) w:=by
 obtain⟨es,cl,h1,h2⟩:=h;cases hg:getM k m with
 |none=>
  simp[Instr.lookup,run_underlying Tryz.underlying124,MapKept.run_getObj_map h1,run_check,run_findK k h2,find_none (i:=0) hg,Result.andThen];rfl
 |some t=>
  obtain⟨j,g1,_⟩:=find_some (i:=0) hg;simp[Instr.lookup,run_underlying Tryz.underlying124,MapKept.run_getObj_map h1,run_check,run_findK k h2,g1,Result.andThen]
theorem run_look2{b:Nat}{m:Mm}{w:World}(h:GmAt b m w)(k:Int×Int):(Instr.lookup 124 (.map (some b)) (kx k) true).run Tryz.prog w=.ok (.tuple #[tmV ((getM k m).getD zt),.bool (getM k m).isSome]) w:=by
 obtain⟨es,cl,h1,h2⟩:=h;cases hg:getM k m with
 |none=>
  simp[Instr.lookup,run_underlying Tryz.underlying124,MapKept.run_getObj_map h1,run_check,run_findK k h2,find_none (i:=0) hg,Result.andThen];rfl
 |some t=>
  obtain⟨j,g1,_⟩:=find_some (i:=0) hg;simp[Instr.lookup,run_underlying Tryz.underlying124,MapKept.run_getObj_map h1,run_check,run_findK k h2,g1,Result.andThen]
theorem setB{w:World}{b:Nat}{o o':Obj}(h:w.heap[b]?=some o):Kept (fun i=>i=b) w {w with heap:=w.heap.setIfInBounds b o'}:=⟨rfl,rfl,rfl,by simp,fun k _ hk=>(MapKept.heap_set h).2 k hk⟩
theorem sameBits_kx(n:Nat)(k:Int×Int):Instr.sameBits (n+1) (kx k) (kx k)=true:=by simp[kx,Instr.sameBits]
theorem run_upd{b:Nat}{m:Mm}{w:World}(h:GmAt b m w)(k:Int×Int)(v:Tm):∃w',(Instr.mapUpdate 124 (.map (some b)) (kx k) (tmV v)).run Tryz.prog w=.ok () w'/\GmAt b (setM k v m) w'/\Kept (fun i=>i=b) w w':=by
 obtain⟨es,cl,h1,h2⟩:=h;cases hg:getM k m with
 |none=>
  refine⟨_,?_,⟨es.push ⟨kx k,tmV v,cl⟩,cl+1,(MapKept.heap_set h1).1,?_⟩,setB h1⟩
  ·simp[Instr.mapUpdate,run_underlying Tryz.underlying124,MapKept.run_getObj_map h1,run_check,run_findK k h2,find_none (i:=0) hg,MapKept.run_setObj_map _ h1,Result.andThen]
  ·have:setM k v m=m++[(k,v)]:=by
    clear h2;induction m with
    |nil=>rfl
    |cons x m ih=>
     obtain⟨a,t⟩:=x;unfold getM at hg;split at hg
     ·cases hg
     ·rename_i e;unfold setM;rw[if_neg e,ih hg];rfl
   rw[this,Array.toList_push,List.map_append,List.map_append,h2];rfl
 |some t=>
  obtain⟨j,g1,g2,g3,_⟩:=find_some (i:=0) hg;have hl:es.toList.length=m.length:=by have:=congrArg List.length h2;simpa using this
  have hj:j<m.length:=(List.getElem?_eq_some_iff.1 g2).1;have hje:es.toList[j]?=some (es.toList[j]'(by omega)):=List.getElem?_eq_getElem (by omega);generalize es.toList[j]'(by omega)=e0 at hje;have hk0:e0.key=kx k:=by
   have a1:(es.toList.map (fun e=>(e.key,e.val)))[j]?=some (e0.key,e0.val):=by rw[List.getElem?_map,hje];rfl
   rw[h2,List.getElem?_map,g2]at a1;simp only[Option.map_some,Option.some.injEq,Prod.mk.injEq]at a1;exact a1.1.symm
  have hja:es[j]?=some e0:=by simpa using hje
  refine⟨_,?_,⟨es.modify j (fun e'=>{e' with key:=kx k,val:=tmV v}),cl,(MapKept.heap_set h1).1,?_⟩,setB h1⟩
  ·simp[Instr.mapUpdate,run_underlying Tryz.underlying124,MapKept.run_getObj_map h1,run_check,run_findK k h2,g1,hja,hk0,Instr.keyThatStays,sameBits_kx 9999 k,MapKept.run_setObj_map _ h1,Result.andThen]
  ·rw[g3 v,Array.toList_modify,ChangeMaps.modify_eq_set _ _ _ _ hje,List.map_set,List.map_set,h2]
theorem run_del{b:Nat}{m:Mm}{w:World}(h:GmAt b m w)(k:Int×Int):∃w',(∀ty:TypeId,(Builtin.delete_ #[124,26] ty #[.map (some b),kx k]).run Tryz.prog w=.ok (.tuple #[]) w')/\GmAt b (delM k m) w'/\Kept (fun i=>i=b) w w':=by
 obtain⟨es,cl,h1,h2⟩:=h;cases hg:getM k m with
 |none=>
  refine⟨_,fun ty=>?_,⟨es,cl,(MapKept.heap_set h1).1,?_⟩,setB h1⟩
  ·simp[Builtin.delete_,run_underlying Tryz.underlying124,MapKept.run_getObj_map h1,run_check,run_findK k h2,find_none (i:=0) hg,MapKept.run_setObj_map _ h1,Result.andThen]
  ·have:delM k m=m:=by
    clear h2;induction m with
    |nil=>rfl
    |cons x m ih=>
     obtain⟨a,t⟩:=x;unfold getM at hg;split at hg
     ·cases hg
     ·rename_i e;unfold delM;rw[if_neg e,ih hg]
   rw[this,h2]
 |some t=>
  obtain⟨j,g1,g2,_,g4⟩:=find_some (i:=0) hg;have hl:es.toList.length=m.length:=by have:=congrArg List.length h2;simpa using this
  have hj:j<m.length:=(List.getElem?_eq_some_iff.1 g2).1;have hjs:j<es.size:=by simpa using(by omega:j<es.toList.length)
  refine⟨_,fun ty=>?_,⟨es.eraseIdxIfInBounds j,cl,(MapKept.heap_set h1).1,?_⟩,setB h1⟩
  ·simp[Builtin.delete_,run_underlying Tryz.underlying124,MapKept.run_getObj_map h1,run_check,run_findK k h2,g1,MapKept.run_setObj_map _ h1,Result.andThen]
  ·rw[g4];have e1:(es.eraseIdxIfInBounds j).toList=es.toList.eraseIdx j:=by simp[Array.eraseIdxIfInBounds,hjs]
   rw[e1,ChangeMaps.map_eraseIdx,ChangeMaps.map_eraseIdx,h2]
structure Ifl(TA:Nat->Nat->(Nat->Prop)->Tb->World->Prop):Prop where
 lt:∀{B p:Nat} {M:Nat->Prop} {T:Tb} {w:World},TA B p M T w->∀k,M k->B<=k/\k<w.heap.size
 keep:∀{B p:Nat} {M G:Nat->Prop} {T:Tb} {w w':World},TA B p M T w->Kept G w w'->(∀k,M k->¬G k)->TA B p M T w'
 ok:∀{B p:Nat} {M:Nat->Prop} {T:Tb} {w:World},TA B p M T w->TOk T
 new:∀w:World,Calls Tryz.prog 29 #[] w fun e w'=>∃p M,e=.returned (pz p)/\TA w.heap.size p M [] w'/\Below w.heap.size w w'
 right:∀(B:Nat) (L:List Wr) (v:Value) (w:World),WsAt B v L w->B<=w.heap.size->Calls Tryz.prog 83 #[v] w fun e w'=>e=.returned (.bool (rightW L))/\Below w.heap.size w w'
 lay:∀{B p:Nat} {M:Nat->Prop} {T:Tb} {w:World} (c n sp sl mp ml:Int) (prim:List UInt8) (L:List Wr) (v:Value),TA B p M T w->T.length<10000->WsAt w.heap.size v L w->(0<L.length->∀k,v.ownBlock=some k->¬M k)->0<=mp/\0<=ml->Calls Tryz.prog 70 #[pz p,.agg #[ui c,ui n],.agg #[uw sp,ui sl],.agg #[uw mp,ui ml],sd prim,v] w fun e w'=>e=.returned (iw (layF (rightB sp sl&&rightB mp ml&&kOk prim) c n sp sl mp ml prim L T).2)/\∃M',TA B p M' (layF (rightB sp sl&&rightB mp ml&&kOk prim) c n sp sl mp ml prim L T).1 w'/\Kept M w w'/\∀i,M' i->M i\/w.heap.size<=i
 cut:∀{B p:Nat} {M:Nat->Prop} {T:Tb} {w:World} (c n:Int),TA B p M T w->T.length<10000->Calls Tryz.prog 73 #[pz p,.agg #[ui c,ui n]] w fun e w'=>∃v' M',e=.returned v'/\IsAt w'.heap.size v' (byF c n T) w'/\(∀k,v'.ownBlock=some k->w.heap.size<=k)/\TA B p M' (restF c n T) w'/\Kept M w w'/\∀i,M' i->M i\/w.heap.size<=i
 raise:∀{B p:Nat} {M:Nat->Prop} {T:Tb} {w:World} (c n mp ml:Int),TA B p M T w->T.length<10000->0<=mp/\0<=ml->Calls Tryz.prog 80 #[pz p,.agg #[ui c,ui n],.agg #[uw mp,ui ml]] w fun e w'=>e=.returned (.bool (rseB c n mp ml T))/\∃M',TA B p M' (rseF c n mp ml T) w'/\Kept M w w'/\∀i,M' i->M i\/w.heap.size<=i
 first:∀{B p:Nat} {M:Nat->Prop} {T:Tb} {w:World} (lo hi:List UInt8) (ap aq:Int) (but:List (Int×Int)) (v:Value),TA B p M T w->T.length<10000->TsAt w.heap.size v but w->Calls Tryz.prog 158 #[pz p,sd lo,sd hi,.agg #[uw ap,ui aq],v] w fun e w'=>e=.returned (fsV (firstF lo hi ap aq but T))/\Below w.heap.size w w'
 of:∀{B p:Nat} {M:Nat->Prop} {T:Tb} {w:World} (k:List UInt8),TA B p M T w->T.length<10000->Calls Tryz.prog 105 #[pz p,sd k] w fun e w'=>e=.returned (ofV k (getF k T))/\Below w.heap.size w w'
 by_:∀{B p:Nat} {M:Nat->Prop} {T:Tb} {w:World} (c n:Int),TA B p M T w->T.length<10000->Calls Tryz.prog 144 #[pz p,.agg #[ui c,ui n]] w fun e w'=>∃v',e=.returned v'/\IsAt w'.heap.size v' (byF c n T) w'/\(∀k,v'.ownBlock=some k->w.heap.size<=k)/\Below w.heap.size w w'
 all:∀{B p:Nat} {M:Nat->Prop} {T:Tb} {w:World},TA B p M T w->T.length<10000->Calls Tryz.prog 25 #[pz p] w fun e w'=>∃v',e=.returned v'/\IsAt w'.heap.size v' T w'/\(∀k,v'.ownBlock=some k->w.heap.size<=k/\∃cs,w'.heap[k]?=some (.cells cs 69 (0,0)))/\Below w.heap.size w w'
variable {TA:Nat->Nat->(Nat->Prop)->Tb->World->Prop}
def maxF(p l q m:Int):Int×Int:=if lessB p l q m then(q,m)else(p,l)
def maxL(xs:List (Int×Int)):Int×Int:=xs.foldl (fun m t=>maxF m.1 m.2 t.1 t.2) (0,0)
theorem maxL_snoc(xs:List (Int×Int))(t:Int×Int):maxL (xs++[t])=maxF (maxL xs).1 (maxL xs).2 t.1 t.2:=by simp[maxL]
theorem max39_row(bk:Nat)(w:World)(hbk:bk<w.heap.size)(n:Nat)(xs:List (Int×Int))(hn:xs.length=n)(hn2:n<=1000)
   (hc:∀i:Nat,i<n->w.cell? ⟨bk,i*2,none⟩=some (uw (xs[i]?.getD (0,0)).1)/\w.cell? ⟨bk,i*2+1,none⟩=some (ui (xs[i]?.getD (0,0)).2)):
  Calls Tryz.prog 101 #[.slice (some ⟨bk,0,none⟩) n n] w fun e w'=>e=.returned (.agg #[uw (maxL xs).1,ui (maxL xs).2])/\Below w.heap.size w w':=by
 go_enter Tryz.func101,Tryz.ntmps101;go_wp2;go_loopw [8] (fun i wr=>∃k:Nat,k<=n/\i=iw k/\Below w.heap.size w wr/\w.heap.size+1<wr.heap.size/\wr.frozen? ⟨w.heap.size,0,none⟩=false/\wr.frozen? ⟨w.heap.size,1,none⟩=false/\wr.cell? ⟨w.heap.size,0,none⟩=some (uw 0)/\wr.cell? ⟨w.heap.size,1,none⟩=some (ui 0)/\wr.frozen? ⟨w.heap.size+1,0,none⟩=false/\wr.frozen? ⟨w.heap.size+1,1,none⟩=false/\wr.cell? ⟨w.heap.size+1,0,none⟩=some (uw (maxL (xs.take k)).1)/\wr.cell? ⟨w.heap.size+1,1,none⟩=some (ui (maxL (xs.take k)).2)) (fun i _=>n-(intOf i).toNat)
 case atStart=>
  exact⟨0,Nat.zero_le _,rfl,((Below.refl _ _).alloc (Nat.le_refl _) _).alloc (by simp) _,by simp,by simp[go_sem],by simp[go_sem],by simp[go_sem],by simp[go_sem],by simp[go_sem],by simp[go_sem],by simp[go_sem,maxL],by simp[go_sem,maxL]⟩
 case round=>
  obtain⟨k,hk,rfl,hBr,hzr,f0,f1,r0,r1,f2,f3,m0,m1⟩:=hrel;by_cases hlt:k<n
  ·have hd4:decide ((k:Int)<n)=true:=by simp;omega
   have e0:wr.cell? ⟨bk,k*2,none⟩=some (uw (xs[k]?.getD (0,0)).1):=by rw[hBr.cell hbk];exact(hc k hlt).1
   have e1:wr.cell? ⟨bk,k*2+1,none⟩=some (ui (xs[k]?.getD (0,0)).2):=by rw[hBr.cell hbk];exact(hc k hlt).2
   have HX:Hid (maxL (xs.take (k+1))=maxF (maxL (xs.take k)).1 (maxL (xs.take k)).2 xs[k].1 xs[k].2):=by rw[List.take_succ_eq_append_getElem (by omega)];exact maxL_snoc _ _
   cases hl:lessB (maxL (xs.take k)).1 (maxL (xs.take k)).2 xs[k].1 xs[k].2
   ·have HL:Hid (lessB (maxL (xs.take k)).1 (maxL (xs.take k)).2 xs[k].1 xs[k].2=false):=hl;have hm:maxL (xs.take (k+1))=maxL (xs.take k):=by rw[HX.out];simp[maxF,hl]
    have HM:Hid (maxL (xs.take (k+1))=maxL (xs.take k)):=hm;clear hl hm;go_wp2_with fail;refine(lessP _ _ _ _ _).mono ?_;rw[HL.out];rintro e w3 ⟨rfl,hb3⟩;obtain⟨hc3,hf3⟩:=bcell hb3;have hz3:w.heap.size+1<w3.heap.size:=by have:=hb3.size;simp at this;omega
    have hz4:w.heap.size<wr.heap.size:=by omega
    go_wp2;go_roundw
    case rel=>
     refine⟨k+1,by omega,by go_num,?_,hz3,?_,?_,?_,?_,?_,?_,?_,?_⟩
     ·exact(hBr.alloc hBr.size _).trans (hb3.mono (by simp;omega))
     all_goals try rw[HM.out]
     all_goals simp[go_sem,hc3,hf3,Nat.lt_succ_of_lt hz4,Nat.lt_succ_of_lt hzr,hz4,hzr,f0,f1,f2,f3,r0,r1,m0,m1]
    case measure=>simp[intOf];omega
   ·have HL:Hid (lessB (maxL (xs.take k)).1 (maxL (xs.take k)).2 xs[k].1 xs[k].2=true):=hl;have hm:maxL (xs.take (k+1))=xs[k]:=by rw[HX.out];simp[maxF,hl]
    have HM:Hid (maxL (xs.take (k+1))=xs[k]):=hm;clear hl hm;go_wp2_with fail;refine(lessP _ _ _ _ _).mono ?_;rw[HL.out];rintro e w3 ⟨rfl,hb3⟩;obtain⟨hc3,hf3⟩:=bcell hb3;have hz3:w.heap.size+1<w3.heap.size:=by have:=hb3.size;simp at this;omega
    have hz4:w.heap.size<wr.heap.size:=by omega
    go_wp2;go_roundw
    case rel=>
     refine⟨k+1,by omega,by go_num,?_,by simpa using hz3,?_,?_,?_,?_,?_,?_,?_,?_⟩
     ·exact(((hBr.alloc hBr.size _).trans (hb3.mono (by simp;omega))).setCell (by simp) _).setCell (by simp) _
     all_goals try rw[HM.out]
     all_goals simp[go_sem,hc3,hf3,Nat.lt_succ_of_lt hz4,Nat.lt_succ_of_lt hzr,hz4,hzr,f0,f1,f2,f3,r0,r1,m0,m1]
    case measure=>simp[intOf];omega
  ·have hd4:decide ((k:Int)<n)=false:=by simp;omega
   have hkm:xs.take k=xs:=List.take_of_length_le (by omega);rw[hkm]at m0 m1;go_wp2;refine bodyPost_ret (v:=.agg #[uw (maxL xs).1,ui (maxL xs).2]) (by simp[results,Tryz.results101,go_sem,r0,r1]) rfl ⟨rfl,?_⟩;exact(hBr.setCell (by simp) _).setCell (by simp) _
def Tr.hn:Tr->Nat
 |Go.Deep.BT.nil=>0
 |Go.Deep.BT.node _ x _ _ _=>x
def Tr.hi:Tr->Int
 |Go.Deep.BT.nil=>0
 |Go.Deep.BT.node _ x _ _ _=>(x:Int)
theorem Tr.hi_hn(t:Tr):t.hi=t.hn:=by
 cases t using Tr.cas with
 |nil=>rfl
 |node b l k v x r=>rfl
theorem max_hn(l r:Tr):((1+max l.hn r.hn:Nat):Int)=1+max l.hi r.hi:=by rw[l.hi_hn,r.hi_hn];omega
def Hk:Tr->Prop
 |Go.Deep.BT.nil=>True
 |Go.Deep.BT.node _ x _ l r=>x=1+max (Tr.hn l) (Tr.hn r)/\Hk l/\Hk r
theorem Hk.bounds{t:Tr}:Hk t->0<=t.hi/\t.hi<=t.toL.length:=by
 induction t using Tr.ind with
 |nil=>intro _;simp[Tr.hi,Tr.toL]
 |node b l k v x r ihl ihr=>
  intro h;obtain⟨h1,h2,h3⟩:=h;have i2:=ihl h2;have i3:=ihr h3;rw[l.hi_hn]at i2;rw[r.hi_hn]at i3;simp only[Tr.hi,Tr.toL,List.length_append,List.length_cons];omega
theorem Hk.node{t:Tr}(h0:0<t.hi):∃b l k v x r,t=.node b l k v x r:=by
 cases t using Tr.cas with
 |nil=>simp[Tr.hi]at h0
 |node b l k v x r=>exact⟨b,l,k,v,x,r,rfl⟩
def nl:Lay:=⟨273,fun k v x l r=>#[sd k,ui v.1.1,ui v.1.2,sd v.2.key,sd v.2.val,.bool v.2.dead,l,r,iw (x:Int)]⟩
def findT(k:List UInt8):Tr->Option Nat
 |Go.Deep.BT.nil=>none
 |Go.Deep.BT.node b _ (q,_) l r=>if ltK k q then findT k l else if ltK q k then findT k r else some b
def putT(k:List UInt8)(v:Cv):Tr->Tr
 |Go.Deep.BT.nil=>.nil
 |Go.Deep.BT.node b x (q,u) l r=>if ltK k q then .node b (putT k v l) q u x r else if ltK q k then .node b l q u x (putT k v r)else .node b l q v x r
theorem find_node(k:List UInt8)(b:Nat)(l:Tr)(q:List UInt8)(u:Cv)(x:Nat)(r:Tr):findT k (.node b l q u x r)=if ltK k q then findT k l else if ltK q k then findT k r else some b:=rfl
theorem put_node(k:List UInt8)(v:Cv)(b:Nat)(l:Tr)(q:List UInt8)(u:Cv)(x:Nat)(r:Tr):putT k v (.node b l q u x r)=if ltK k q then .node b (putT k v l) q u x r else if ltK q k then .node b l q u x (putT k v r)else .node b l q v x r:=rfl
theorem find_in{k:List UInt8}{t:Tr}:∀{b:Nat},findT k t=some b->b∈t.blocks:=by
 induction t using Tr.ind with
 |nil=>intro b h;cases h
 |node c l q u x r ihl ihr=>
  intro b h;rw[find_node]at h;simp only[Tr.blocks,List.mem_cons,List.mem_append];split at h
  ·exact .inr (.inl (ihl h))
  ·split at h
   ·exact .inr (.inr (ihr h))
   ·injection h with h;exact .inl h.symm
theorem find_get{k:List UInt8}{t:Tr}:Srt t.toL->(findT k t).isSome=(getF k t.toL).isSome:=by
 induction t using Tr.ind with
 |nil=>intro _;rfl
 |node c l q u x r ihl ihr=>
  intro h;obtain⟨h1,h2,_,_⟩:=srt_parts h;rw[find_node];simp only[Tr.toL];rw[get_parts h];split
  ·exact ihl h1
  ·split
   ·exact ihr h2
   ·rfl
theorem find_at{w:World}{k:List UInt8}{t:Tr}:∀{b:Nat},Srt t.toL->TrAt nl t w->findT k t=some b->∃q v x l r,w.heap[b]?=some (.cells (nl.cells q v x l r) nl.ty (0,0))/\getF k t.toL=some v:=by
 induction t using Tr.ind with
 |nil=>intro b _ _ h;cases h
 |node c l q u x r ihl ihr=>
  intro b hs ha h;obtain⟨h1,h2,_,_⟩:=srt_parts hs;obtain⟨a1,a2,a3⟩:=ha;rw[find_node]at h;simp only[Tr.toL];rw[get_parts hs];split at h
  ·rename_i e;rw[if_pos e];exact ihl h1 a2 h
  ·rename_i e;rw[if_neg e];split at h
   ·rename_i e2;rw[if_pos e2];exact ihr h2 a3 h
   ·rename_i e2;rw[if_neg e2];injection h with h;subst h;exact⟨q,u,x,_,_,a1,rfl⟩
theorem put_ptr(k:List UInt8)(v:Cv)(t:Tr):(putT k v t).ptr=t.ptr:=by
 cases t using Tr.cas with
 |nil=>rfl
 |node b l q u x r=>rw[put_node];split;rfl;split<;>rfl
theorem put_hn(k:List UInt8)(v:Cv)(t:Tr):(putT k v t).hn=t.hn:=by
 cases t using Tr.cas with
 |nil=>rfl
 |node b l q u x r=>rw[put_node];split;rfl;split<;>rfl
theorem put_blocks(k:List UInt8)(v:Cv)(t:Tr):(putT k v t).blocks=t.blocks:=by
 induction t using Tr.ind with
 |nil=>rfl
 |node b l q u x r ihl ihr=>
  rw[put_node];split
  ·simp only[Tr.blocks,ihl]
  ·split
   ·simp only[Tr.blocks,ihr]
   ·rfl
theorem put_hk(k:List UInt8)(v:Cv){t:Tr}:Hk t->Hk (putT k v t):=by
 induction t using Tr.ind with
 |nil=>exact fun _=>trivial
 |node b l q u x r ihl ihr=>
  intro h;obtain⟨h1,h2,h3⟩:=h;rw[put_node];split
  ·exact⟨by rw[put_hn];exact h1,ihl h2,h3⟩
  ·split
   ·exact⟨by rw[put_hn];exact h1,h2,ihr h3⟩
   ·exact⟨h1,h2,h3⟩
theorem put_toL{k:List UInt8}{v:Cv}{t:Tr}:Srt t.toL->(findT k t).isSome=true->(putT k v t).toL=setF k v t.toL:=by
 induction t using Tr.ind with
 |nil=>intro _ h;cases h
 |node b l q u x r ihl ihr=>
  intro hs h;obtain⟨h1,h2,_,_⟩:=srt_parts hs;rw[find_node]at h;rw[put_node];simp only[Tr.toL];rw[set_parts hs];split
  ·rename_i e;rw[if_pos e]at h;simp only[Tr.toL];rw[ihl h1 h]
  ·rename_i e;rw[if_neg e]at h;split
   ·rename_i e2;rw[if_pos e2]at h;simp only[Tr.toL];rw[ihr h2 h]
   ·rename_i e2;have:q=k:=ltK_tri (by simpa using e2) (by simpa using e);subst this;rfl
theorem nd_cells{w:World}{b:Nat}{k:List UInt8}{v:Cv}{x:Nat}{l r:Value}(h:w.heap[b]?=some (.cells (nl.cells k v x l r) nl.ty (0,0))):
  ce w b 0 (sd k)/\(ce w b 1 (ui v.1.1)/\ce w b 2 (ui v.1.2)/\ce w b 3 (sd v.2.key)/\ce w b 4 (sd v.2.val)/\ce w b 5 (.bool v.2.dead))/\ce w b 6 l/\ce w b 7 r/\ce w b 8 (iw (x:Int)):=
 ⟨block_cell h rfl,⟨block_cell h rfl,block_cell h rfl,block_cell h rfl,block_cell h rfl,block_cell h rfl⟩,block_cell h rfl,block_cell h rfl,block_cell h rfl⟩
theorem cv_ext{v u:Cv}(f0:v.1.1=u.1.1)(f1:v.1.2=u.1.2)(f7:bs v.2.key=bs u.2.key)(f8:bs v.2.val=bs u.2.val)(f9:v.2.dead=u.2.dead):v=u:=by
 obtain⟨⟨c,n⟩,key,val,dead⟩:=v;obtain⟨⟨c',n'⟩,key',val',dead'⟩:=u;dsimp only at f0 f1 f7 f8 f9;have g7:key=key':=by rw[<-bs_data key,<-bs_data key',f7]
 have g8:val=val':=by rw[<-bs_data val,<-bs_data val',f8]
 subst f0 f1 g7 g8 f9;rfl
structure Sw(w W:World):Prop where
 heap:W.heap=w.heap
 os:W.os=w.os
 tape:W.tape=w.tape
 output:W.output=w.output
theorem Sw.refl(w:World):Sw w w:=⟨rfl,rfl,rfl,rfl⟩
theorem Sw.drew{w W:World}(h:Sw w W):Sw w W.drew:=⟨h.heap,h.os,h.tape,h.output⟩
theorem Sw.drewN{w W:World}(h:Sw w W)(n:Nat):Sw w (W.drewN n):=⟨h.heap,h.os,h.tape,h.output⟩
theorem Sw.cell{w W:World}(h:Sw w W)(a:Addr):W.cell? a=w.cell? a:=by unfold World.cell?;rw[h.heap]
theorem Sw.below{w W:World}(h:Sw w W)(B:Nat):Below B w W:=⟨h.os,h.tape,h.output,by rw[h.heap];exact Nat.le_refl _,fun k _=>by rw[h.heap]⟩
theorem TrAt.sw{Y:Lay}{t:Tr}{w W:World}(h:TrAt Y t w)(s:Sw w W):TrAt Y t W:=h.on (s.below _)
theorem high27(t:Tr)(w:World)(h:TrAt nl t w):Calls Tryz.prog 254 #[t.ptr] w fun e w'=>e=.returned (iw t.hi)/\w'=w:=by
 cases t using Tr.cas with
 |nil=>
  simp only[Tr.ptr,Tr.hi];go_enter Tryz.func254,Tryz.ntmps254;go_wp2_with fail;go_ret;exact⟨rfl,rfl⟩
 |node b l k v x r=>
  obtain⟨-,-,-,-,c4⟩:=nd_cells h.1;simp only[Tr.ptr,Tr.hi];clear h;generalize (x:Int)=xi at*;go_enter Tryz.func254,Tryz.ntmps254;go_wp2_with fail;go_ret;exact⟨rfl,rfl⟩
theorem measure30{b:Nat}{l r:Tr}{k:List UInt8}{v:Cv}{x:Nat}{w:World}(h:TrAt nl (.node b l k v x r) w)(hl:0<=l.hi/\l.hi<=1000000)(hr:0<=r.hi/\r.hi<=1000000):
  Calls Tryz.prog 257 #[pz b] w fun e w'=>e=.returned (.tuple #[])/\w'.heap[b]?=some (.cells (nl.cells k v (1+max l.hn r.hn) l.ptr r.ptr) nl.ty (0,0))/\Kept (fun i=>i=b) w w':=by
 have H:Hid (w.heap[b]?=some (.cells #[sd k,ui v.1.1,ui v.1.2,sd v.2.key,sd v.2.val,.bool v.2.dead,l.ptr,r.ptr,iw (x:Int)] nl.ty (0,0))):=h.1;obtain⟨-,-,c2,c3,c4⟩:=nd_cells h.1;have f4:=block_frozen h.1 8;have CL:Hid (∀W,Sw w W->Calls Tryz.prog 254 #[l.ptr] W fun e w'=>e=.returned (iw l.hi)/\w'=W):=fun W hs=>high27 l W (h.2.1.sw hs);have CR:Hid (∀W,Sw w W->Calls Tryz.prog 254 #[r.ptr] W fun e w'=>e=.returned (iw r.hi)/\w'=W):=fun W hs=>high27 r W (h.2.2.sw hs);have HH:Hid (((1+max l.hn r.hn:Nat):Int)=1+max l.hi r.hi):=max_hn l r;clear h;generalize 1+max l.hn r.hn=hh at*;generalize l.ptr=lp at*;generalize r.ptr=rp at*;generalize l.hi=a at*;generalize r.hi=c at*;generalize (x:Int)=xi at*;obtain⟨m,hm⟩:=xj (if a<c then c else a);have HM:Hid (1+max a c=1+m):=by show _=_;rw[<-hm];split<;>omega
 have hmb:0<=m/\m<=1000000:=by rw[<-hm];split<;>omega
 obtain⟨hm0,hm1⟩:=hmb;have HW:Hid (IntKind.i64.wrap (1+m)=1+m):=by show _=_;simp[IntKind.wrap,IntKind.bits,IntKind.signed];omega
 clear hl hr hm0 hm1;go_enter Tryz.func257,Tryz.ntmps257;go_wp2_with fail;go_region_held3 (fun W=>ce W b 6 lp/\ce W b 7 rp/\W.frozen? ⟨b,8,none⟩=false) (first|exact⟨c2,c3,f4⟩|exact⟨block_cell (block_set _ H.out) rfl,block_cell (block_set _ H.out) rfl,block_frozen (block_set _ H.out) _⟩) (first
  |(go_at_call_of 254 (lp);refine(CL.out _ (Sw.drew (Sw.refl _))).mono ?_;rintro e W1 ⟨rfl,rfl⟩)
  |(go_at_call_of 254 (rp);refine(CR.out _ (Sw.drew (Sw.refl _))).mono ?_;rintro e W1 ⟨rfl,rfl⟩))
 rw[HW.out];refine bodyPost_end (results_none Tryz.results257 _ _ _) rfl ?_;exact⟨rfl,by show _=some (Obj.cells #[sd k,ui v.1.1,ui v.1.2,sd v.2.key,sd v.2.val,.bool v.2.dead,lp,rp,iw (hh:Int)] nl.ty (0,0));rw[HH.out,HM.out];exact block_set _ H.out,(set_kept' w b 8 _).drew⟩
def Tr.size:Tr->Nat
 |Go.Deep.BT.nil=>0
 |Go.Deep.BT.node _ _ _ l r=>Tr.size l+Tr.size r+1
theorem trAt_unique{w:World}{s:Tr}:∀{t:Tr},TrAt nl s w->TrAt nl t w->s.ptr=t.ptr->s=t:=by
 induction s using Tr.ind with
 |nil=>
  intro t _ _ h;cases t using Tr.cas with
  |nil=>rfl
  |node b l k v x r=>simp[Tr.ptr]at h
 |node b l k v x r ihl ihr=>
  intro t ha hb h;cases t using Tr.cas with
  |nil=>simp[Tr.ptr]at h
  |node c m q u y s=>
   simp only[Tr.ptr,Value.pointer.injEq,Option.some.injEq,Addr.mk.injEq]at h;obtain⟨rfl,_⟩:=h;obtain⟨a1,a2,a3⟩:=ha;obtain⟨b1,b2,b3⟩:=hb;rw[a1]at b1;simp only[nl,Option.some.injEq,Obj.cells.injEq,Array.mk.injEq,List.cons.injEq,Value.string.injEq,Value.int.injEq,Value.bool.injEq]at b1;obtain⟨⟨e0,⟨_,f0⟩,⟨_,f1⟩,f7,f8,f9,e2,e3,⟨_,e4⟩,_⟩,_⟩:=b1;have e1:v=u:=cv_ext f0 f1 f7 f8 f9;have e5:k=q:=by rw[<-bs_data k,<-bs_data q,e0]
   have e6:x=y:=by omega
   rw[e5,e1,e6,ihl a2 b2 e2,ihr a3 b3 e3]
theorem szAt_ex:∃f:World->Value->Nat,∀{w:World} {s:Tr},TrAt nl s w->f w s.ptr=s.size:=by refine⟨fun w n=>@dite Nat (∃s:Tr,TrAt nl s w/\s.ptr=n) (Classical.propDecidable _) (fun h=>h.choose.size) (fun _=>0),fun{w s} h=>?_⟩;have hx:∃s':Tr,TrAt nl s' w/\s'.ptr=s.ptr:=⟨s,h,rfl⟩;show@dite Nat (∃s':Tr,TrAt nl s' w/\s'.ptr=s.ptr) (Classical.propDecidable _) (fun h=>h.choose.size) (fun _=>0)=s.size;rw[dif_pos hx,trAt_unique hx.choose_spec.1 h hx.choose_spec.2]
end Go.Proofs.YtdplfgcoaddbdaaGreat.Lat
