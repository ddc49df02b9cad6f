import Derived.Shelf.Sort.Plain
import Derived.Test.YtdplfgcoaddbdaaGreatXao
set_option maxHeartbeats 4000000
set_option maxRecDepth 100000
set_option linter.unusedVariables false
set_option linter.unusedSimpArgs false
namespace Go.Proofs
open Go.Shelf
def Tryz.lays190_ren:Go.Shelf.Ren:=⟨fun|190=>142|125=>175|258=>194|128=>216|129=>217|302=>227|303=>228|304=>229|305=>230|306=>231|307=>232|308=>233|309=>234|310=>235|333=>258|329=>247|330=>248|334=>259|335=>260|336=>261|344=>269|n=>n,fun|31=>101|9=>9|3=>3|46=>277|0=>0|51=>24|53=>23|4=>4|183=>314|182=>313|131=>318|5=>5|218=>340|222=>344|228=>352|229=>353|n=>n,fun|n=>n⟩
theorem Tryz.lays190:Go.Proofs.Lays.n190 Tryz.prog Tryz.lays190_ren:={mixed:=by kernel_rfl,f125:=Tryz.func175.trans (congrArg some (by kernel_rfl)),f128:=Tryz.func216.trans (congrArg some (by kernel_rfl)),f129:=Tryz.func217.trans (congrArg some (by kernel_rfl)),f190:=Tryz.func142.trans (congrArg some (by kernel_rfl)),f258:=Tryz.func194.trans (congrArg some (by kernel_rfl)),f302:=Tryz.func227.trans (congrArg some (by kernel_rfl)),f303:=Tryz.func228.trans (congrArg some (by kernel_rfl)),f304:=Tryz.func229.trans (congrArg some (by kernel_rfl)),f305:=Tryz.func230.trans (congrArg some (by kernel_rfl)),f306:=Tryz.func231.trans (congrArg some (by kernel_rfl)),f307:=Tryz.func232.trans (congrArg some (by kernel_rfl)),f308:=Tryz.func233.trans (congrArg some (by kernel_rfl)),f309:=Tryz.func234.trans (congrArg some (by kernel_rfl)),f310:=Tryz.func235.trans (congrArg some (by kernel_rfl)),f329:=Tryz.func247.trans (congrArg some (by kernel_rfl)),f330:=Tryz.func248.trans (congrArg some (by kernel_rfl)),f333:=Tryz.func258.trans (congrArg some (by kernel_rfl)),f334:=Tryz.func259.trans (congrArg some (by kernel_rfl)),f335:=Tryz.func260.trans (congrArg some (by kernel_rfl)),f336:=Tryz.func261.trans (congrArg some (by kernel_rfl)),f344:=Tryz.func269.trans (congrArg some (by kernel_rfl)),t0:=Tryz.underlying0,a0:=Tryz.isAgg0,z0:=Tryz.sizeOf0,v0:=Tryz.zeroValue0,t3:=Tryz.underlying3,a3:=Tryz.isAgg3,z3:=Tryz.sizeOf3,v3:=Tryz.zeroValue3,t4:=Tryz.underlying4,a4:=Tryz.isAgg4,z4:=Tryz.sizeOf4,v4:=Tryz.zeroValue4,t5:=Tryz.underlying5,a5:=Tryz.isAgg5,z5:=Tryz.sizeOf5,v5:=Tryz.zeroValue5,t9:=Tryz.underlying9,a9:=Tryz.isAgg9,z9:=Tryz.sizeOf9,v9:=Tryz.zeroValue9,t31:=Tryz.underlying101,a31:=Tryz.isAgg101,z31:=Tryz.sizeOf101,v31:=Tryz.zeroValue101,t46:=Tryz.underlying277,a46:=Tryz.isAgg277,z46:=Tryz.sizeOf277,v46:=Tryz.zeroValue277,t51:=Tryz.underlying24,a51:=Tryz.isAgg24,z51:=Tryz.sizeOf24,v51:=Tryz.zeroValue24,t53:=Tryz.underlying23,a53:=Tryz.isAgg23,z53:=Tryz.sizeOf23,v53:=Tryz.zeroValue23,t131:=Tryz.underlying318,a131:=Tryz.isAgg318,z131:=Tryz.sizeOf318,v131:=Tryz.zeroValue318,t182:=Tryz.underlying313,a182:=Tryz.isAgg313,z182:=Tryz.sizeOf313,v182:=Tryz.zeroValue313,t183:=Tryz.underlying314,a183:=Tryz.isAgg314,z183:=Tryz.sizeOf314,v183:=Tryz.zeroValue314,t218:=Tryz.underlying340,a218:=Tryz.isAgg340,z218:=Tryz.sizeOf340,v218:=Tryz.zeroValue340,t222:=Tryz.underlying344,a222:=Tryz.isAgg344,z222:=Tryz.sizeOf344,v222:=Tryz.zeroValue344,t228:=Tryz.underlying352,a228:=Tryz.isAgg352,z228:=Tryz.sizeOf352,v228:=Tryz.zeroValue352,t229:=Tryz.underlying353,a229:=Tryz.isAgg353,z229:=Tryz.sizeOf353,v229:=Tryz.zeroValue353}
open Go.Sort Go.RowKit in
theorem Tryz.slices_Sort_string(blk off cap:Nat)(ss:List (List UInt8))(w:World)(hH:Holds encStr w blk off ss.toArray)(hblk:blk<w.heap.size)(hsz:ss.length<4611686018427387904):
  Calls Tryz.prog 142 #[.slice (some ⟨blk,off,none⟩) ss.length cap] w fun e w'=>
   e=.returned (.tuple #[])/\∃n os,w'=grow (putRow encStr (Sort.ahead w n) blk off (ss.mergeSort fun x y=>decide (x<=y)).toArray) os:=Any.slices_Sort_string Tryz.lays190 blk off cap ss w hH hblk hsz
end Go.Proofs
namespace Go.Proofs.YtdplfgcoaddbdaaGreat.Lat
open Go.RowKit Go.Sort
def srtK(K:List (List UInt8)):List (List UInt8):=K.mergeSort fun x y=>decide (x<=y)
theorem srtK_perm(K:List (List UInt8)):(srtK K).Perm K:=List.mergeSort_perm _ _
theorem srtK_len(K:List (List UInt8)):(srtK K).length=K.length:=(srtK_perm K).length_eq
theorem ltK_lt(a b:List UInt8):ltK a b=decide (a<b):=bytesLess_eq a b
theorem srtK_le(K:List (List UInt8)):(srtK K).Pairwise fun a b=>decide (a<=b)=true:=
 List.pairwise_mergeSort (fun a b c h1 h2=>by simp only[decide_eq_true_eq]at*;exact List.le_trans h1 h2) (fun a b=>by simp only[Bool.or_eq_true,decide_eq_true_eq];exact List.le_total a b) K
theorem srtK_srt{K:List (List UInt8)}(hn:K.Nodup):(srtK K).Pairwise fun a b=>ltK a b=true:=by
 have h2:(srtK K).Pairwise fun a b=>a≠b:=(srtK_perm K).nodup_iff.2 hn;refine(List.pairwise_and_iff.2 ⟨srtK_le K,h2⟩).imp (fun{a b} ⟨h3,h4⟩=>?_);rw[ltK_lt];simp only[decide_eq_true_eq]at*;by_cases e:a<b
 ·exact e
 ·exact absurd (List.le_antisymm h3 (List.not_lt.1 e)) h4
theorem srtK_eq{α:Type}{K:List (List UInt8)}{L:Kv α}(hn:K.Nodup)(hs:Srt L)(h:∀k,k∈K↔k∈L.map (·.1)):srtK K=L.map (·.1):=by
 have key:∀(Q:List (List UInt8)),(Q.map fun k=>(k,())).map (·.1)=Q:=fun Q=>by rw[List.map_map];exact List.map_id _
 have sA:Srt ((srtK K).map fun k=>(k,())):=by unfold Srt;rw[List.pairwise_map];exact srtK_srt hn
 have sB:Srt ((L.map (·.1)).map fun k=>(k,())):=by unfold Srt;rw[List.pairwise_map,List.pairwise_map];exact hs
 have e:=srt_ext sA sB (fun k=>by
  have m1:∀(Q:List (List UInt8)),Srt (Q.map fun k=>(k,()))->(getF k (Q.map fun k=>(k,()))=some ()↔k∈Q):=fun Q hQ=>by rw[getF_mem hQ,List.mem_map];exact⟨fun⟨a,ha,e⟩=>by injection e with e;exact e▸ha,fun hk=>⟨k,hk,rfl⟩⟩
  have a1:=m1 _ sA;have b1:=m1 _ sB;have ab:k∈srtK K↔k∈L.map (·.1):=((srtK_perm K).mem_iff).trans (h k);cases hA:getF k ((srtK K).map fun k=>(k,()))with
  |some u=>exact(b1.2 (ab.1 (a1.1 (by rw[hA])))).symm
  |none=>
   cases hB:getF k ((L.map (·.1)).map fun k=>(k,()))with
   |none=>rfl
   |some u=>
    have:=a1.2 (ab.2 (b1.1 (by rw[hB])));rw[hA]at this;cases this)
 have:=congrArg (List.map (·.1)) e
 rwa [key,key]at this
theorem sort34(base g cap:Nat)(K:List (List UInt8))(w:World)(h:w.ownsRow base 9 1 (.slice (some ⟨g,0,none⟩) K.length cap) K.length (kc K))(hl:K.length<1000):
  Calls Tryz.prog 142 #[.slice (some ⟨g,0,none⟩) K.length cap] w fun e w'=>e=.returned (.tuple #[])/\RwAt w'.heap.size 1 (.slice (some ⟨g,0,none⟩) K.length cap) K.length (kc (srtK K)) w'/\Kept (fun i=>i=g) w w'/\∃cs,w'.heap[g]?=some (.cells cs 9 (0,0)):=by
 rcases h.2 with⟨e,_⟩|⟨g',cap',cur,e,hb,hg,hnc,hcm,hcs,ht⟩
 ·simp at e
 simp only[Value.slice.injEq,Option.some.injEq,Addr.mk.injEq,true_and,and_true]at e;obtain⟨rfl,rfl⟩:=e;have hlt:g<w.heap.size:=(Array.getElem?_eq_some_iff.1 hg).1;have hH:Holds encStr w g 0 K.toArray:=fun j hj=>by
  have hj':j<K.length:=by simpa using hj
  refine⟨?_,?_⟩
  ·have:=World.ownsRow.cells h (g:=g) rfl j (.string (bs K[j])) (by simp[kc,hj']);rw[Addr.add_lit]at this;rw[this];simp[encStr,bs,hj']
  ·unfold World.frozen?;rw[hg];simp
 refine(Tryz.slices_Sort_string g 0 cap K w hH hlt (by omega)).mono ?_;rintro e w' ⟨rfl,n,os,rfl⟩;have hz:(grow (putRow encStr (Sort.ahead w n) g 0 (K.mergeSort fun x y=>decide (x<=y)).toArray) os).heap.size=w.heap.size+os.size:=by rw[size_grow,size_putRow];rfl
 refine⟨rfl,⟨_,cap,rfl,by rw[kc_length,srtK_len];omega,hnc,by unfold maxLen at hcm;omega,fun _=>⟨g,0,rfl,fun _=>by rw[hz];omega,fun j u hj=>?_⟩⟩,?_,?_⟩
 ·have hj':j<(srtK K).length:=by
   have:=(List.getElem?_eq_some_iff.1 hj).1
   rwa [kc_length]at this
  rw[cell?_grow _ _ _ (by rw[size_putRow];exact hlt)];rw[cell?_putRow encStr (Sort.ahead w n) g 0 K.toArray _ (holds_ahead _ _ _ _ _ _ hH) (by simp[List.length_mergeSort]) j (by simpa[srtK]using hj')];simp[kc,hj']at hj;rw[<-hj];have e:(K.mergeSort fun x y=>decide (x<=y))[j]?=some (srtK K)[j]:=List.getElem?_eq_getElem hj';simp[encStr,bs,e]
 ·refine⟨rfl,rfl,rfl,by rw[hz];omega,fun k hk hn=>?_⟩;rw[heap_grow_old _ _ (by rw[size_putRow];exact hk)];unfold putRow mapBlock;simp only[Sort.ahead];rw[Array.getElem?_modify,if_neg (Ne.symm hn)]
 ·rw[heap_grow_old _ _ (by rw[size_putRow];exact hlt)];refine⟨putCells encStr 0 (K.mergeSort fun x y=>decide (x<=y)).toArray cur,?_⟩;simp[putRow,mapBlock,Sort.ahead,Array.getElem?_modify,hg,onCells]
open Go.RowKit
section
variable {α:Type}
theorem cuts_srt:∀{K:List (List UInt8)} {L:Kv α},Srt L->Srt (cutsF K L)
 |[],_,h=>h
 |k::K,L,h=>by unfold cutsF;exact cuts_srt (cutF_srt h)
theorem cuts_get{q:List UInt8}:∀{K:List (List UInt8)} {L:Kv α},Srt L->getF q (cutsF K L)=if q∈K then none else getF q L
 |[],_,_=>by simp[cutsF]
 |k::K,L,h=>by
  unfold cutsF;rw[cuts_get (cutF_srt h),get_cut h];by_cases e:k=q
  ·subst e;simp
  ·have e1:(k==q)=false:=by simpa using e
   rw[e1];have e2:(q∈k::K)↔q∈K:=by simp[Ne.symm e]
   by_cases e3:q∈K
   ·rw[if_pos e3,if_pos (e2.2 e3)]
   ·rw[if_neg e3,if_neg (fun h=>e3 (e2.1 h))];rfl
theorem cuts_snoc(k:List UInt8):∀(K:List (List UInt8)) (L:Kv α),cutsF (K++[k]) L=cutF k (cutsF K L)
 |[],_=>rfl
 |_::K,L=>cuts_snoc k K (cutF _ L)
theorem cut_le(k:List UInt8):∀(L:Kv α),(cutF k L).length<=L.length
 |[]=>Nat.le_refl _
 |(a,v)::L=>by
  unfold cutF;split
  ·simp
  ·have:=cut_le k L;simp only[List.length_cons];omega
theorem cuts_le:∀(K:List (List UInt8)) (L:Kv α),(cutsF K L).length<=L.length
 |[],_=>Nat.le_refl _
 |k::K,L=>Nat.le_trans (cuts_le K (cutF k L)) (cut_le k L)
end
theorem rest_none{c n:Int}{T:Tb}(h:byF c n T=[]):restF c n T=T:=by unfold restF;rw[List.filter_eq_self];intro x hx;unfold byF at h;rw[List.filter_eq_nil_iff]at h;simpa using h x hx
def restL(c n:Int)(L:Kv Cv):Kv Cv:=L.filter fun x=> !(x.2.1.1==c&&x.2.1.2==n)
theorem is_by{c n:Int}{k:Int×Int}:(k.1==c&&k.2==n)=true↔k=(c,n):=by simp only[Bool.and_eq_true,beq_iff_eq];exact⟨fun h=>Prod.ext h.1 h.2,fun h=>by subst h;exact⟨rfl,rfl⟩⟩
theorem Rel.cuts{L:Kv Cv}{m:Mm}{T:Tb}(h:Rel L m T)(c n:Int):cutsF ((byF c n T).map (·.1)) L=restL c n L:=by
 refine srt_ext (cuts_srt h.srt) (filter_srt h.srt _) (fun q=>?_);rw[cuts_get h.srt];have hq:q∈(byF c n T).map (·.1)↔∃v,getF q L=some v/\v.1=(c,n):=by
  rw[List.mem_map];constructor
  ·rintro⟨y,hy,rfl⟩;obtain⟨h1,h2⟩:=List.mem_filter.1 hy;obtain⟨x,hx,rfl⟩:=h.mem h1;exact⟨x.2,(getF_mem h.srt).2 hx,is_by.1 h2⟩
  ·rintro⟨v,hv,e⟩;refine⟨(q,clI m (q,v)),List.mem_filter.2 ⟨?_,is_by.2 e⟩,rfl⟩;rw[h.eq];exact List.mem_map.2 ⟨(q,v),(getF_mem h.srt).1 hv,rfl⟩
 cases hg:getF q L with
 |none=>
  rw[if_neg (fun hh=>by obtain⟨v,hv,_⟩:=hq.1 hh;rw[hg]at hv;cases hv)];cases hf:getF q (restL c n L)with
  |none=>rfl
  |some v=>
   have:=((get_filter h.srt _ q v).1 hf).1;rw[hg]at this;cases this
 |some v=>
  by_cases e:v.1=(c,n)
  ·rw[if_pos (hq.2 ⟨v,hg,e⟩)];cases hf:getF q (restL c n L)with
   |none=>rfl
   |some u=>
    obtain⟨h1,h2⟩:=(get_filter h.srt _ q u).1 hf;rw[hg]at h1;injection h1 with h1;subst h1;rw[is_by.2 e]at h2;cases h2
  ·rw[if_neg (fun hh=>by obtain⟨u,hu,e2⟩:=hq.1 hh;rw[hg]at hu;injection hu with hu;exact e (hu▸e2))];refine((get_filter h.srt _ q v).2 ⟨hg,?_⟩).symm;cases hb:(v.1.1==c&&v.1.2==n)with
   |false=>rfl
   |true=>exact absurd (is_by.1 hb) e
theorem by_rest_other{c n:Int}{k:Int×Int}(hk:(c,n)≠k)(T:Tb):byF k.1 k.2 (restF c n T)=byF k.1 k.2 T:=by
 unfold byF restF;rw[List.filter_filter];refine List.filter_congr (fun x _=>?_);cases h1:ofBy k.1 k.2 x.2 with
 |false=>rfl
 |true=>
  cases h2:ofBy c n x.2 with
  |false=>rfl
  |true=>
   unfold ofBy at h1 h2;simp only[Bool.and_eq_true,beq_iff_eq]at h1 h2;exact absurd (Prod.ext (h2.1.symm.trans h1.1) (h2.2.symm.trans h1.2)) hk
theorem Rel.cut{L:Kv Cv}{m:Mm}{T:Tb}(h:Rel L m T)(c n:Int):Rel (cutsF ((byF c n T).map (·.1)) L) (delM (c,n) m) (restF c n T):=by
 rw[h.cuts];have hne:∀x∈restL c n L,(c,n)≠x.2.1/\x∈L:=fun x hx=>by obtain⟨h1,h2⟩:=List.mem_filter.1 hx;refine⟨fun e=>?_,h1⟩;rw[is_by.2 e.symm]at h2;cases h2
 refine⟨?_,filter_srt h.srt _,fun x hx=>h.key x (hne x hx).2,fun x hx=>?_,nd_delM h.nd,fun k t hk=>?_,h.ok.rest c n⟩
 ·rw[h.eq];unfold restF tblF restL;rw[List.filter_map];refine(List.map_congr_left (fun x hx=>?_)).symm;obtain⟨h1,_⟩:=hne x hx;unfold clI;rw[get_delM h.nd,if_neg h1]
 ·rw[get_delM h.nd,if_neg (hne x hx).1];exact h.has x (hne x hx).2
 ·rw[get_delM h.nd]at hk;split at hk
  ·cases hk
  ·rename_i e;rw[by_rest_other e];exact h.ks k t hk
def laidC(k:Int×Int):List Wr->Kv Cv->Kv Cv
 |[],L=>L
 |w::l,L=>laidC k l (setF w.key (k,w) L)
theorem laidC_snoc(k:Int×Int)(w:Wr):∀(l:List Wr) (L:Kv Cv),laidC k (l++[w]) L=setF w.key (k,w) (laidC k l L)
 |[],_=>rfl
 |_::l,_=>laidC_snoc k w l _
theorem laidC_srt{k:Int×Int}:∀{l:List Wr} {L:Kv Cv},Srt L->Srt (laidC k l L)
 |[],_,h=>h
 |w::l,L,h=>by unfold laidC;exact laidC_srt (setF_srt h)
theorem laidC_mem{k:Int×Int}{x:List UInt8×Cv}:∀{l:List Wr} {L:Kv Cv},x∈laidC k l L->(∃w∈l,x=(w.key,(k,w)))\/x∈L
 |[],_,h=>.inr h
 |w::l,L,h=>by
  rcases laidC_mem (l:=l) h with⟨u,hu,e⟩|e
  ·exact .inl ⟨u,List.mem_cons_of_mem _ hu,e⟩
  ·rcases setF_keys e with e|e
   ·exact .inl ⟨w,List.mem_cons_self ..,e⟩
   ·exact .inr e
theorem map_set{α β:Type}(f:List UInt8×α->β)(k:List UInt8)(v:α):∀(L:Kv α),(setF k v L).map (fun x=>(x.1,f x))=setF k (f (k,v)) (L.map fun x=>(x.1,f x))
 |[]=>rfl
 |(a,u)::L=>by
  simp only[List.map_cons];unfold setF;split
  ·simp only[List.map_cons];rw[map_set f k v L]
  ·split
   ·rfl
   ·rfl
theorem tbl_laid(m:Mm)(k:Int×Int):∀(l:List Wr) (L:Kv Cv),tblF m (laidC k l L)=laidF (fun w=>clI m (w.key,(k,w))) l (tblF m L)
 |[],_=>rfl
 |w::l,L=>by unfold laidC laidF;rw[tbl_laid m k l];unfold tblF;rw[map_set]
theorem laidC_len{k:Int×Int}:∀{l:List Wr} {L:Kv Cv},Srt L->(laidC k l L).length<=L.length+l.length
 |[],_,_=>Nat.le_refl _
 |w::l,L,h=>by have:=laidC_len (k:=k) (l:=l) (L:=setF w.key (k,w) L) (setF_srt h);have h2:=len_set (k:=w.key) (v:=(k,w)) h;unfold laidC;simp only[List.length_cons];split at h2<;>omega
theorem Rel.lay{L:Kv Cv}{m:Mm}{T:Tb}(h:Rel L m T){c n sp sl mp ml:Int}{prim:List UInt8}{l:List Wr}{sv:Option Addr×Nat×Nat}(hno:getM (c,n) m=none)(hr:rightW l=true)(hnew:NewK l T)(hst:0<=mp/\0<=ml):
  Rel (laidC (c,n) l L) (setM (c,n) ⟨sp,sl,mp,ml,prim,sv,srtK (l.map (·.key))⟩ m) (laidF (mkI c n sp sl mp ml prim) l T):=by
 obtain⟨hw,hnd,hl1,_⟩:=right_parts hr;have hby:byF c n T=[]:=by
  have:=h.isSome c n;rw[hno]at this;rcases Nat.eq_zero_or_pos (byF c n T).length with e|e
  ·exact List.length_eq_zero_iff.1 e
  ·simp[e]at this
 have hold:∀x∈L,(c,n)≠x.2.1:=fun x hx e=>by have:=h.has x hx;rw[<-e,hno]at this;cases this
 have hT:tblF (setM (c,n) ⟨sp,sl,mp,ml,prim,sv,srtK (l.map (·.key))⟩ m) L=T:=by rw[h.eq];unfold tblF;refine List.map_congr_left (fun x hx=>?_);unfold clI;rw[get_setM,if_neg (hold x hx)]
 have hf:(fun w:Wr=>clI (setM (c,n) ⟨sp,sl,mp,ml,prim,sv,srtK (l.map (·.key))⟩ m) (w.key,((c,n),w)))=mkI c n sp sl mp ml prim:=by funext w;unfold clI;rw[get_setM,if_pos rfl];rfl
 have hsT:Srt (laidF (mkI c n sp sl mp ml prim) l T):=laid_srt h.ok.srt;refine⟨?_,laidC_srt h.srt,fun x hx=>?_,fun x hx=>?_,nd_setM h.nd,fun k t hk=>?_,⟨hsT,laid_keys (fun w hw'=>wOk_key (hw w hw')) h.ok.keys⟩⟩
 ·rw[tbl_laid,hT,hf]
 ·rcases laidC_mem hx with⟨w,_,rfl⟩|e
  ·rfl
  ·exact h.key x e
 ·rcases laidC_mem hx with⟨w,_,rfl⟩|e
  ·rw[get_setM,if_pos rfl];rfl
  ·rw[get_setM,if_neg (hold x e)];exact h.has x e
 ·rw[get_setM]at hk;split at hk
  ·rename_i e;injection hk with hk;subst hk;rw[<-e];refine⟨srtK_eq hnd (filter_srt hsT _) (fun q=>?_),fun e2=>?_,hst⟩
   ·rw[List.mem_map,List.mem_map];constructor
    ·rintro⟨w,hw',rfl⟩;exact⟨(w.key,mkI c n sp sl mp ml prim w),List.mem_filter.2 ⟨(getF_mem hsT).1 (laid_get h.ok.srt hnd w hw'),by rw[ofBy_mk];simp⟩,rfl⟩
    ·rintro⟨y,hy,rfl⟩;obtain⟨h1,h2⟩:=List.mem_filter.1 hy;by_cases hk:∃w∈l,w.key=y.1
     ·exact hk
     ·have h3:=(getF_mem hsT).2 h1;rw[laid_other h.ok.srt (fun w hw' e3=>hk ⟨w,hw',e3⟩)]at h3;have h4:y∈byF c n T:=List.mem_filter.2 ⟨(getF_mem h.ok.srt).1 h3,h2⟩;rw[hby]at h4;cases h4
   ·have:=srtK_len (l.map (·.key));simp only at e2;rw[e2]at this;simp only[List.length_nil,List.length_map]at this;omega
  ·rename_i e;have hb:byF k.1 k.2 (laidF (mkI c n sp sl mp ml prim) l T)=byF k.1 k.2 T:=by
    refine srt_ext (filter_srt hsT _) (filter_srt h.ok.srt _) (fun q=>?_);by_cases hq:∃w∈l,w.key=q
    ·obtain⟨w,hw',rfl⟩:=hq;have a1:getF w.key (byF k.1 k.2 (laidF (mkI c n sp sl mp ml prim) l T))=none:=by
      cases hf2:getF w.key (byF k.1 k.2 (laidF (mkI c n sp sl mp ml prim) l T))with
      |none=>rfl
      |some v=>
       obtain⟨g1,g2⟩:=(get_filter hsT _ _ v).1 hf2;rw[laid_get h.ok.srt hnd w hw']at g1;injection g1 with g1;subst g1;rw[ofBy_mk]at g2;simp only[Bool.and_eq_true,beq_iff_eq]at g2;exact absurd (Prod.ext g2.1 g2.2) e
     have a2:getF w.key (byF k.1 k.2 T)=none:=by
      cases hf2:getF w.key (byF k.1 k.2 T)with
      |none=>rfl
      |some v=>
       have:=((get_filter h.ok.srt _ _ v).1 hf2).1;rw[hnew w hw']at this;cases this
     rw[a1,a2]
    ·have e1:=laid_other (f:=mkI c n sp sl mp ml prim) (k:=q) h.ok.srt (fun w hw' e3=>hq ⟨w,hw',e3⟩);cases hf2:getF q (byF k.1 k.2 T)with
     |some v=>
      obtain⟨g1,g2⟩:=(get_filter h.ok.srt _ _ v).1 hf2;exact(get_filter hsT _ _ v).2 ⟨e1.trans g1,g2⟩
     |none=>
      cases hf3:getF q (byF k.1 k.2 (laidF (mkI c n sp sl mp ml prim) l T))with
      |none=>rfl
      |some v=>
       obtain⟨g1,g2⟩:=(get_filter hsT _ _ v).1 hf3;have:=(get_filter h.ok.srt (fun x=>ofBy k.1 k.2 x.2) q v).2 ⟨e1.symm.trans g1,g2⟩;rw[show List.filter (fun x=>ofBy k.1 k.2 x.2) T=byF k.1 k.2 T from rfl,hf2]at this;cases this
   rw[hb];exact h.ks k t hk
def svV(t:Tm):Value:=.slice t.sv.1 t.sv.2.1 t.sv.2.2
structure Kr(B p pm hb:Nat)(t:Tr)(x:Tm)(w:World):Prop where
 row:RwAt w.heap.size 1 (svV x) x.kl.length (kc x.kl) w
 pos:0<x.kl.length
 far:∀i,(svV x).ownBlock=some i->i≠p/\i≠pm/\i≠hb/\i∉t.blocks/\B<=i/\i<w.heap.size
 tg:∀i,(svV x).ownBlock=some i->∃cs,w.heap[i]?=some (.cells cs 9 (0,0))
structure Tx(B p pm hb:Nat)(t:Tr)(m:Mm)(w:World):Prop where
 box:w.heap[p]?=some (.cells #[pz pm,.map (some hb)] 126 (0,0))
 map:Mp B pm t w
 gm:GmAt hb m w
 rows:∀x∈m,Kr B p pm hb t x.2 w
 sep:p≠pm/\p≠hb/\pm≠hb/\p∉t.blocks/\hb∉t.blocks/\B<=p/\B<=hb
def footT(p pm hb:Nat)(t:Tr)(m:Mm):Nat->Prop:=fun i=>i=p\/i=hb\/foot8 pm t i\/∃x∈m,(svV x.2).ownBlock=some i
theorem rw_keep{sz n:Nat}{v:Value}{cs:List Value}{w w':World}{G:Nat->Prop}(h:RwAt w.heap.size sz v n cs w)(hk:Kept G w w')(hn:0<n->∀k,v.ownBlock=some k->¬G k):RwAt w'.heap.size sz v n cs w':=by
 obtain⟨ao,cap,rfl,h1,h2,h3,h4⟩:=h;refine⟨ao,cap,rfl,h1,h2,h3,fun h0=>?_⟩;obtain⟨b,off,rfl,h5,h6⟩:=h4 h0;refine⟨b,off,rfl,fun h9=>Nat.lt_of_lt_of_le (h5 h9) hk.size,fun j u hj=>?_⟩;have hn0:0<n:=by
  rcases Nat.eq_zero_or_pos n with e|e
  ·have:=(List.getElem?_eq_some_iff.1 hj).1;rw[h1,e]at this;omega
  ·exact e
 exact Kept.cell hk (h6 j u hj) (hn hn0 b rfl)
theorem Tx.lt{B p pm hb:Nat}{t:Tr}{m:Mm}{w:World}(h:Tx B p pm hb t m w){i:Nat}(hi:footT p pm hb t m i):B<=i/\i<w.heap.size:=by
 obtain⟨_,_,_,_,_,s6,s7⟩:=h.sep;rcases hi with rfl|rfl|(rfl|e)|⟨x,hx,e⟩
 ·exact⟨s6,(gsz h.box)⟩
 ·exact⟨s7,h.gm.lt⟩
 ·exact⟨h.map.low.1,(gsz h.map.box)⟩
 ·exact⟨h.map.low.2 i e,h.map.ok.lt i e⟩
 ·obtain⟨_,_,_,_,f1,f2⟩:=(h.rows x hx).far i e;exact⟨f1,f2⟩
theorem Tx.kept{B p pm hb:Nat}{t:Tr}{m:Mm}{w w':World}{G:Nat->Prop}(h:Tx B p pm hb t m w)(hk:Kept G w w')(hG:∀i,footT p pm hb t m i->¬G i):Tx B p pm hb t m w':=by
 refine⟨?_,h.map.kept hk (hG pm (.inr (.inr (.inl (.inl rfl))))) (fun i hi=>hG i (.inr (.inr (.inl (.inr hi))))),h.gm.kept hk (hG hb (.inr (.inl rfl))),fun x hx=>?_,h.sep⟩
 ·rw[hk.block p (gsz h.box) (hG p (.inl rfl))];exact h.box
 ·have hr:=h.rows x hx;refine⟨rw_keep hr.row hk (fun _ k e=>hG k (.inr (.inr (.inr ⟨x,hx,e⟩)))),hr.pos,fun i e=>?_,fun i e=>by rw[hk.block i (hr.far i e).2.2.2.2.2 (hG i (.inr (.inr (.inr ⟨x,hx,e⟩))))];exact hr.tg i e⟩;obtain⟨f1,f2,f3,f4,f5,f6⟩:=hr.far i e;exact⟨f1,f2,f3,f4,f5,Nat.lt_of_lt_of_le f6 hk.size⟩
theorem Tx.on{B p pm hb:Nat}{t:Tr}{m:Mm}{w w':World}(h:Tx B p pm hb t m w)(hb':Below w.heap.size w w'):Tx B p pm hb t m w':=h.kept (Kept.of_below (F:=fun _=>False) hb') (fun _ _ h=>h)
theorem Tx.cells{B p pm hb:Nat}{t:Tr}{m:Mm}{w:World}(h:Tx B p pm hb t m w):w.cell? ⟨p,0,none⟩=some (pz pm)/\w.cell? ⟨p,1,none⟩=some (.map (some hb)):=⟨block_cell h.box rfl,block_cell h.box rfl⟩
theorem Tx.claims{B p pm hb:Nat}{t:Tr}{m:Mm}{L:Kv Cv}{w W:World}(h:Tx B p pm hb t m w)(hp:Post B pm (foot8 pm t) L w W):∃t',t'.toL=L/\Tx B p pm hb t' m W/\Kept (foot8 pm t) w W/\∀i,foot8 pm t' i->foot8 pm t i\/w.heap.size<=i:=by
 obtain⟨F',⟨t',hm,rfl,rfl⟩,hk,hn⟩:=hp;obtain⟨s1,s2,s3,s4,s5,s6,s7⟩:=h.sep;have new:∀i,i<w.heap.size->i≠pm->i∉t.blocks->i∉t'.blocks:=fun i hi h1 h2 h3=>by
  rcases hn i (.inr h3)with(e|e)|e
  ·exact h1 e
  ·exact h2 e
  ·omega
 have hpl:=(gsz h.box);refine⟨t',rfl,⟨?_,hm,h.gm.kept hk ?_,fun x hx=>?_,s1,s2,s3,new p hpl s1 s4,new hb h.gm.lt (Ne.symm s3) s5,s6,s7⟩,hk,hn⟩
 ·rw[hk.block p hpl (fun e=>by rcases e with e|e;exact s1 e;exact s4 e)];exact h.box
 ·exact fun e=>by rcases e with e|e;exact s3 e.symm;exact s5 e
 ·have hr:=h.rows x hx;refine⟨rw_keep hr.row hk (fun _ k e=>?_),hr.pos,fun i e=>?_,fun i e=>by rw[hk.block i (hr.far i e).2.2.2.2.2 (fun e2=>by rcases e2 with e2|e2;exact(hr.far i e).2.1 e2;exact(hr.far i e).2.2.2.1 e2)];exact hr.tg i e⟩
  ·obtain⟨f1,f2,f3,f4,f5,f6⟩:=hr.far k e;exact fun e2=>by rcases e2 with e2|e2;exact f2 e2;exact f4 e2
  ·obtain⟨f1,f2,f3,f4,f5,f6⟩:=hr.far i e;exact⟨f1,f2,f3,new i f6 f2 f4,f5,Nat.lt_of_lt_of_le f6 hk.size⟩
theorem Tx.terms{B p pm hb:Nat}{t:Tr}{m m':Mm}{w W:World}(h:Tx B p pm hb t m w)(hg:GmAt hb m' W)(hk:Kept (fun i=>i=hb) w W)(hr:∀x∈m',(∃y∈m,svV y.2=svV x.2/\y.2.kl=x.2.kl)\/Kr B p pm hb t x.2 w):Tx B p pm hb t m' W:=by
 obtain⟨s1,s2,s3,s4,s5,s6,s7⟩:=h.sep;refine⟨?_,h.map.kept hk s3 (fun i hi e=>s5 (e▸hi)),hg,fun x hx=>?_,h.sep⟩
 ·rw[hk.block p (gsz h.box) s2];exact h.box
 ·have hx':Kr B p pm hb t x.2 w:=by
   rcases hr x hx with⟨y,hy,e1,e2⟩|e
   ·have:=h.rows y hy;exact⟨by rw[<-e1,<-e2];exact this.row,by rw[<-e2];exact this.pos,by rw[<-e1];exact this.far,by rw[<-e1];exact this.tg⟩
   ·exact e
  refine⟨rw_keep hx'.row hk (fun _ k e=>(hx'.far k e).2.2.1),hx'.pos,fun i e=>?_,fun i e=>by rw[hk.block i (hx'.far i e).2.2.2.2.2 (hx'.far i e).2.2.1];exact hx'.tg i e⟩;obtain⟨f1,f2,f3,f4,f5,f6⟩:=hx'.far i e;exact⟨f1,f2,f3,f4,f5,Nat.lt_of_lt_of_le f6 hk.size⟩
def TabAt(B p:Nat)(M:Nat->Prop)(T:Tb)(w:World):Prop:=∃pm hb t m,Tx B p pm hb t m w/\Rel t.toL m T/\M=footT p pm hb t m
structure Zb(W0 W1:World):Prop where
 bel:Below W0.heap.size W0 W1
 c0:W1.cell? ⟨W0.heap.size,0,none⟩=some (uw 0)
 f0:W1.frozen? ⟨W0.heap.size,0,none⟩=false
 c1:W1.cell? ⟨W0.heap.size,1,none⟩=some (ui 0)
 f1:W1.frozen? ⟨W0.heap.size,1,none⟩=false
 c2:W1.cell? ⟨W0.heap.size,2,none⟩=some (uw 0)
 f2:W1.frozen? ⟨W0.heap.size,2,none⟩=false
 c3:W1.cell? ⟨W0.heap.size,3,none⟩=some (ui 0)
 f3:W1.frozen? ⟨W0.heap.size,3,none⟩=false
 c4:W1.cell? ⟨W0.heap.size,4,none⟩=some su
 f4:W1.frozen? ⟨W0.heap.size,4,none⟩=false
 c5:W1.cell? ⟨W0.heap.size,5,none⟩=some sy
 f5:W1.frozen? ⟨W0.heap.size,5,none⟩=false
theorem zb_new(W0:World):Zb W0 (W0.alloc (.cells #[uw 0,ui 0,uw 0,ui 0,su,sy] 242)):=
 have h:=heap_alloc_new W0 (.cells #[uw 0,ui 0,uw 0,ui 0,su,sy] 242)
 ⟨al _,block_cell h rfl,block_frozen h _,block_cell h rfl,block_frozen h _,block_cell h rfl,block_frozen h _,block_cell h rfl,block_frozen h _,block_cell h rfl,block_frozen h _,block_cell h rfl,block_frozen h _⟩
theorem set_six{B b:Nat}{w W:World}(v0 v1 v2 v3 v4 v5:Value)(h:Below B w W)(hb:B<=b):Below B w ((((((W.setCell ⟨b,0,none⟩ v0).setCell ⟨b,1,none⟩ v1).setCell ⟨b,2,none⟩ v2).setCell ⟨b,3,none⟩ v3).setCell ⟨b,4,none⟩ v4).setCell ⟨b,5,none⟩ v5):=(((((h.setCell (p:=⟨b,0,none⟩) hb _).setCell (p:=⟨b,1,none⟩) hb _).setCell (p:=⟨b,2,none⟩) hb _).setCell (p:=⟨b,3,none⟩) hb _).setCell (p:=⟨b,4,none⟩) hb _).setCell (p:=⟨b,5,none⟩) hb _
theorem has29{B p pm hb:Nat}{t:Tr}{m:Mm}{w:World}(c n:Int)(h:Tx B p pm hb t m w):Calls Tryz.prog 137 #[pz p,.agg #[ui c,ui n]] w fun e w'=>e=.returned (.bool (getM (c,n) m).isSome)/\Below w.heap.size w w':=by
 obtain⟨W0,hW0⟩:=xj (w.alloc (.cells #[ui c,ui n] 26));have hb0:Below w.heap.size w W0:=by rw[<-hW0];exact al _
 have hx0:W0.heap[w.heap.size]?=some (.cells #[ui c,ui n] 26 (0,0)):=by rw[<-hW0];exact heap_alloc_new w _
 have z0:W0.cell? ⟨w.heap.size,0,none⟩=some (ui c):=block_cell hx0 rfl;have z1:W0.cell? ⟨w.heap.size,1,none⟩=some (ui n):=block_cell hx0 rfl;have h0:=h.on hb0;obtain⟨-,c1⟩:=h0.cells;have q0:(Instr.lookup 124 (.map (some hb)) (.agg #[ui c,ui n]) true).run Tryz.prog W0=.ok (.tuple #[tmV ((getM (c,n) m).getD zt),.bool (getM (c,n) m).isSome]) W0:=run_look2 h0.gm (c,n);have q1:(Instr.lookup 124 (.map (some hb)) (.agg #[ui c,ui n]) true).run Tryz.prog W0.drew=.ok (.tuple #[tmV ((getM (c,n) m).getD zt),.bool (getM (c,n) m).isSome]) W0.drew:=run_look2 (w:=W0.drew) h0.gm (c,n);obtain⟨W1,hW1⟩:=xj (W0.alloc (.cells #[uw 0,ui 0,uw 0,ui 0,su,sy] 242));have hz1:Zb W0 W1:=by rw[<-hW1];exact zb_new W0
 have h1:=h0.on hz1.bel;obtain⟨-,c2⟩:=h1.cells;have q2:(Instr.lookup 124 (.map (some hb)) (.agg #[ui c,ui n]) true).run Tryz.prog W1.drew=.ok (.tuple #[tmV ((getM (c,n) m).getD zt),.bool (getM (c,n) m).isSome]) W1.drew:=run_look2 (w:=W1.drew) h1.gm (c,n);have hl0:w.heap.size<W0.heap.size:=(gsz hx0);have y0:W1.cell? ⟨w.heap.size,0,none⟩=some (ui c):=by rw[hz1.bel.cell hl0];exact z0
 have y1:W1.cell? ⟨w.heap.size,1,none⟩=some (ui n):=by rw[hz1.bel.cell hl0];exact z1
 have HB:Hid (Below w.heap.size w W0):=hb0;have HB1:Hid (Below w.heap.size w W1):=hb0.trans (hz1.bel.mono hb0.size);have HL:w.heap.size<=W0.heap.size:=hb0.size;obtain⟨-,x0,f0,x1,f1,x2,f2,x3,f3,x4,f4,x5,f5⟩:=hz1;clear h h0 h1 hb0 hx0 hl0;generalize (getM (c,n) m).isSome=z at*;generalize (getM (c,n) m).getD zt=v at*;simp only[tmV]at q0 q1 q2;obtain⟨bx,hbx⟩:=xj w.heap.size;rw[hbx]at z0 z1 y0 y1;obtain⟨by1,hby⟩:=xj W0.heap.size;rw[hby]at x0 x1 x2 x3 x4 x5 f0 f1 f2 f3 f4 f5 HL;have HL':Hid (w.heap.size<=by1):=HL;have G2:Hid (∀v0 v1 v2 v3 v4 v5,Below w.heap.size w ((((((W1.setCell ⟨by1,0,none⟩ v0).setCell ⟨by1,1,none⟩ v1).setCell ⟨by1,2,none⟩ v2).setCell ⟨by1,3,none⟩ v3).setCell ⟨by1,4,none⟩ v4).setCell ⟨by1,5,none⟩ v5).drew):=fun _ _ _ _ _ _=>(set_six _ _ _ _ _ _ HB1.out HL'.out).drew;clear HL HL' HB HB1;go_enter Tryz.func137,Tryz.ntmps137;go_wp2_with fail;go_region;go_wp2_with fail;go_ret;exact⟨rfl,G2.out _ _ _ _ _ _⟩
end Go.Proofs.YtdplfgcoaddbdaaGreat.Lat
