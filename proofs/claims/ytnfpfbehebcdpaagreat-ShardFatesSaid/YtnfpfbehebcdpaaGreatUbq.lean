import Derived.Shelf.Sort.Plain
import Derived.Test.YtnfpfbehebcdpaaGreatUzz
import Derived.Test.YtnfpfbehebcdpaaGreatUan
set_option maxHeartbeats 0
set_option maxRecDepth 99999
set_option linter.all false
namespace Go.Proofs
open Go.Shelf
def Tryz.afo:Go.Shelf.Ren:=⟨λ|190=>116|125=>180|258=>179|128=>224|129=>204|302=>215|303=>216|304=>217|305=>218|306=>219|307=>220|308=>221|309=>222|310=>223|333=>243|329=>244|330=>245|334=>246|335=>247|336=>248|344=>264|n=>n,λ|31=>80|9=>9|3=>3|46=>267|0=>0|51=>34|53=>33|4=>4|183=>308|182=>307|131=>313|5=>5|218=>329|222=>333|228=>344|229=>345|n=>n,λ|n=>n⟩
def Tryz.lays190:Go.Proofs.Lays.n190 Tryz.prog Tryz.afo:={mixed:=by kernel_rfl,f125:=Tryz.func180.trans (congrArg some (by kernel_rfl)),f128:=Tryz.func224.trans (congrArg some (by kernel_rfl)),f129:=Tryz.func204.trans (congrArg some (by kernel_rfl)),f190:=Tryz.func116.trans (congrArg some (by kernel_rfl)),f258:=Tryz.func179.trans (congrArg some (by kernel_rfl)),f302:=Tryz.func215.trans (congrArg some (by kernel_rfl)),f303:=Tryz.func216.trans (congrArg some (by kernel_rfl)),f304:=Tryz.func217.trans (congrArg some (by kernel_rfl)),f305:=Tryz.func218.trans (congrArg some (by kernel_rfl)),f306:=Tryz.func219.trans (congrArg some (by kernel_rfl)),f307:=Tryz.func220.trans (congrArg some (by kernel_rfl)),f308:=Tryz.func221.trans (congrArg some (by kernel_rfl)),f309:=Tryz.func222.trans (congrArg some (by kernel_rfl)),f310:=Tryz.func223.trans (congrArg some (by kernel_rfl)),f329:=Tryz.func244.trans (congrArg some (by kernel_rfl)),f330:=Tryz.func245.trans (congrArg some (by kernel_rfl)),f333:=Tryz.func243.trans (congrArg some (by kernel_rfl)),f334:=Tryz.func246.trans (congrArg some (by kernel_rfl)),f335:=Tryz.func247.trans (congrArg some (by kernel_rfl)),f336:=Tryz.func248.trans (congrArg some (by kernel_rfl)),f344:=Tryz.func264.trans (congrArg some (by kernel_rfl)),t0:=Tryz.underlying0,a0:=Tryz.isAgg0,z0:=Tryz.sizeOf0,v0:=Tryz.zeroValue0,t3:=Tryz.underlying3,a3:=Tryz.isAgg3,z3:=Tryz.sizeOf3,v3:=Tryz.zeroValue3,t4:=Tryz.underlying4,a4:=Tryz.isAgg4,z4:=Tryz.sizeOf4,v4:=Tryz.zeroValue4,t5:=Tryz.underlying5,a5:=Tryz.isAgg5,z5:=Tryz.sizeOf5,v5:=Tryz.zeroValue5,t9:=Tryz.underlying9,a9:=Tryz.isAgg9,z9:=Tryz.sizeOf9,v9:=Tryz.zeroValue9,t31:=Tryz.underlying80,a31:=Tryz.isAgg80,z31:=Tryz.sizeOf80,v31:=Tryz.zeroValue80,t46:=Tryz.underlying267,a46:=Tryz.isAgg267,z46:=Tryz.sizeOf267,v46:=Tryz.zeroValue267,t51:=Tryz.underlying34,a51:=Tryz.isAgg34,z51:=Tryz.sizeOf34,v51:=Tryz.zeroValue34,t53:=Tryz.underlying33,a53:=Tryz.isAgg33,z53:=Tryz.sizeOf33,v53:=Tryz.zeroValue33,t131:=Tryz.underlying313,a131:=Tryz.isAgg313,z131:=Tryz.sizeOf313,v131:=Tryz.zeroValue313,t182:=Tryz.underlying307,a182:=Tryz.isAgg307,z182:=Tryz.sizeOf307,v182:=Tryz.zeroValue307,t183:=Tryz.underlying308,a183:=Tryz.isAgg308,z183:=Tryz.sizeOf308,v183:=Tryz.zeroValue308,t218:=Tryz.underlying329,a218:=Tryz.isAgg329,z218:=Tryz.sizeOf329,v218:=Tryz.zeroValue329,t222:=Tryz.underlying333,a222:=Tryz.isAgg333,z222:=Tryz.sizeOf333,v222:=Tryz.zeroValue333,t228:=Tryz.underlying344,a228:=Tryz.isAgg344,z228:=Tryz.sizeOf344,v228:=Tryz.zeroValue344,t229:=Tryz.underlying345,a229:=Tryz.isAgg345,z229:=Tryz.sizeOf345,v229:=Tryz.zeroValue345}
open Go.Sort Go.RowKit in
def Tryz.slices_Sort_string(blk off cap:Nat)(ss:List (List UInt8))(w:World)(hH:Holds encStr w blk off ss.toArray)(hblk:blk<w.heap.size)(hsz:ss.length<4611686018427387904):
  Calls Tryz.prog 116 #[.slice (some ⟨blk,off,none⟩) ss.length cap] w λe w'=>
   e=.returned (.tuple #[])/\∃n os,w'=grow (putRow encStr (Sort.ahead w n) blk off (ss.mergeSort λx y=>decide (x<=y)).toArray) os:=Any.slices_Sort_string Tryz.lays190 blk off cap ss w hH hblk hsz
end Go.Proofs
namespace Go.Proofs.YtnfpfbehebcdpaaGreat.Lat
open Go.RowKit Go.Sort
def srtK(K:List Bi):List Bi:=K.mergeSort λx y=>decide (x<=y)
def V6(K:List Bi):(srtK K).Perm K:=List.mergeSort_perm _ _
def U0(K:List Bi):(srtK K).length=K.length:=(V6 K).length_eq
def ayr(a b:Bi):ltK a b=decide (a<b):=bytesLess_eq a b
def asr(K:List Bi):(srtK K).Pairwise λa b=>decide (a<=b)=true:=
 List.pairwise_mergeSort (λa b c h1 h2=>by simp only[jc]at*;exact List.le_trans h1 h2) (λa b=>by simp only[Bool.or_eq_true,jc];exact List.le_total a b) K
def an0{K:List Bi}(hn:K.Nodup):(srtK K).Pairwise λa b=>ltK a b=true:=by
 have h2:(srtK K).Pairwise λa b=>a≠b:=(V6 K).nodup_iff.2 hn;refine(List.pairwise_and_iff.2 ⟨asr K,h2⟩).imp (λ{a b} ⟨h3,h4⟩=>?_);rw[ayr];simp only[jc]at*;by_cases e:a<b
 .exact e
 .exact absurd (List.le_antisymm h3 (List.not_lt.1 e)) h4
def ass{α:Type}{K:List Bi}{L:Kv α}(hn:K.Nodup)(hs:Srt L)(h:∀k,k∈K↔k∈L.map (·.1)):srtK K=L.map (·.1):=by
 have key:∀(Q:List Bi),(Q.map λk=>(k,())).map (·.1)=Q:=λQ=>by rw[List.map_map];exact List.map_id _
 have sA:Srt ((srtK K).map λk=>(k,())):=by unfold Srt;rw[yu];exact an0 hn
 have sB:Srt ((L.map (·.1)).map λk=>(k,())):=by unfold Srt;rw[yu,yu];exact hs
 have e:=Ls sA sB (λk=>by
  have m1:∀(Q:List Bi),Srt (Q.map λk=>(k,()))->(getF k (Q.map λk=>(k,()))=some ()↔k∈Q):=λQ hQ=>by rw[Dy hQ,je];exact⟨λ⟨a,ha,e⟩=>by injection e with e;exact e▸ha,λhk=>⟨k,hk,rfl⟩⟩
  have a1:=m1 _ sA;have b1:=m1 _ sB;have ab:k∈srtK K↔k∈L.map (·.1):=((V6 K).mem_iff).trans (h k);cases hA:getF k ((srtK K).map λk=>(k,()))with
  |some u=>exact(b1.2 (ab.1 (a1.1 (by rw[hA])))).symm
  |none=>
   cases hB:getF k ((L.map (·.1)).map λk=>(k,()))with
   |none=>rfl
   |some u=>
    have:=a1.2 (ab.2 (b1.1 (by rw[hB])));rw[hA]at this;cases this)
 have:=iq (List.map (·.1)) e
 rwa [key,key]at this
def axn(base g cap:Nat)(K:List Bi)(w:World)(h:w.ownsRow base 9 1 (.slice (some ⟨g,0,none⟩) K.length cap) K.length (kc K))(hl:K.length<1000):
  cpr 116 #[.slice (some ⟨g,0,none⟩) K.length cap] w λe w'=>e=.returned (.tuple #[])/\RwAt w'.heap.size 1 (.slice (some ⟨g,0,none⟩) K.length cap) K.length (kc (srtK K)) w'/\Kept (λi=>i=g) w w'/\∃cs,w'.heap[g]?=some (.cells cs 9 (0,0)):=by
 rcases h.2 with⟨e,_⟩|⟨g',cap',cur,e,hb,hg,hnc,hcm,hcs,ht⟩
 .simp at e
 simp only[ku,ja,Addr.mk.injEq,true_and,and_true]at e;obtain⟨rfl,rfl⟩:=e;have hlt:g<w.heap.size:=(lq.1 hg).1;have hH:Holds encStr w g 0 K.toArray:=λj hj=>by
  have hj':j<K.length:=by simpa using hj
  refine⟨?_,?_⟩
  .have:=World.ownsRow.cells h (g:=g) rfl j (.string (bs K[j])) (by simp[kc,hj']);rw[uo]at this;rw[this];simp[encStr,bs,hj']
  .unfold World.frozen?;rw[hg];simp
 refine(Tryz.slices_Sort_string g 0 cap K w hH hlt (by omega)).mono ?_;rintro e w' ⟨rfl,n,os,rfl⟩;have hz:(grow (putRow encStr (Sort.ahead w n) g 0 (K.mergeSort λx y=>decide (x<=y)).toArray) os).heap.size=w.heap.size+os.size:=by rw[size_grow,size_putRow];rfl
 refine⟨rfl,⟨_,cap,rfl,by rw[Nb,U0];omega,hnc,by unfold maxLen at hcm;omega,λ_=>⟨g,0,rfl,λ_=>by rw[hz];omega,λj u hj=>?_⟩⟩,?_,?_⟩
 .have hj':j<(srtK K).length:=by
   have:=(gu.1 hj).1
   rwa [Nb]at this
  rw[cell?_grow _ _ _ (by rw[size_putRow];exact hlt)];rw[cell?_putRow encStr (Sort.ahead w n) g 0 K.toArray _ (holds_ahead _ _ _ _ _ _ hH) (by simp[List.length_mergeSort]) j (by simpa[srtK]using hj')];simp[kc,hj']at hj;rw[<-hj];have e:(K.mergeSort λx y=>decide (x<=y))[j]?=some (srtK K)[j]:=bf hj';simp[encStr,bs,e]
 .refine⟨rfl,rfl,rfl,by rw[hz];omega,λk hk hn=>?_⟩;rw[heap_grow_old _ _ (by rw[size_putRow];exact hk)];unfold putRow mapBlock;simp only[Sort.ahead];rw[qg,ag (Ne.symm hn)]
 .rw[heap_grow_old _ _ (by rw[size_putRow];exact hlt)];refine⟨putCells encStr 0 (K.mergeSort λx y=>decide (x<=y)).toArray cur,?_⟩;simp[putRow,mapBlock,Sort.ahead,qg,hg,onCells]
open Go.RowKit
section
variable {α:Type}
def af7:∀{K:List Bi} {L:Kv α},Srt L->Srt (Jr K L)
 |[],_,h=>h
 |k::K,L,h=>by unfold Jr;exact af7 (Jn h)
def af8{q:Bi}:∀{K:List Bi} {L:Kv α},Srt L->getF q (Jr K L)=if q∈K then none else getF q L
 |[],_,_=>by simp[Jr]
 |k::K,L,h=>by
  unfold Jr;rw[af8 (Jn h),Vm h];by_cases e:k=q
  .subst e;simp
  .have e1:(k==q)=false:=by simpa using e
   rw[e1];have e2:(q∈k::K)↔q∈K:=by simp[Ne.symm e]
   by_cases e3:q∈K
   .rw[ah e3,ah (e2.2 e3)]
   .rw[ag e3,ag (λh=>e3 (e2.1 h))];rfl
def ach(k:Bi):∀(K:List Bi) (L:Kv α),Jr (K++[k]) L=cutF k (Jr K L)
 |[],_=>rfl
 |_::K,L=>ach k K (cutF _ L)
def ara(k:Bi):∀(L:Kv α),(cutF k L).length<=L.length
 |[]=>ai _
 |(a,v)::L=>by
  unfold cutF;split
  .simp
  .have:=ara k L;simp only[bg];omega
def aki:∀(K:List Bi) (L:Kv α),(Jr K L).length<=L.length
 |[],_=>ai _
 |k::K,L=>ak (aki K (cutF k L)) (ara k L)
end
def rest_none{c n:Int}{T:Tb}(h:byF c n T=[]):Ee c n T=T:=by unfold Ee;rw[o5];intro x hx;unfold byF at h;rw[xx]at h;simpa using h x hx
def ae7(c n:Int)(L:Kv Cv):Kv Cv:=L.filter λx=> !(x.2.1.1==c&&x.2.1.2==n)
def aft{c n:Int}{k:Int×Int}:(k.1==c&&k.2==n)=true↔k=(c,n):=by simp only[cu,uq];exact⟨λh=>Prod.ext h.1 h.2,λh=>by subst h;exact⟨rfl,rfl⟩⟩
def Rel.cuts{L:Kv Cv}{m:Mm}{T:Tb}(h:Rel L m T)(c n:Int):Jr ((byF c n T).map (·.1)) L=ae7 c n L:=by
 refine Ls (af7 h.srt) (Gf h.srt _) (λq=>?_);rw[af8 h.srt];have hq:q∈(byF c n T).map (·.1)↔∃v,getF q L=some v/\v.1=(c,n):=by
  rw[je];constructor
  .rintro⟨y,hy,rfl⟩;obtain⟨h1,h2⟩:=jh.1 hy;obtain⟨x,hx,rfl⟩:=h.mem h1;exact⟨x.2,(Dy h.srt).2 hx,aft.1 h2⟩
  .rintro⟨v,hv,e⟩;refine⟨(q,clI m (q,v)),jh.2 ⟨?_,aft.2 e⟩,rfl⟩;rw[h.eq];exact je.2 ⟨(q,v),(Dy h.srt).1 hv,rfl⟩
 cases hg:getF q L with
 |none=>
  rw[ag (λhh=>by obtain⟨v,hv,_⟩:=hq.1 hh;rw[hg]at hv;cases hv)];cases hf:getF q (ae7 c n L)with
  |none=>rfl
  |some v=>
   have:=((Hw h.srt _ q v).1 hf).1;rw[hg]at this;cases this
 |some v=>
  by_cases e:v.1=(c,n)
  .rw[ah (hq.2 ⟨v,hg,e⟩)];cases hf:getF q (ae7 c n L)with
   |none=>rfl
   |some u=>
    obtain⟨h1,h2⟩:=(Hw h.srt _ q u).1 hf;rw[hg]at h1;injection h1 with h1;subst h1;rw[aft.2 e]at h2;cases h2
  .rw[ag (λhh=>by obtain⟨u,hu,e2⟩:=hq.1 hh;rw[hg]at hu;injection hu with hu;exact e (hu▸e2))];refine((Hw h.srt _ q v).2 ⟨hg,?_⟩).symm;cases hb:(v.1.1==c&&v.1.2==n)with
   |false=>rfl
   |true=>exact absurd (aft.1 hb) e
def abd{c n:Int}{k:Int×Int}(hk:(c,n)≠k)(T:Tb):byF k.1 k.2 (Ee c n T)=byF k.1 k.2 T:=by
 unfold byF Ee;rw[List.filter_filter];refine List.filter_congr (λx _=>?_);cases h1:ofBy k.1 k.2 x.2 with
 |false=>rfl
 |true=>
  cases h2:ofBy c n x.2 with
  |false=>rfl
  |true=>
   unfold ofBy at h1 h2;simp only[cu,uq]at h1 h2;exact absurd (Prod.ext (h2.1.symm.trans h1.1) (h2.2.symm.trans h1.2)) hk
def Rel.cut{L:Kv Cv}{m:Mm}{T:Tb}(h:Rel L m T)(c n:Int):Rel (Jr ((byF c n T).map (·.1)) L) (delM (c,n) m) (Ee c n T):=by
 rw[h.cuts];have hne:∀x∈ae7 c n L,(c,n)≠x.2.1/\x∈L:=λx hx=>by obtain⟨h1,h2⟩:=jh.1 hx;refine⟨λe=>?_,h1⟩;rw[aft.2 e.symm]at h2;cases h2
 refine⟨?_,Gf h.srt _,λx hx=>h.key x (hne x hx).2,λx hx=>?_,aub h.nd,λk t hk=>?_,h.ok.rest c n⟩
 .rw[h.eq];unfold Ee tblF ae7;rw[List.filter_map];refine(List.map_congr_left (λx hx=>?_)).symm;obtain⟨h1,_⟩:=hne x hx;unfold clI;rw[Vl h.nd,ag h1]
 .rw[Vl h.nd,ag (hne x hx).1];exact h.has x (hne x hx).2
 .rw[Vl h.nd]at hk;split at hk
  .cases hk
  .rename_i e;rw[abd e];exact h.ks k t hk
def Jk(k:Int×Int):List Wr->Kv Cv->Kv Cv
 |[],L=>L
 |w::l,L=>Jk k l (setF w.key (k,w) L)
def aal(k:Int×Int)(w:Wr):∀(l:List Wr) (L:Kv Cv),Jk k (l++[w]) L=setF w.key (k,w) (Jk k l L)
 |[],_=>rfl
 |_::l,_=>aal k w l _
def ab7{k:Int×Int}:∀{l:List Wr} {L:Kv Cv},Srt L->Srt (Jk k l L)
 |[],_,h=>h
 |w::l,L,h=>by unfold Jk;exact ab7 (Es h)
def Xd{k:Int×Int}{x:Bi×Cv}:∀{l:List Wr} {L:Kv Cv},x∈Jk k l L->(∃w∈l,x=(w.key,(k,w)))\/x∈L
 |[],_,h=>.inr h
 |w::l,L,h=>by
  rcases Xd (l:=l) h with⟨u,hu,e⟩|e
  .exact .inl ⟨u,gy _ hu,e⟩
  .rcases F5 e with e|e
   .exact .inl ⟨w,ji ..,e⟩
   .exact .inr e
def map_set{α β:Type}(f:Bi×α->β)(k:Bi)(v:α):∀(L:Kv α),(setF k v L).map (λx=>(x.1,f x))=setF k (f (k,v)) (L.map λx=>(x.1,f x))
 |[]=>rfl
 |(a,u)::L=>by
  simp only[jd];unfold setF;split
  .simp only[jd];rw[map_set f k v L]
  .split
   .rfl
   .rfl
def aev(m:Mm)(k:Int×Int):∀(l:List Wr) (L:Kv Cv),tblF m (Jk k l L)=Gj (λw=>clI m (w.key,(k,w))) l (tblF m L)
 |[],_=>rfl
 |w::l,L=>by unfold Jk Gj;rw[aev m k l];unfold tblF;rw[map_set]
def ab8{k:Int×Int}:∀{l:List Wr} {L:Kv Cv},Srt L->(Jk k l L).length<=L.length+l.length
 |[],_,_=>ai _
 |w::l,L,h=>by have:=ab8 (k:=k) (l:=l) (L:=setF w.key (k,w) L) (Es h);have h2:=J7 (k:=w.key) (v:=(k,w)) h;unfold Jk;simp only[bg];split at h2<;>omega
def Rel.lay{L:Kv Cv}{m:Mm}{T:Tb}(h:Rel L m T){c n sp sl mp ml:Int}{prim:Bi}{l:List Wr}{sv:Option Addr×Nat×Nat}(hno:getM (c,n) m=none)(hr:Bf l=true)(hnew:NewK l T)(hst:0<=mp/\0<=ml):
  Rel (Jk (c,n) l L) (setM (c,n) ⟨sp,sl,mp,ml,prim,sv,srtK (l.map (·.key))⟩ m) (Gj (mkI c n sp sl mp ml prim) l T):=by
 obtain⟨hw,hnd,hl1,_⟩:=Jc hr;have hby:byF c n T=[]:=by
  have:=h.isSome c n;rw[hno]at this;rcases oq (byF c n T).length with e|e
  .exact qo.1 e
  .simp[e]at this
 have hold:∀x∈L,(c,n)≠x.2.1:=λx hx e=>by have:=h.has x hx;rw[<-e,hno]at this;cases this
 have hT:tblF (setM (c,n) ⟨sp,sl,mp,ml,prim,sv,srtK (l.map (·.key))⟩ m) L=T:=by rw[h.eq];unfold tblF;refine List.map_congr_left (λx hx=>?_);unfold clI;rw[Jl,ag (hold x hx)]
 have hf:(λw:Wr=>clI (setM (c,n) ⟨sp,sl,mp,ml,prim,sv,srtK (l.map (·.key))⟩ m) (w.key,((c,n),w)))=mkI c n sp sl mp ml prim:=by funext w;unfold clI;rw[Jl,ah rfl];rfl
 have hsT:Srt (Gj (mkI c n sp sl mp ml prim) l T):=aaj h.ok.srt;refine⟨?_,ab7 h.srt,λx hx=>?_,λx hx=>?_,ajr h.nd,λk t hk=>?_,⟨hsT,ab6 (λw hw'=>asa (hw w hw')) h.ok.keys⟩⟩
 .rw[aev,hT,hf]
 .rcases Xd hx with⟨w,_,rfl⟩|e
  .rfl
  .exact h.key x e
 .rcases Xd hx with⟨w,_,rfl⟩|e
  .rw[Jl,ah rfl];rfl
  .rw[Jl,ag (hold x e)];exact h.has x e
 .rw[Jl]at hk;split at hk
  .rename_i e;injection hk with hk;subst hk;rw[<-e];refine⟨ass hnd (Gf hsT _) (λq=>?_),λe2=>?_,hst⟩
   .rw[je,je];constructor
    .rintro⟨w,hw',rfl⟩;exact⟨(w.key,mkI c n sp sl mp ml prim w),jh.2 ⟨(Dy hsT).1 (aak h.ok.srt hnd w hw'),by rw[ajn];simp⟩,rfl⟩
    .rintro⟨y,hy,rfl⟩;obtain⟨h1,h2⟩:=jh.1 hy;by_cases hk:∃w∈l,w.key=y.1
     .exact hk
     .have h3:=(Dy hsT).2 h1;rw[Qa h.ok.srt (λw hw' e3=>hk ⟨w,hw',e3⟩)]at h3;have h4:y∈byF c n T:=jh.2 ⟨(Dy h.ok.srt).1 h3,h2⟩;rw[hby]at h4;cases h4
   .have:=U0 (l.map (·.key));simp only at e2;rw[e2]at this;simp only[o9,mr]at this;omega
  .rename_i e;have hb:byF k.1 k.2 (Gj (mkI c n sp sl mp ml prim) l T)=byF k.1 k.2 T:=by
    refine Ls (Gf hsT _) (Gf h.ok.srt _) (λq=>?_);by_cases hq:∃w∈l,w.key=q
    .obtain⟨w,hw',rfl⟩:=hq;have a1:getF w.key (byF k.1 k.2 (Gj (mkI c n sp sl mp ml prim) l T))=none:=by
      cases hf2:getF w.key (byF k.1 k.2 (Gj (mkI c n sp sl mp ml prim) l T))with
      |none=>rfl
      |some v=>
       obtain⟨g1,g2⟩:=(Hw hsT _ _ v).1 hf2;rw[aak h.ok.srt hnd w hw']at g1;injection g1 with g1;subst g1;rw[ajn]at g2;simp only[cu,uq]at g2;exact absurd (Prod.ext g2.1 g2.2) e
     have a2:getF w.key (byF k.1 k.2 T)=none:=by
      cases hf2:getF w.key (byF k.1 k.2 T)with
      |none=>rfl
      |some v=>
       have:=((Hw h.ok.srt _ _ v).1 hf2).1;rw[hnew w hw']at this;cases this
     rw[a1,a2]
    .have e1:=Qa (f:=mkI c n sp sl mp ml prim) (k:=q) h.ok.srt (λw hw' e3=>hq ⟨w,hw',e3⟩);cases hf2:getF q (byF k.1 k.2 T)with
     |some v=>
      obtain⟨g1,g2⟩:=(Hw h.ok.srt _ _ v).1 hf2;exact(Hw hsT _ _ v).2 ⟨e1.trans g1,g2⟩
     |none=>
      cases hf3:getF q (byF k.1 k.2 (Gj (mkI c n sp sl mp ml prim) l T))with
      |none=>rfl
      |some v=>
       obtain⟨g1,g2⟩:=(Hw hsT _ _ v).1 hf3;have:=(Hw h.ok.srt (λx=>ofBy k.1 k.2 x.2) q v).2 ⟨e1.symm.trans g1,g2⟩;rw[show List.filter (λx=>ofBy k.1 k.2 x.2) T=byF k.1 k.2 T from rfl,hf2]at this;cases this
   rw[hb];exact h.ks k t hk
def svV(t:Tm):Value:=.slice t.sv.1 t.sv.2.1 t.sv.2.2
structure Kr(B p pm hb:Nat)(t:Tr)(x:Tm)(w:World):Prop where
 row:RwAt w.heap.size 1 (svV x) x.kl.length (kc x.kl) w
 pos:0<x.kl.length
 far:∀i,(svV x).ownBlock=some i->i≠p/\i≠pm/\i≠hb/\i∉t.blocks/\B<=i/\i<w.heap.size
 tg:∀i,(svV x).ownBlock=some i->∃cs,w.heap[i]?=some (.cells cs 9 (0,0))
structure Tx(B p pm hb:Nat)(t:Tr)(m:Mm)(w:World):Prop where
 box:w.heap[p]?=some (.cells #[pz pm,.map (some hb)] 126 (0,0))
 map:Mp B pm t w
 gm:Rw hb m w
 rows:∀x∈m,Kr B p pm hb t x.2 w
 sep:p≠pm/\p≠hb/\pm≠hb/\p∉t.blocks/\hb∉t.blocks/\B<=p/\B<=hb
def D5(p pm hb:Nat)(t:Tr)(m:Mm):Nat->Prop:=λi=>i=p\/i=hb\/C9 pm t i\/∃x∈m,(svV x.2).ownBlock=some i
def J5{sz n:Nat}{v:Value}{cs:List Value}{w w':World}{G:Nat->Prop}(h:RwAt w.heap.size sz v n cs w)(hk:Kept G w w')(hn:0<n->∀k,v.ownBlock=some k->¬G k):RwAt w'.heap.size sz v n cs w':=by
 obtain⟨ao,cap,rfl,h1,h2,h3,h4⟩:=h;refine⟨ao,cap,rfl,h1,h2,h3,λh0=>?_⟩;obtain⟨b,off,rfl,h5,h6⟩:=h4 h0;refine⟨b,off,rfl,λh9=>iy (h5 h9) hk.size,λj u hj=>?_⟩;have hn0:0<n:=by
  rcases oq n with e|e
  .have:=(gu.1 hj).1;rw[h1,e]at this;omega
  .exact e
 exact Kept.cell hk (h6 j u hj) (hn hn0 b rfl)
def Tx.lt{B p pm hb:Nat}{t:Tr}{m:Mm}{w:World}(h:Tx B p pm hb t m w){i:Nat}(hi:D5 p pm hb t m i):B<=i/\i<w.heap.size:=by
 obtain⟨_,_,_,_,_,s6,s7⟩:=h.sep;rcases hi with rfl|rfl|(rfl|e)|⟨x,hx,e⟩
 .exact⟨s6,(gsz h.box)⟩
 .exact⟨s7,h.gm.lt⟩
 .exact⟨h.map.low.1,(gsz h.map.box)⟩
 .exact⟨h.map.low.2 i e,h.map.ok.lt i e⟩
 .obtain⟨_,_,_,_,f1,f2⟩:=(h.rows x hx).far i e;exact⟨f1,f2⟩
def Tx.kept{B p pm hb:Nat}{t:Tr}{m:Mm}{w w':World}{G:Nat->Prop}(h:Tx B p pm hb t m w)(hk:Kept G w w')(hG:∀i,D5 p pm hb t m i->¬G i):Tx B p pm hb t m w':=by
 refine⟨?_,h.map.kept hk (hG pm (.inr (.inr (.inl (.inl rfl))))) (λi hi=>hG i (.inr (.inr (.inl (.inr hi))))),h.gm.kept hk (hG hb (.inr (.inl rfl))),λx hx=>?_,h.sep⟩
 .rw[hk.block p (gsz h.box) (hG p (.inl rfl))];exact h.box
 .have hr:=h.rows x hx;refine⟨J5 hr.row hk (λ_ k e=>hG k (.inr (.inr (.inr ⟨x,hx,e⟩)))),hr.pos,λi e=>?_,λi e=>by rw[hk.block i (hr.far i e).2.2.2.2.2 (hG i (.inr (.inr (.inr ⟨x,hx,e⟩))))];exact hr.tg i e⟩;obtain⟨f1,f2,f3,f4,f5,f6⟩:=hr.far i e;exact⟨f1,f2,f3,f4,f5,iy f6 hk.size⟩
def Tx.on{B p pm hb:Nat}{t:Tr}{m:Mm}{w w':World}(h:Tx B p pm hb t m w)(hb':Bw w w'):Tx B p pm hb t m w':=h.kept (Kept.of_below (F:=λ_=>False) hb') (λ_ _ h=>h)
def Tx.cells{B p pm hb:Nat}{t:Tr}{m:Mm}{w:World}(h:Tx B p pm hb t m w):w.cell? ⟨p,0,none⟩=some (pz pm)/\w.cell? ⟨p,1,none⟩=some (.map (some hb)):=⟨Aa h.box rfl,Aa h.box rfl⟩
def Tx.claims{B p pm hb:Nat}{t:Tr}{m:Mm}{L:Kv Cv}{w W:World}(h:Tx B p pm hb t m w)(hp:Post B pm (C9 pm t) L w W):∃t',t'.toL=L/\Tx B p pm hb t' m W/\Kept (C9 pm t) w W/\∀i,C9 pm t' i->C9 pm t i\/w.heap.size<=i:=by
 obtain⟨F',⟨t',hm,rfl,rfl⟩,hk,hn⟩:=hp;obtain⟨s1,s2,s3,s4,s5,s6,s7⟩:=h.sep;have new:∀i,i<w.heap.size->i≠pm->i∉t.blocks->i∉t'.blocks:=λi hi h1 h2 h3=>by
  rcases hn i (.inr h3)with(e|e)|e
  .exact h1 e
  .exact h2 e
  .omega
 have hpl:=(gsz h.box);refine⟨t',rfl,⟨?_,hm,h.gm.kept hk ?_,λx hx=>?_,s1,s2,s3,new p hpl s1 s4,new hb h.gm.lt (Ne.symm s3) s5,s6,s7⟩,hk,hn⟩
 .rw[hk.block p hpl (λe=>by rcases e with e|e;exact s1 e;exact s4 e)];exact h.box
 .exactλe=>by rcases e with e|e;exact s3 e.symm;exact s5 e
 .have hr:=h.rows x hx;refine⟨J5 hr.row hk (λ_ k e=>?_),hr.pos,λi e=>?_,λi e=>by rw[hk.block i (hr.far i e).2.2.2.2.2 (λe2=>by rcases e2 with e2|e2;exact(hr.far i e).2.1 e2;exact(hr.far i e).2.2.2.1 e2)];exact hr.tg i e⟩
  .obtain⟨f1,f2,f3,f4,f5,f6⟩:=hr.far k e;exactλe2=>by rcases e2 with e2|e2;exact f2 e2;exact f4 e2
  .obtain⟨f1,f2,f3,f4,f5,f6⟩:=hr.far i e;exact⟨f1,f2,f3,new i f6 f2 f4,f5,iy f6 hk.size⟩
def Tx.terms{B p pm hb:Nat}{t:Tr}{m m':Mm}{w W:World}(h:Tx B p pm hb t m w)(hg:Rw hb m' W)(hk:Kept (λi=>i=hb) w W)(hr:∀x∈m',(∃y∈m,svV y.2=svV x.2/\y.2.kl=x.2.kl)\/Kr B p pm hb t x.2 w):Tx B p pm hb t m' W:=by
 obtain⟨s1,s2,s3,s4,s5,s6,s7⟩:=h.sep;refine⟨?_,h.map.kept hk s3 (λi hi e=>s5 (e▸hi)),hg,λx hx=>?_,h.sep⟩
 .rw[hk.block p (gsz h.box) s2];exact h.box
 .have hx':Kr B p pm hb t x.2 w:=by
   rcases hr x hx with⟨y,hy,e1,e2⟩|e
   .have:=h.rows y hy;exact⟨by rw[<-e1,<-e2];exact this.row,by rw[<-e2];exact this.pos,by rw[<-e1];exact this.far,by rw[<-e1];exact this.tg⟩
   .exact e
  refine⟨J5 hx'.row hk (λ_ k e=>(hx'.far k e).2.2.1),hx'.pos,λi e=>?_,λi e=>by rw[hk.block i (hx'.far i e).2.2.2.2.2 (hx'.far i e).2.2.1];exact hx'.tg i e⟩;obtain⟨f1,f2,f3,f4,f5,f6⟩:=hx'.far i e;exact⟨f1,f2,f3,f4,f5,iy f6 hk.size⟩
def TabAt(B p:Nat)(M:Nat->Prop)(T:Tb)(w:World):Prop:=∃pm hb t m,Tx B p pm hb t m w/\Rel t.toL m T/\M=D5 p pm hb t m
structure Zb(W0 W1:World):Prop where
 bel:Bw W0 W1
 c0:W1.cell? ⟨W0.heap.size,0,none⟩=some (uw 0)
 f0:W1.frozen? ⟨W0.heap.size,0,none⟩=false
 c1:W1.cell? ⟨W0.heap.size,1,none⟩=some (ui 0)
 f1:W1.frozen? ⟨W0.heap.size,1,none⟩=false
 c2:W1.cell? ⟨W0.heap.size,2,none⟩=some (uw 0)
 f2:W1.frozen? ⟨W0.heap.size,2,none⟩=false
 c3:W1.cell? ⟨W0.heap.size,3,none⟩=some (ui 0)
 f3:W1.frozen? ⟨W0.heap.size,3,none⟩=false
 c4:W1.cell? ⟨W0.heap.size,4,none⟩=some su
 f4:W1.frozen? ⟨W0.heap.size,4,none⟩=false
 c5:W1.cell? ⟨W0.heap.size,5,none⟩=some sy
 f5:W1.frozen? ⟨W0.heap.size,5,none⟩=false
def aw3(W0:World):Zb W0 (W0.alloc (.cells #[uw 0,ui 0,uw 0,ui 0,su,sy] 208)):=
 have h:=ae W0 (.cells #[uw 0,ui 0,uw 0,ui 0,su,sy] 208)
 ⟨al _,Aa h rfl,Ad h _,Aa h rfl,Ad h _,Aa h rfl,Ad h _,Aa h rfl,Ad h _,Aa h rfl,Ad h _,Aa h rfl,Ad h _⟩
def as2{B b:Nat}{w W:World}(v0 v1 v2 v3 v4 v5:Value)(h:Below B w W)(hb:B<=b):Below B w ((((((W.setCell ⟨b,0,none⟩ v0).setCell ⟨b,1,none⟩ v1).setCell ⟨b,2,none⟩ v2).setCell ⟨b,3,none⟩ v3).setCell ⟨b,4,none⟩ v4).setCell ⟨b,5,none⟩ v5):=(((((h.setCell (p:=⟨b,0,none⟩) hb _).setCell (p:=⟨b,1,none⟩) hb _).setCell (p:=⟨b,2,none⟩) hb _).setCell (p:=⟨b,3,none⟩) hb _).setCell (p:=⟨b,4,none⟩) hb _).setCell (p:=⟨b,5,none⟩) hb _
def aww{B p pm hb:Nat}{t:Tr}{m:Mm}{w:World}(c n:Int)(h:Tx B p pm hb t m w):cpr 111 #[pz p,.agg #[ui c,ui n]] w λe w'=>e=.returned (.bool (getM (c,n) m).isSome)/\Bw w w':=by
 obtain⟨W0,hW0⟩:=xj (w.alloc (.cells #[ui c,ui n] 36));have hb0:Bw w W0:=by rw[<-hW0];exact al _
 have hx0:W0.heap[w.heap.size]?=some (.cells #[ui c,ui n] 36 (0,0)):=by rw[<-hW0];exact ae w _
 have z0:W0.cell? ⟨w.heap.size,0,none⟩=some (ui c):=Aa hx0 rfl;have z1:W0.cell? ⟨w.heap.size,1,none⟩=some (ui n):=Aa hx0 rfl;have h0:=h.on hb0;obtain⟨-,c1⟩:=h0.cells;have q0:(Instr.lookup 124 (.map (some hb)) (.agg #[ui c,ui n]) true).run Tryz.prog W0=.ok (.tuple #[tmV ((getM (c,n) m).getD zt),.bool (getM (c,n) m).isSome]) W0:=Wh h0.gm (c,n);have q1:(Instr.lookup 124 (.map (some hb)) (.agg #[ui c,ui n]) true).run Tryz.prog W0.drew=.ok (.tuple #[tmV ((getM (c,n) m).getD zt),.bool (getM (c,n) m).isSome]) W0.drew:=Wh (w:=W0.drew) h0.gm (c,n);obtain⟨W1,hW1⟩:=xj (W0.alloc (.cells #[uw 0,ui 0,uw 0,ui 0,su,sy] 208));have hz1:Zb W0 W1:=by rw[<-hW1];exact aw3 W0
 have h1:=h0.on hz1.bel;obtain⟨-,c2⟩:=h1.cells;have q2:(Instr.lookup 124 (.map (some hb)) (.agg #[ui c,ui n]) true).run Tryz.prog W1.drew=.ok (.tuple #[tmV ((getM (c,n) m).getD zt),.bool (getM (c,n) m).isSome]) W1.drew:=Wh (w:=W1.drew) h1.gm (c,n);have hl0:w.heap.size<W0.heap.size:=(gsz hx0);have y0:W1.cell? ⟨w.heap.size,0,none⟩=some (ui c):=by rw[hz1.bel.cell hl0];exact z0
 have y1:W1.cell? ⟨w.heap.size,1,none⟩=some (ui n):=by rw[hz1.bel.cell hl0];exact z1
 have HB:Hid (Bw w W0):=hb0;have HB1:Hid (Bw w W1):=hb0.trans (hz1.bel.mono hb0.size);have HL:w.heap.size<=W0.heap.size:=hb0.size;obtain⟨-,x0,f0,x1,f1,x2,f2,x3,f3,x4,f4,x5,f5⟩:=hz1;clear h h0 h1 hb0 hx0 hl0;generalize (getM (c,n) m).isSome=z at*;generalize (getM (c,n) m).getD zt=v at*;simp only[tmV]at q0 q1 q2;obtain⟨bx,hbx⟩:=xj w.heap.size;rw[hbx]at z0 z1 y0 y1;obtain⟨by1,hby⟩:=xj W0.heap.size;rw[hby]at x0 x1 x2 x3 x4 x5 f0 f1 f2 f3 f4 f5 HL;have HL':Hid (w.heap.size<=by1):=HL;have G2:Hid (∀v0 v1 v2 v3 v4 v5,Bw w ((((((W1.setCell ⟨by1,0,none⟩ v0).setCell ⟨by1,1,none⟩ v1).setCell ⟨by1,2,none⟩ v2).setCell ⟨by1,3,none⟩ v3).setCell ⟨by1,4,none⟩ v4).setCell ⟨by1,5,none⟩ v5).drew):=λ_ _ _ _ _ _=>(as2 _ _ _ _ _ _ HB1.out HL'.out).drew;clear HL HL' HB HB1;go_enter Tryz.func111,Tryz.ntmps111;go_wp2_with fail;go_region;go_wp2_with fail;go_ret;exact⟨rfl,G2.out _ _ _ _ _ _⟩
def arp{a b:Nat}{w w':World}(e:a=b)(h:Below a w w'):Below b w w':=e▸h
def bx6{W:World}{b:Nat}{a0 a1 a2 a3 a4 a5:Value}(v:Tm)(h0:W.heap[b]?=some (.cells #[a0,a1,a2,a3,a4,a5] 208 (0,0))):((((((W.setCell ⟨b,0,none⟩ (.int .u64 v.sp)).setCell ⟨b,1,none⟩ (.int .u32 v.sl)).setCell ⟨b,2,none⟩ (.int .u64 v.mp)).setCell ⟨b,3,none⟩ (.int .u32 v.ml)).setCell ⟨b,4,none⟩ (.string (bs v.prim))).setCell ⟨b,5,none⟩ (.slice v.sv.1 v.sv.2.1 v.sv.2.2)).heap[b]?=some (.cells #[.int .u64 v.sp,.int .u32 v.sl,.int .u64 v.mp,.int .u32 v.ml,.string (bs v.prim),.slice v.sv.1 v.sv.2.1 v.sv.2.2] 208 (0,0)):=by have h1:(W.setCell ⟨b,0,none⟩ (.int .u64 v.sp)).heap[b]?=some (.cells #[.int .u64 v.sp,a1,a2,a3,a4,a5] 208 (0,0)):=Af _ h0;generalize W.setCell ⟨b,0,none⟩ (.int .u64 v.sp)=W1 at*;have h2:(W1.setCell ⟨b,1,none⟩ (.int .u32 v.sl)).heap[b]?=some (.cells #[.int .u64 v.sp,.int .u32 v.sl,a2,a3,a4,a5] 208 (0,0)):=Af _ h1;generalize W1.setCell ⟨b,1,none⟩ (.int .u32 v.sl)=W2 at*;have h3:(W2.setCell ⟨b,2,none⟩ (.int .u64 v.mp)).heap[b]?=some (.cells #[.int .u64 v.sp,.int .u32 v.sl,.int .u64 v.mp,a3,a4,a5] 208 (0,0)):=Af _ h2;generalize W2.setCell ⟨b,2,none⟩ (.int .u64 v.mp)=W3 at*;have h4:(W3.setCell ⟨b,3,none⟩ (.int .u32 v.ml)).heap[b]?=some (.cells #[.int .u64 v.sp,.int .u32 v.sl,.int .u64 v.mp,.int .u32 v.ml,a4,a5] 208 (0,0)):=Af _ h3;generalize W3.setCell ⟨b,3,none⟩ (.int .u32 v.ml)=W4 at*;have h5:(W4.setCell ⟨b,4,none⟩ (.string (bs v.prim))).heap[b]?=some (.cells #[.int .u64 v.sp,.int .u32 v.sl,.int .u64 v.mp,.int .u32 v.ml,.string (bs v.prim),a5] 208 (0,0)):=Af _ h4;generalize W4.setCell ⟨b,4,none⟩ (.string (bs v.prim))=W5 at*;have h6:(W5.setCell ⟨b,5,none⟩ (.slice v.sv.1 v.sv.2.1 v.sv.2.2)).heap[b]?=some (.cells #[.int .u64 v.sp,.int .u32 v.sl,.int .u64 v.mp,.int .u32 v.ml,.string (bs v.prim),.slice v.sv.1 v.sv.2.1 v.sv.2.2] 208 (0,0)):=Af _ h5;exact h6
def aey(W:World)(b:Nat)(v:Tm):Kept (λi=>i=b) W ((((((W.setCell ⟨b,0,none⟩ (.int .u64 v.sp)).setCell ⟨b,1,none⟩ (.int .u32 v.sl)).setCell ⟨b,2,none⟩ (.int .u64 v.mp)).setCell ⟨b,3,none⟩ (.int .u32 v.ml)).setCell ⟨b,4,none⟩ (.string (bs v.prim))).setCell ⟨b,5,none⟩ (.slice v.sv.1 v.sv.2.1 v.sv.2.2)):=by have t:∀{w1 w2 w3:World},Kept (λi=>i=b) w1 w2->Kept (λi=>i=b) w2 w3->Kept (λi=>i=b) w1 w3:=λh k=>h.trans k (λi e=>.inl e);exact t (t (t (t (t (Ai _ _ _ _) (Ai _ _ _ _)) (Ai _ _ _ _)) (Ai _ _ _ _)) (Ai _ _ _ _)) (Ai _ _ _ _)
def agd(W:World)(b:Nat)(v:Cv):Kept (λi=>i=b) W (((((W.setCell ⟨b,0,none⟩ (.int .u32 v.1.1)).setCell ⟨b,1,none⟩ (.int .u32 v.1.2)).setCell ⟨b,2,none⟩ (.string (bs v.2.key))).setCell ⟨b,3,none⟩ (.string (bs v.2.val))).setCell ⟨b,4,none⟩ (.bool v.2.dead)):=by have t:∀{w1 w2 w3:World},Kept (λi=>i=b) w1 w2->Kept (λi=>i=b) w2 w3->Kept (λi=>i=b) w1 w3:=λh k=>h.trans k (λi e=>.inl e);exact t (t (t (t (Ai _ _ _ _) (Ai _ _ _ _)) (Ai _ _ _ _)) (Ai _ _ _ _)) (Ai _ _ _ _)
structure Ob(w:World)(bx bc:Nat)(v:Cv)(W:World):Prop where
 bel:Below w.heap.size w W
 b0:W.heap[bx]?=some (.cells #[.int .u32 0,.int .u32 0,.int .u64 0,.int .u32 0,.int .u64 0,.int .u32 0,.string ⟨#[]⟩,.string ⟨#[]⟩,.string ⟨#[]⟩,.bool false] 155 (0,0))
 b1:W.heap[bc]?=some (.cells #[.int .u32 v.1.1,.int .u32 v.1.2,.string (bs v.2.key),.string (bs v.2.val),.bool v.2.dead] 123 (0,0))
 low:w.heap.size<=bx
 ne:bx≠bc
def Ob.kept{w W W':World}{bx bc:Nat}{v:Cv}{F:Nat->Prop}(h:Ob w bx bc v W)(hk:Kept F W W')(h0:¬F bx)(h1:¬F bc)(hF:∀k,F k->w.heap.size<=k):Ob w bx bc v W':=
 ⟨h.bel.trans (hk.below h.bel.size hF),by rw[hk.block _ (gsz h.b0) h0];exact h.b0,by rw[hk.block _ (gsz h.b1) h1];exact h.b1,h.low,h.ne⟩
def Ob.on{w W W':World}{bx bc:Nat}{v:Cv}(h:Ob w bx bc v W)(hb:Below W.heap.size W W'):Ob w bx bc v W':=h.kept (Kept.of_below (F:=λ_=>False) hb) (λh=>h) (λh=>h) (λ_ h=>h.elim)
def apb{w W1 Wz:World}{bx:Nat}(v:Cv)(hb:Below w.heap.size w W1)(h0:W1.heap[bx]?=some (.cells #[.int .u32 0,.int .u32 0,.int .u64 0,.int .u32 0,.int .u64 0,.int .u32 0,.string ⟨#[]⟩,.string ⟨#[]⟩,.string ⟨#[]⟩,.bool false] 155 (0,0)))(hl:w.heap.size<=bx)(hz:W1.alloc (.cells #[.int .u32 0,.int .u32 0,.string ⟨#[]⟩,.string ⟨#[]⟩,.bool false] 123)=Wz):Ob w bx W1.heap.size v (((((Wz.setCell ⟨W1.heap.size,0,none⟩ (.int .u32 v.1.1)).setCell ⟨W1.heap.size,1,none⟩ (.int .u32 v.1.2)).setCell ⟨W1.heap.size,2,none⟩ (.string (bs v.2.key))).setCell ⟨W1.heap.size,3,none⟩ (.string (bs v.2.val))).setCell ⟨W1.heap.size,4,none⟩ (.bool v.2.dead)):=by
 have hlt:=(gsz h0);have hx:Wz.heap[W1.heap.size]?=some (.cells #[.int .u32 0,.int .u32 0,.string ⟨#[]⟩,.string ⟨#[]⟩,.bool false] 123 (0,0)):=by rw[<-hz];exact ae W1 _
 have h1:Wz.heap[bx]?=some (.cells #[.int .u32 0,.int .u32 0,.int .u64 0,.int .u32 0,.int .u64 0,.int .u32 0,.string ⟨#[]⟩,.string ⟨#[]⟩,.string ⟨#[]⟩,.bool false] 155 (0,0)):=by rw[<-hz,(al (W:=W1) _).block _ hlt];exact h0
 have hbz:Below w.heap.size w Wz:=by rw[<-hz];exact hb.alloc hb.size _
 have e:=bx5 v hx;have hk:=agd Wz W1.heap.size v;have hbl:=Xw v hbz hb.size;refine⟨hbl,?_,e,hl,Nat.ne_of_lt hlt⟩;rw[hk.block bx (gsz h1) (Nat.ne_of_lt hlt)];exact h1
def apa{w W2 W3:World}{bx bc:Nat}{v:Cv}(tm:Tm)(h:Ob w bx bc v W2)(hz:W2.alloc (.cells #[.int .u64 0,.int .u32 0,.int .u64 0,.int .u32 0,.string ⟨#[]⟩,.slice none 0 0] 208)=W3):Ob w bx bc v ((((((W3.setCell ⟨W2.heap.size,0,none⟩ (.int .u64 tm.sp)).setCell ⟨W2.heap.size,1,none⟩ (.int .u32 tm.sl)).setCell ⟨W2.heap.size,2,none⟩ (.int .u64 tm.mp)).setCell ⟨W2.heap.size,3,none⟩ (.int .u32 tm.ml)).setCell ⟨W2.heap.size,4,none⟩ (.string (bs tm.prim))).setCell ⟨W2.heap.size,5,none⟩ (.slice tm.sv.1 tm.sv.2.1 tm.sv.2.2)).drew/\((((((W3.setCell ⟨W2.heap.size,0,none⟩ (.int .u64 tm.sp)).setCell ⟨W2.heap.size,1,none⟩ (.int .u32 tm.sl)).setCell ⟨W2.heap.size,2,none⟩ (.int .u64 tm.mp)).setCell ⟨W2.heap.size,3,none⟩ (.int .u32 tm.ml)).setCell ⟨W2.heap.size,4,none⟩ (.string (bs tm.prim))).setCell ⟨W2.heap.size,5,none⟩ (.slice tm.sv.1 tm.sv.2.1 tm.sv.2.2)).drew.heap[W2.heap.size]?=some (.cells #[.int .u64 tm.sp,.int .u32 tm.sl,.int .u64 tm.mp,.int .u32 tm.ml,.string (bs tm.prim),.slice tm.sv.1 tm.sv.2.1 tm.sv.2.2] 208 (0,0)):=by
 have h3:Ob w bx bc v W3:=by rw[<-hz];exact h.on (al _)
 have hx:W3.heap[W2.heap.size]?=some (.cells #[.int .u64 0,.int .u32 0,.int .u64 0,.int .u32 0,.string ⟨#[]⟩,.slice none 0 0] 208 (0,0)):=by rw[<-hz];exact ae W2 _
 have hk:=aey W3 W2.heap.size tm;have e:=bx6 tm hx;have n0:=(gsz h.b0);have n1:=(gsz h.b1);have r:=h3.kept hk (λe=>by omega) (λe=>by omega) (λk e=>by rw[e];exact h.bel.size);generalize ((((((W3.setCell ⟨W2.heap.size,0,none⟩ (.int .u64 tm.sp)).setCell ⟨W2.heap.size,1,none⟩ (.int .u32 tm.sl)).setCell ⟨W2.heap.size,2,none⟩ (.int .u64 tm.mp)).setCell ⟨W2.heap.size,3,none⟩ (.int .u32 tm.ml)).setCell ⟨W2.heap.size,4,none⟩ (.string (bs tm.prim))).setCell ⟨W2.heap.size,5,none⟩ (.slice tm.sv.1 tm.sv.2.1 tm.sv.2.2))=X at*;exact⟨⟨r.bel.drew,r.b0,r.b1,r.low,r.ne⟩,e⟩
def of19{B p pm hb:Nat}{t:Tr}{m:Mm}{T:Tb}{w:World}(k:Bi)(h:Tx B p pm hb t m w)(hr:Rel t.toL m T):cpr 187 #[.pointer (some ⟨p,0,none⟩),.string (bs k)] w λe w'=>e=.returned (ofV k (getF k T))/\Below w.heap.size w w':=by
 have hgT:=hr.get k;obtain⟨W0,hW0⟩:=xj (w.alloc (.cells #[.int .u32 0,.int .u32 0,.int .u64 0,.int .u32 0,.int .u64 0,.int .u32 0,.string ⟨#[]⟩,.string ⟨#[]⟩,.string ⟨#[]⟩,.bool false] 155));have hb0:Below w.heap.size w W0:=by rw[<-hW0];exact al _
 have hx0:W0.heap[w.heap.size]?=some (.cells #[.int .u32 0,.int .u32 0,.int .u64 0,.int .u32 0,.int .u64 0,.int .u32 0,.string ⟨#[]⟩,.string ⟨#[]⟩,.string ⟨#[]⟩,.bool false] 155 (0,0)):=by rw[<-hW0];exact ae w _
 have h0:=h.on hb0;obtain⟨c0,-⟩:=h0.cells;have CG:Hid (1=1->cpr 176 #[.pointer (some ⟨pm,0,none⟩),.string (bs k)] W0 λe w'=>e=.returned (getV (getF k t.toL))/\Below W0.heap.size W0 w'):=λ_=>ake k h0.map;obtain⟨bx,hbx⟩:=xj w.heap.size;have HLe:Hid (w.heap.size<=bx):=Nat.le_of_eq hbx;have HX:Hid (∀W1,Below W0.heap.size W0 W1->Tx B p pm hb t m W1/\Below w.heap.size w W1/\W1.heap[bx]?=some (.cells #[.int .u32 0,.int .u32 0,.int .u64 0,.int .u32 0,.int .u64 0,.int .u32 0,.string ⟨#[]⟩,.string ⟨#[]⟩,.string ⟨#[]⟩,.bool false] 155 (0,0))):=λW1 hb1=>
  ⟨h0.on hb1,hb0.trans (hb1.mono hb0.size),by rw[<-hbx,hb1.block _ (gsz hx0)];exact hx0⟩
 clear h h0 hb0 hx0;cases hg:getF k t.toL with
 |none=>
  rw[hg]at hgT CG;rw[hgT];simp only[getV,zc,show bs []=⟨#[]⟩from rfl]at CG;simp only[Option.map_none];clear hr hgT hg;go_enter Tryz.func187,Tryz.ntmps187;go_wp2_with fail;refine(CG.out (by trivial)).mono ?_;rintro e w1 ⟨rfl,hb1⟩;obtain⟨Wz,hWz⟩:=xj (w1.alloc (.cells #[.int .u32 0,.int .u32 0,.string ⟨#[]⟩,.string ⟨#[]⟩,.bool false] 123));have HO:Hid _:=apb zc (HX.out w1 hb1).2.1 (HX.out w1 hb1).2.2 HLe.out hWz;have hxz:Wz.heap[w1.heap.size]?=some (.cells #[.int .u32 0,.int .u32 0,.string ⟨#[]⟩,.string ⟨#[]⟩,.bool false] 123 (0,0)):=by rw[<-hWz];exact ae w1 _
  clear hb1 CG HX;simp only[zc,show bs []=⟨#[]⟩from rfl]at HO;obtain⟨bc,hbc⟩:=xj w1.heap.size;rw[hbc]at HO hxz;have u0:Wz.cell? ⟨bc,0,none⟩=some (.int .u32 0):=Aa hxz rfl;have u1:Wz.cell? ⟨bc,1,none⟩=some (.int .u32 0):=Aa hxz rfl;have u2:Wz.cell? ⟨bc,2,none⟩=some (.string ⟨#[]⟩):=Aa hxz rfl;have u3:Wz.cell? ⟨bc,3,none⟩=some (.string ⟨#[]⟩):=Aa hxz rfl;have u4:Wz.cell? ⟨bc,4,none⟩=some (.bool false):=Aa hxz rfl;have uf0:Wz.frozen? ⟨bc,0,none⟩=false:=Ad hxz 0;have uf1:Wz.frozen? ⟨bc,1,none⟩=false:=Ad hxz 1;have uf2:Wz.frozen? ⟨bc,2,none⟩=false:=Ad hxz 2;have uf3:Wz.frozen? ⟨bc,3,none⟩=false:=Ad hxz 3;have uf4:Wz.frozen? ⟨bc,4,none⟩=false:=Ad hxz 4;obtain⟨W2,hW2⟩:=xj (((((Wz.setCell ⟨bc,0,none⟩ (.int .u32 0)).setCell ⟨bc,1,none⟩ (.int .u32 0)).setCell ⟨bc,2,none⟩ (.string ⟨#[]⟩)).setCell ⟨bc,3,none⟩ (.string ⟨#[]⟩)).setCell ⟨bc,4,none⟩ (.bool false));rw[hW2]at HO;have HB0:=HO.out.b0;clear hxz;have z0:W2.cell? ⟨bx,0,none⟩=some (.int .u32 0):=Aa HB0 rfl;have z1:W2.cell? ⟨bx,1,none⟩=some (.int .u32 0):=Aa HB0 rfl;have z2:W2.cell? ⟨bx,2,none⟩=some (.int .u64 0):=Aa HB0 rfl;have z3:W2.cell? ⟨bx,3,none⟩=some (.int .u32 0):=Aa HB0 rfl;have z4:W2.cell? ⟨bx,4,none⟩=some (.int .u64 0):=Aa HB0 rfl;have z5:W2.cell? ⟨bx,5,none⟩=some (.int .u32 0):=Aa HB0 rfl;have z6:W2.cell? ⟨bx,6,none⟩=some (.string ⟨#[]⟩):=Aa HB0 rfl;have z7:W2.cell? ⟨bx,7,none⟩=some (.string ⟨#[]⟩):=Aa HB0 rfl;have z8:W2.cell? ⟨bx,8,none⟩=some (.string ⟨#[]⟩):=Aa HB0 rfl;have z9:W2.cell? ⟨bx,9,none⟩=some (.bool false):=Aa HB0 rfl;have f0:W2.frozen? ⟨bx,0,none⟩=false:=Ad HB0 0;have f1:W2.frozen? ⟨bx,1,none⟩=false:=Ad HB0 1;have f2:W2.frozen? ⟨bx,2,none⟩=false:=Ad HB0 2;have f3:W2.frozen? ⟨bx,3,none⟩=false:=Ad HB0 3;have f4:W2.frozen? ⟨bx,4,none⟩=false:=Ad HB0 4;have f5:W2.frozen? ⟨bx,5,none⟩=false:=Ad HB0 5;have f6:W2.frozen? ⟨bx,6,none⟩=false:=Ad HB0 6;have f7:W2.frozen? ⟨bx,7,none⟩=false:=Ad HB0 7;have f8:W2.frozen? ⟨bx,8,none⟩=false:=Ad HB0 8;have f9:W2.frozen? ⟨bx,9,none⟩=false:=Ad HB0 9;have HI:Hid _:=Ym ([],zi) HB0;have HBw:Hid _:=V4 ([],zi) HO.out.bel HLe.out;clear HB0;go_wp2_with fail;obtain⟨g0,g1,g2,g3,g4,g5,g6,g7,g8,g9⟩:=HI.out;simp only[ni,zi,ui,uw,sd,show bs []=⟨#[]⟩from rfl]at g0 g1 g2 g3 g4 g5 g6 g7 g8 g9;refine az (v:=ofV k none) (by simp[results,Tryz.results187,go_sem,g0,g1,g2,g3,g4,g5,g6,g7,g8,g9,ofV,inV,zi,ui,uw,sd,show bs []=⟨#[]⟩from rfl]) rfl ?_;exact⟨rfl,HBw.out⟩
 |some v=>
  rw[hg]at hgT CG;have HK:Hid (v.2.key=k):=hr.key (k,v) ((Dy hr.srt).1 hg);rw[hgT];simp only[getV]at CG;simp only[yg,clI];obtain⟨tm,htm⟩:=xj ((getM v.1 m).getD zt);have HQ:Hid (∀W,Tx B p pm hb t m W->(Instr.lookup 124 (.map (some hb)) (.agg #[.int .u32 v.1.1,.int .u32 v.1.2]) false).run Tryz.prog W=.ok (.agg #[.int .u64 tm.sp,.int .u32 tm.sl,.int .u64 tm.mp,.int .u32 tm.ml,.string (bs tm.prim),.slice tm.sv.1 tm.sv.2.1 tm.sv.2.2]) W):=λW hW=>by have:=Zm hW.gm v.1;rw[htm]at this;exact this
  rw[htm];clear hr hgT hg htm;go_enter Tryz.func187,Tryz.ntmps187;go_wp2_with fail;refine(CG.out (by trivial)).mono ?_;rintro e w1 ⟨rfl,hb1⟩;obtain⟨Wz,hWz⟩:=xj (w1.alloc (.cells #[.int .u32 0,.int .u32 0,.string ⟨#[]⟩,.string ⟨#[]⟩,.bool false] 123));have HO:Hid _:=apb v (HX.out w1 hb1).2.1 (HX.out w1 hb1).2.2 HLe.out hWz;have hxz:Wz.heap[w1.heap.size]?=some (.cells #[.int .u32 0,.int .u32 0,.string ⟨#[]⟩,.string ⟨#[]⟩,.bool false] 123 (0,0)):=by rw[<-hWz];exact ae w1 _
  have HT:Hid (Tx B p pm hb t m (((((Wz.setCell ⟨w1.heap.size,0,none⟩ (.int .u32 v.1.1)).setCell ⟨w1.heap.size,1,none⟩ (.int .u32 v.1.2)).setCell ⟨w1.heap.size,2,none⟩ (.string (bs v.2.key))).setCell ⟨w1.heap.size,3,none⟩ (.string (bs v.2.val))).setCell ⟨w1.heap.size,4,none⟩ (.bool v.2.dead))):=by
   have h1:=(HX.out w1 hb1).1;have h2:Tx B p pm hb t m Wz:=by rw[<-hWz];exact h1.on (al _)
   exact h2.kept (agd Wz w1.heap.size v) (λi hi e=>by have:=(h1.lt hi).2;omega)
  clear hb1 CG HX;obtain⟨bc,hbc⟩:=xj w1.heap.size;rw[hbc]at HO hxz HT;have k0:Wz.cell? ⟨bc,0,none⟩=some (.int .u32 0):=Aa hxz rfl;have k1:Wz.cell? ⟨bc,1,none⟩=some (.int .u32 0):=Aa hxz rfl;have k2:Wz.cell? ⟨bc,2,none⟩=some (.string ⟨#[]⟩):=Aa hxz rfl;have k3:Wz.cell? ⟨bc,3,none⟩=some (.string ⟨#[]⟩):=Aa hxz rfl;have k4:Wz.cell? ⟨bc,4,none⟩=some (.bool false):=Aa hxz rfl;have kf0:Wz.frozen? ⟨bc,0,none⟩=false:=Ad hxz 0;have kf1:Wz.frozen? ⟨bc,1,none⟩=false:=Ad hxz 1;have kf2:Wz.frozen? ⟨bc,2,none⟩=false:=Ad hxz 2;have kf3:Wz.frozen? ⟨bc,3,none⟩=false:=Ad hxz 3;have kf4:Wz.frozen? ⟨bc,4,none⟩=false:=Ad hxz 4;obtain⟨W2,hW2⟩:=xj (((((Wz.setCell ⟨bc,0,none⟩ (.int .u32 v.1.1)).setCell ⟨bc,1,none⟩ (.int .u32 v.1.2)).setCell ⟨bc,2,none⟩ (.string (bs v.2.key))).setCell ⟨bc,3,none⟩ (.string (bs v.2.val))).setCell ⟨bc,4,none⟩ (.bool v.2.dead));rw[hW2]at HO HT;clear hxz;obtain⟨W3,hW3⟩:=xj (W2.alloc (.cells #[.int .u64 0,.int .u32 0,.int .u64 0,.int .u32 0,.string ⟨#[]⟩,.slice none 0 0] 208));have HT3:Hid (Tx B p pm hb t m W3):=by rw[<-hW3];exact HT.out.on (al _)
  have HO3:Hid (Ob w bx bc v W3):=by rw[<-hW3];exact HO.out.on (al _)
  have hx3:W3.heap[W2.heap.size]?=some (.cells #[.int .u64 0,.int .u32 0,.int .u64 0,.int .u32 0,.string ⟨#[]⟩,.slice none 0 0] 208 (0,0)):=by rw[<-hW3];exact ae W2 _
  have HOt:Hid _:=apa tm HO.out hW3;have q0:=HQ.out W2 HT.out;have q1:=HQ.out W2.drew (HT.out.on ((aj _ _).drew));have q2:=HQ.out W3 HT3.out;have q3:=HQ.out W3.drew (HT3.out.on ((aj _ _).drew));have HB1:=HO.out.b1;have HB3:=HO3.out.b1;have u0:W2.cell? ⟨bc,0,none⟩=some (.int .u32 v.1.1):=Aa HB1 rfl;have u1:W2.cell? ⟨bc,1,none⟩=some (.int .u32 v.1.2):=Aa HB1 rfl;have u2:W2.cell? ⟨bc,2,none⟩=some (.string (bs v.2.key)):=Aa HB1 rfl;have u3:W2.cell? ⟨bc,3,none⟩=some (.string (bs v.2.val)):=Aa HB1 rfl;have u4:W2.cell? ⟨bc,4,none⟩=some (.bool v.2.dead):=Aa HB1 rfl;have v0:W3.cell? ⟨bc,0,none⟩=some (.int .u32 v.1.1):=Aa HB3 rfl;have v1:W3.cell? ⟨bc,1,none⟩=some (.int .u32 v.1.2):=Aa HB3 rfl;have v2:W3.cell? ⟨bc,2,none⟩=some (.string (bs v.2.key)):=Aa HB3 rfl;have v3:W3.cell? ⟨bc,3,none⟩=some (.string (bs v.2.val)):=Aa HB3 rfl;have v4:W3.cell? ⟨bc,4,none⟩=some (.bool v.2.dead):=Aa HB3 rfl;have s0:W3.cell? ⟨W2.heap.size,0,none⟩=some (.int .u64 0):=Aa hx3 rfl;have s1:W3.cell? ⟨W2.heap.size,1,none⟩=some (.int .u32 0):=Aa hx3 rfl;have s2:W3.cell? ⟨W2.heap.size,2,none⟩=some (.int .u64 0):=Aa hx3 rfl;have s3:W3.cell? ⟨W2.heap.size,3,none⟩=some (.int .u32 0):=Aa hx3 rfl;have s4:W3.cell? ⟨W2.heap.size,4,none⟩=some (.string ⟨#[]⟩):=Aa hx3 rfl;have s5:W3.cell? ⟨W2.heap.size,5,none⟩=some (.slice none 0 0):=Aa hx3 rfl;have sf0:W3.frozen? ⟨W2.heap.size,0,none⟩=false:=Ad hx3 0;have sf1:W3.frozen? ⟨W2.heap.size,1,none⟩=false:=Ad hx3 1;have sf2:W3.frozen? ⟨W2.heap.size,2,none⟩=false:=Ad hx3 2;have sf3:W3.frozen? ⟨W2.heap.size,3,none⟩=false:=Ad hx3 3;have sf4:W3.frozen? ⟨W2.heap.size,4,none⟩=false:=Ad hx3 4;have sf5:W3.frozen? ⟨W2.heap.size,5,none⟩=false:=Ad hx3 5;have d1:=HT.out.cells.2;have d2:=HT3.out.cells.2;clear HB1 HB3 hx3 HQ HT HT3 HO HO3 c0;obtain⟨bt,hbt⟩:=xj W2.heap.size;rw[hbt]at HOt s0 sf0 s1 sf1 s2 sf2 s3 sf3 s4 sf4 s5 sf5;go_wp2_with fail;go_region;obtain⟨W4,hW4⟩:=xj ((((((W3.setCell ⟨bt,0,none⟩ (.int .u64 tm.sp)).setCell ⟨bt,1,none⟩ (.int .u32 tm.sl)).setCell ⟨bt,2,none⟩ (.int .u64 tm.mp)).setCell ⟨bt,3,none⟩ (.int .u32 tm.ml)).setCell ⟨bt,4,none⟩ (.string (bs tm.prim))).setCell ⟨bt,5,none⟩ (.slice tm.sv.1 tm.sv.2.1 tm.sv.2.2)).drew;rw[hW4]at HOt|-;clear hW4 hW3 hbt hW2 hWz hbc k0 kf0 k1 kf1 k2 kf2 k3 kf3 k4 kf4 d1 d2 q0 q1 q2 q3 u0 v0 u1 v1 u2 v2 u3 v3 u4 v4 s0 sf0 s1 sf1 s2 sf2 s3 sf3 s4 sf4 s5 sf5;have HB0:=HOt.out.1.b0;have HB1:=HOt.out.1.b1;have HB2:=HOt.out.2;have z0:W4.cell? ⟨bx,0,none⟩=some (.int .u32 0):=Aa HB0 rfl;have z1:W4.cell? ⟨bx,1,none⟩=some (.int .u32 0):=Aa HB0 rfl;have z2:W4.cell? ⟨bx,2,none⟩=some (.int .u64 0):=Aa HB0 rfl;have z3:W4.cell? ⟨bx,3,none⟩=some (.int .u32 0):=Aa HB0 rfl;have z4:W4.cell? ⟨bx,4,none⟩=some (.int .u64 0):=Aa HB0 rfl;have z5:W4.cell? ⟨bx,5,none⟩=some (.int .u32 0):=Aa HB0 rfl;have z6:W4.cell? ⟨bx,6,none⟩=some (.string ⟨#[]⟩):=Aa HB0 rfl;have z7:W4.cell? ⟨bx,7,none⟩=some (.string ⟨#[]⟩):=Aa HB0 rfl;have z8:W4.cell? ⟨bx,8,none⟩=some (.string ⟨#[]⟩):=Aa HB0 rfl;have z9:W4.cell? ⟨bx,9,none⟩=some (.bool false):=Aa HB0 rfl;have f0:W4.frozen? ⟨bx,0,none⟩=false:=Ad HB0 0;have f1:W4.frozen? ⟨bx,1,none⟩=false:=Ad HB0 1;have f2:W4.frozen? ⟨bx,2,none⟩=false:=Ad HB0 2;have f3:W4.frozen? ⟨bx,3,none⟩=false:=Ad HB0 3;have f4:W4.frozen? ⟨bx,4,none⟩=false:=Ad HB0 4;have f5:W4.frozen? ⟨bx,5,none⟩=false:=Ad HB0 5;have f6:W4.frozen? ⟨bx,6,none⟩=false:=Ad HB0 6;have f7:W4.frozen? ⟨bx,7,none⟩=false:=Ad HB0 7;have f8:W4.frozen? ⟨bx,8,none⟩=false:=Ad HB0 8;have f9:W4.frozen? ⟨bx,9,none⟩=false:=Ad HB0 9;have u0:W4.cell? ⟨bc,0,none⟩=some (.int .u32 v.1.1):=Aa HB1 rfl;have u1:W4.cell? ⟨bc,1,none⟩=some (.int .u32 v.1.2):=Aa HB1 rfl;have u2:W4.cell? ⟨bc,2,none⟩=some (.string (bs v.2.key)):=Aa HB1 rfl;have u3:W4.cell? ⟨bc,3,none⟩=some (.string (bs v.2.val)):=Aa HB1 rfl;have u4:W4.cell? ⟨bc,4,none⟩=some (.bool v.2.dead):=Aa HB1 rfl;have s0:W4.cell? ⟨bt,0,none⟩=some (.int .u64 tm.sp):=Aa HB2 rfl;have s1:W4.cell? ⟨bt,1,none⟩=some (.int .u32 tm.sl):=Aa HB2 rfl;have s2:W4.cell? ⟨bt,2,none⟩=some (.int .u64 tm.mp):=Aa HB2 rfl;have s3:W4.cell? ⟨bt,3,none⟩=some (.int .u32 tm.ml):=Aa HB2 rfl;have s4:W4.cell? ⟨bt,4,none⟩=some (.string (bs tm.prim)):=Aa HB2 rfl;have s5:W4.cell? ⟨bt,5,none⟩=some (.slice tm.sv.1 tm.sv.2.1 tm.sv.2.2):=Aa HB2 rfl;have HI:Hid _:=Ym (v.2.key,⟨v.1.1,v.1.2,tm.sp,tm.sl,tm.mp,tm.ml,tm.prim,v.2.val,v.2.dead⟩) HB0;have HBw:Hid _:=V4 (v.2.key,⟨v.1.1,v.1.2,tm.sp,tm.sl,tm.mp,tm.ml,tm.prim,v.2.val,v.2.dead⟩) HOt.out.1.bel HLe.out;clear HB0 HB1 HB2 HOt;go_wp2_with fail;obtain⟨g0,g1,g2,g3,g4,g5,g6,g7,g8,g9⟩:=HI.out;simp only[ni]at g0 g1 g2 g3 g4 g5 g6 g7 g8 g9;refine az (v:=ofV v.2.key (some ⟨v.1.1,v.1.2,tm.sp,tm.sl,tm.mp,tm.ml,tm.prim,v.2.val,v.2.dead⟩)) (by simp[results,Tryz.results187,go_sem,g0,g1,g2,g3,g4,g5,g6,g7,g8,g9,ofV,inV]) rfl ?_;exact⟨by rw[HK.out],arp hbx HBw.out⟩
def amv{B p pm hb:Nat}{t:Tr}{m:Mm}{T:Tb}{w:World}(k:Bi)(h:Tx B p pm hb t m w)(hr:Rel t.toL m T):cpr 114 #[.pointer (some ⟨p,0,none⟩),.string (bs k)] w λe w'=>e=.returned (.bool (getF k T).isSome)/\Below w.heap.size w w':=by
 have hgT:=hr.get k;obtain⟨c0,-⟩:=h.cells;have CG:Hid (1=1->cpr 176 #[.pointer (some ⟨pm,0,none⟩),.string (bs k)] w λe w'=>∃v:Cv,e=.returned (.tuple #[.agg #[.int .u32 v.1.1,.int .u32 v.1.2,.string (bs v.2.key),.string (bs v.2.val),.bool v.2.dead],.bool (getF k T).isSome])/\Below w.heap.size w w'):=λ_=>by
  refine(ake k h.map).mono ?_;rintro e w' ⟨rfl,hb⟩;cases hg:getF k t.toL with
  |none=>exact⟨zc,by rw[hgT,hg];rfl,hb⟩
  |some v=>exact⟨v,by rw[hgT,hg];rfl,hb⟩
 clear h hr hgT;generalize (getF k T).isSome=z at*;go_enter Tryz.func114,Tryz.ntmps114;go_wp2_with fail;refine(CG.out (by trivial)).mono ?_;rintro e w1 ⟨v,rfl,hb1⟩;have HB:Hid (∀o,Below w.heap.size w (w1.alloc o)):=λo=>hb1.alloc hb1.size o;clear hb1 CG;go_wp2_with fail;go_ret;exact⟨rfl,HB.out _⟩
def ap6{B:Nat}{ao:Option Addr}{cap n:Nat}{K:List Bi}{w:World}(h:RwAt B 1 (.slice ao n cap) n (kc K) w){i:Nat}(hi:i<K.length):∃b off,ao=some ⟨b,off,none⟩/\ce w b (off+i) (.string (bs (K.getD i []))):=by obtain⟨b,off,e,_,hc⟩:=RwAt.cellAt h (j:=i) (by rw[Nb];exact hi);exact⟨b,off,e,hc i _ (by simp[kc,List.getD,hi])⟩
def ap9{T:Tb}{K:List Bi}{m:Nat}(h:m<K.length):intF T (K.take (m+1))=intF T (K.take m)++[(K.getD m [],(getF (K.getD m []) T).getD zi)]:=by rw[jk h];simp only[intF,mi,jd,List.map_nil,List.getD,bf h,Option.getD_some]
def Lt(w:World)(o:Obj):(w.alloc o).heap.size=w.heap.size+1:=by simp
def aca{B p pm hb:Nat}{t:Tr}{m:Mm}{T:Tb}{w:World}(K:List Bi)(v:Value)(h:Tx B p pm hb t m w)(hr:Rel t.toL m T)(hK:RwAt w.heap.size 1 v K.length (kc K) w)(hin:∀k∈K,(getF k T).isSome=true)(hl:K.length<100000):
  cpr 129 #[pz p,v] w λe w'=>∃v',e=.returned v'/\w'.ownsRow w.heap.size 155 10 v' (intF T K).length (rowC inc (intF T K))/\Bw w w':=by
 obtain⟨i0,hin0,hi0,hi1,hi2⟩:=qc ay4;have HK:Hid (RwAt w.heap.size 1 v K.length (kc K) w):=hK;obtain⟨ao,cap,rfl,-,hlc,hcm,-⟩:=hK;have HOf:Hid (∀(i:Nat) W,i<K.length->Bw w W->cpr 187 #[pz p,.string (bs (K.getD i []))] W λe w'=>∃x:Ii,e=.returned (.tuple #[inV (K.getD i [],x),.bool true])/\intF T (K.take (i+1))=intF T (K.take i)++[(K.getD i [],x)]/\Bw W w'):=λi W hi hb=>by
  refine(of19 (K.getD i []) (h.on hb) hr).mono ?_;rintro e w' ⟨rfl,hb'⟩;have hk:=hin (K.getD i []) (by rw[List.getD,bf hi];exact rq hi);cases hg:getF (K.getD i []) T with
  |none=>rw[hg]at hk;cases hk
  |some x=>
   refine⟨x,rfl,?_,hb'⟩;rw[ap9 hi,hg];rfl
 have HE:Hid (∀(i:Nat) W,i<K.length->Bw w W->∃b off,ao=some ⟨b,off,none⟩/\ce W b (off+i) (.string (bs (K.getD i [])))):=λi W hi hb=>ap6 (RwAt.on HK.out hb) hi;have hL9:K.length<9223372036854775808:=by omega
 have HLn:Hid (K.length<100000):=hl;clear h hr hin hl hlc hcm HK;go_enter Tryz.func129,Tryz.ntmps129;go_wp2_with fail;go_loopw [5,12] (λvv i wr=>∃q:Nat,q<=K.length/\i=iw q/\wr.ownsRow w.heap.size 155 10 vv (intF T (K.take q)).length (rowC inc (intF T (K.take q)))/\Bw w wr) (λ_ i _=>K.length-(intOf i).toNat)
 case atStart=>exact⟨0,eu _,rfl,Ip _ _ _ _,aj _ _⟩
 case round=>
  obtain⟨q,hq,rfl,hown,hbr⟩:=hrel;obtain⟨sa,sc,rfl,-,-,-,-⟩:=Bl hown;have HO:Hid _:=hown;have HB:Hid (Bw w wr):=hbr;clear hown hbr;by_cases hml:q<K.length
  .obtain⟨b,off,rfl,e0⟩:=HE.out q wr hml HB.out;have hml':(q:Int)<K.length:=by omega
   have CO:Hid (1=1->_):=λ_=>HOf.out q wr hml HB.out;have hln:(intF T (K.take q)).length<100000:=by rw[aut];have:=List.length_take_le q K;have:=HLn.out;omega
   obtain⟨R,hR⟩:=xj (intF T (K.take q));rw[hR]at HO hln CO;obtain⟨R1,hR1⟩:=xj (intF T (K.take (q+1)));rw[hR1]at CO;have HR1:Hid (intF T (K.take (q+1))=R1):=hR1;have HQ:Hid (q+1<=K.length):=hml;rw[hR];clear hR hR1 HE HOf hq;generalize K.getD q []=a at*;go_wp2_with fail;refine(CO.out (by trivial)).mono ?_;rintro e w2 ⟨s,rfl,hS,hb2⟩;have HS:Hid (R1=R++[(a,s)]):=hS;have HB2:Hid (Bw w w2):=HB.out.trans (hb2.mono HB.out.size);have HOw:Hid (Ow w.heap.size 155 10 (.slice sa R.length sc) R.length (rowC inc R) ((w2.alloc (.cells (inc (a,s)).toArray 155)).heap.size+1) (.slice (some ⟨(w2.alloc (.cells (inc (a,s)).toArray 155)).heap.size,0,none⟩) 1 1) 1 (rowC inc [(a,s)]) ((w2.alloc (.cells (inc (a,s)).toArray 155)).alloc (.cells (inc (a,s)).toArray 155))):=in_ow (a,s) ((Jy HO.out hb2).alloc _) (ak HB2.out.size (by simp)) (by omega);have HBz:Hid (Bw w ((w2.alloc (.cells (inc (a,s)).toArray 155)).alloc (.cells (inc (a,s)).toArray 155))):=(HB2.out.alloc HB2.out.size _).alloc (ak HB2.out.size (by simp)) _;clear hS hb2 HO HB HB2 CO e0;simp only[inV];simp only[inc]at HOw HBz;rw[Lt]at HOw;go_wp2_with (at_builtin;refine Ea HOw.out Tryz.underlying144 hin0 hi0 hi1 hi2 rfl (by decide) (by decide) (.tmp 22) (.tmp 24) rfl rfl rfl rfl ?_);intro v' w4 hown hg hat;have HB4:Hid (Bw w w4):=J4 HBz.out HOw.out.size HOw.out.own hg;obtain⟨sa4,sc4,rfl,-,-,-,-⟩:=Bl hown;have HO4:Hid (w4.ownsRow w.heap.size 155 10 (.slice sa4 (R.length+1) sc4) (R++[(a,s)]).length (rowC inc (R++[(a,s)]))):=by rw[Ku,af];exact hown
   clear hown hg hat HOw HBz;go_wp2_with fail;go_roundw
   case rel=>exact⟨q+1,HQ.out,by go_num,by rw[HR1.out,HS.out];exact HO4.out,HB4.out⟩
   case measure=>simp[intOf];omega
  .have hml':¬(q:Int)<K.length:=by omega
   have HZ:Hid (intF T K=intF T (K.take q)):=by show _=_;rw[ay (by omega)]
   obtain⟨R,hR⟩:=xj (intF T (K.take q));rw[hR]at HO HZ;rw[hR];clear hR;go_wp2_with fail;go_ret;exact⟨_,rfl,by rw[HZ.out];exact HO.out,HB.out⟩
def Tx.row{B p pm hb:Nat}{t:Tr}{m:Mm}{T:Tb}{w:World}(h:Tx B p pm hb t m w)(hr:Rel t.toL m T)(c n:Int):RwAt w.heap.size 1 (svV ((getM (c,n) m).getD zt)) ((byF c n T).map (·.1)).length (kc ((byF c n T).map (·.1))) w:=by
 rw[<-hr.kl c n];cases hg:getM (c,n) m with
 |some tm=>exact(h.rows _ (get_mem hg)).row
 |none=>exact RwAt.nil _ _ _
def by_in{T:Tb}(hs:Srt T)(c n:Int):∀k∈(byF c n T).map (·.1),(getF k T).isSome=true:=λk hk=>by obtain⟨y,hy,rfl⟩:=je.1 hk;rw[(Dy hs).2 (jh.1 hy).1];rfl
def aoj(a c:Int)(b d:Int)(s:ByteArray)(ao:Option Addr)(l cap:Nat)(w:World):(Instr.field 208 (.agg #[uw a,ui b,uw c,ui d,.string s,.slice ao l cap]) 3).run Tryz.prog w=.ok (.slice ao l cap) w:=by simp[Instr.field,go_sem,asAgg]
def by21{B p pm hb:Nat}{t:Tr}{m:Mm}{T:Tb}{w:World}(c n:Int)(h:Tx B p pm hb t m w)(hr:Rel t.toL m T)(hl:T.length<10000):cpr 72 #[pz p,.agg #[ui c,ui n]] w λe w'=>∃v',e=.returned v'/\w'.ownsRow w.heap.size 155 10 v' (byF c n T).length (rowC inc (byF c n T))/\Bw w w':=by
 obtain⟨W0,hW0⟩:=xj (w.alloc (.cells #[ui c,ui n] 36));have hb0:Bw w W0:=by rw[<-hW0];exact al _
 have hx0:W0.heap[w.heap.size]?=some (.cells #[ui c,ui n] 36 (0,0)):=by rw[<-hW0];exact ae w _
 have z0:ce W0 w.heap.size 0 (ui c):=Aa hx0 rfl;have z1:ce W0 w.heap.size 1 (ui n):=Aa hx0 rfl;have h0:=h.on hb0;obtain⟨-,c1⟩:=h0.cells;obtain⟨tm,htm⟩:=xj ((getM (c,n) m).getD zt);have HQ:∀W,Tx B p pm hb t m W->(Instr.lookup 124 (.map (some hb)) (.agg #[ui c,ui n]) false).run Tryz.prog W=.ok (tmV tm) W:=λW hW=>by have:=Zm hW.gm (c,n);rw[htm]at this;exact this
 have q0:=HQ W0 h0;have q1:=HQ W0.drew (h0.on (aj _ _).drew);simp only[tmV]at q0 q1;have CI:Hid (∀W,Sw W0 W->cpr 129 #[pz p,.slice tm.sv.1 tm.sv.2.1 tm.sv.2.2] W λe w'=>∃ao cap,e=.returned (.slice ao (byF c n T).length cap)/\Hid (w'.ownsRow w.heap.size 155 10 (.slice ao (byF c n T).length cap) (byF c n T).length (rowC inc (byF c n T))/\Bw w w')):=λW hs=>by have hW:=h0.on (hs.below _);have hrow:=hW.row hr c n;rw[htm]at hrow;refine(aca _ _ hW hr hrow (by_in hr.ok.srt c n) (by rw[mr];have:=aht c n T;omega)).mono ?_;rintro e w' ⟨v',rfl,ho,hb'⟩;rw[ayy hr.ok.srt]at ho;obtain⟨sa,sc,rfl,-,-,-,-⟩:=Bl ho;have hbw:Bw w W:=hb0.trans ((hs.below _).mono hb0.size);exact⟨sa,sc,rfl,Lj ho hbw.size,hbw.trans (hb'.mono hbw.size)⟩
 clear h h0 hr hb0 hx0 hl HQ htm;generalize (byF c n T)=R at*;obtain⟨bx,hbx⟩:=xj w.heap.size;rw[hbx]at z0 z1;have HBX:Hid (w.heap.size=bx):=hbx;have qf:=aoj tm.sp tm.mp tm.sl tm.ml (bs tm.prim) tm.sv.1 tm.sv.2.1 tm.sv.2.2;go_enter Tryz.func72,Tryz.ntmps72;go_wp2_with fail;go_region_with (go_at_call 129;refine(CI.out _ ?_).mono ?_;exact Sw.drew (Sw.refl _);rintro e w1 ⟨ao,cap,rfl,HE⟩)
 all_goals
  go_wp2_with fail;go_ret;exact⟨_,rfl,by rw[<-HBX.out];exact HE.out⟩
def all23{B p pm hb:Nat}{t:Tr}{m:Mm}{T:Tb}{w:World}(h:Tx B p pm hb t m w)(hr:Rel t.toL m T)(hl:T.length<10000):cpr 58 #[pz p] w λe w'=>∃v',e=.returned v'/\w'.ownsRow w.heap.size 155 10 v' T.length (rowC inc T)/\Bw w w':=by
 obtain⟨c0,-⟩:=h.cells;have hlen:=hr.len;have CL:Hid (∀W,Sw w W->cpr 131 #[pz pm] W λe w'=>e=.returned (iw T.length)/\ce w' p 0 (pz pm)/\Hid (Bw w w')):=λW hs=>by have hW:=h.on (hs.below _);refine(apz hW.map).mono ?_;rintro e w' ⟨rfl,hb'⟩;rw[hlen];have hbw:Bw w w':=(hs.below _).trans (hb'.mono (hs.below w.heap.size).size);exact⟨rfl,(h.on hbw).cells.1,hbw⟩
 have CK:Hid (∀W,Hid (Bw w W)->cpr 130 #[pz pm,su,su,iw T.length] W λe w'=>∃ao cap,e=.returned (.slice ao T.length cap)/\Hid (RwAt w'.heap.size 1 (.slice ao T.length cap) T.length (kc (T.map (·.1))) w'/\Bw w w')):=λW hs=>by
  have hW:=h.on hs.out;refine(adx [] [] T.length hW.map (by omega)).mono ?_;rintro e w' ⟨v',rfl,ho,hb'⟩;have hk:Ho [] [] (T.length:Int) t.toL=T.map (·.1):=by unfold Ho;rw[abq,<-hr.keys,ay (by simp)]
  rw[hk]at ho;have ho':=Bl ho;rw[mr]at ho';obtain⟨sa,sc,rfl,-,-,-,-⟩:=ho';exact⟨sa,sc,rfl,by have:=Bl ho;rw[mr]at this;exact this,hs.out.trans (hb'.mono hs.out.size)⟩
 have CI:Hid (∀W ao cap,Hid (RwAt W.heap.size 1 (.slice ao T.length cap) T.length (kc (T.map (·.1))) W/\Bw w W)->cpr 129 #[pz p,.slice ao T.length cap] W λe w'=>∃ao cap,e=.returned (.slice ao T.length cap)/\Hid (w'.ownsRow w.heap.size 155 10 (.slice ao T.length cap) T.length (rowC inc T)/\Bw w w')):=λW ao cap hs=>by have hW:=h.on hs.out.2;refine(aca (T.map (·.1)) _ hW hr (by rw[mr];exact hs.out.1) (λk hk=>by rw[<-ap7 hr.ok.srt];exact hk) (by rw[mr];omega)).mono ?_;rintro e w' ⟨v',rfl,ho,hb'⟩;rw[auu hr.ok.srt]at ho;obtain⟨sa,sc,rfl,-,-,-,-⟩:=Bl ho;exact⟨sa,sc,rfl,Lj ho hs.out.2.size,hs.out.2.trans (hb'.mono hs.out.2.size)⟩
 have hl':(T.length:Int)<10000:=by omega
 clear h hr hlen hl;generalize T.length=N at*;go_enter Tryz.func58,Tryz.ntmps58;go_wp2_with fail;go_region_with (first
  |(go_at_call 131;refine(CL.out _ ?_).mono ?_;exact Sw.drew (Sw.refl _);rintro e w1 ⟨rfl,d0,HE⟩)
  |(go_at_call 130;refine(CK.out _ HE).mono ?_;rintro e w2 ⟨ao,cap,rfl,HF⟩)
  |(go_at_call 129;refine(CI.out _ _ _ HF).mono ?_;rintro e w3 ⟨ao',cap',rfl,HG⟩))
 all_goals
  go_wp2_with fail;go_ret;exact⟨_,rfl,HG.out⟩
