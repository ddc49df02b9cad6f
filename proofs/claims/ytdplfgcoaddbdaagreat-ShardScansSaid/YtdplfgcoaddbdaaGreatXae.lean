import Derived.Test.YtdplfgcoaddbdaaGreatProg
import Derived.Lib.AppendZerosOnto
import Derived.Test.YtdplfgcoaddbdaaGreatXaa
set_option maxHeartbeats 4000000
set_option maxRecDepth 100000
set_option linter.unusedVariables false
set_option linter.unusedSimpArgs false
namespace Go.Proofs.YtdplfgcoaddbdaaGreat.Sto
structure Ve where
 p:Int
 l:Int
 c:Int
 n:Int
 val:List UInt8
 dead:Bool
def ltS(p l:Int)(u:Ve):Bool:=decide (p<u.p\/p=u.p/\l<u.l)
theorem ltS_iff{p l:Int}{u:Ve}:ltS p l u=true↔(p<u.p\/p=u.p/\l<u.l):=by simp[ltS]
theorem ltS_not{p l:Int}{u:Ve}:ltS p l u=false↔¬(p<u.p\/p=u.p/\l<u.l):=by unfold ltS;exact decide_eq_false_iff_not
def atB(u v:Ve):Bool:=u.p==v.p&&u.l==v.l
theorem atB_iff{u v:Ve}:atB u v=true↔u.p=v.p/\u.l=v.l:=by simp[atB]
def eqV(u v:Ve):Bool:=u.p==v.p&&u.l==v.l&&u.c==v.c&&u.n==v.n&&u.val==v.val&&u.dead==v.dead
theorem eqV_iff{u v:Ve}:eqV u v=true↔u=v:=by obtain⟨a,b,c,d,e,f⟩:=u;obtain⟨a',b',c',d',e',f'⟩:=v;simp[eqV,and_assoc]
def vOk(v:Ve):Bool:=decide (v.p<=281474976710656/\v.l<=4095)&&decide (v.val.length<=256)&&(!v.dead||v.val.isEmpty)
def Desc(c:List Ve):Prop:=c.Pairwise (fun a b=>ltS b.p b.l a=true)
structure Ch(c:List Ve):Prop where
 ok:∀v∈c,vOk v=true
 desc:Desc c
 len:c.length<=1000
def okFrom:Option Ve->List Ve->Bool
 |_,[]=>true
 |none,v::r=>vOk v&&okFrom (some v) r
 |some u,v::r=>vOk v&&ltS v.p v.l u&&okFrom (some v) r
def rightC(c:List Ve):Bool:=okFrom none c&&decide (c.length<=1000)
theorem okFrom_some:∀(c:List Ve) (u:Ve),okFrom (some u) c=true↔(∀v∈c,vOk v=true)/\(∀v∈c,ltS v.p v.l u=true)/\Desc c
 |[],u=>by simp[okFrom,Desc]
 |v::r,u=>by
  unfold okFrom;rw[Bool.and_eq_true,Bool.and_eq_true,okFrom_some r v];constructor
  ·rintro⟨⟨h1,h2⟩,h3,h4,h5⟩;refine⟨?_,?_,List.pairwise_cons.2 ⟨h4,h5⟩⟩
   ·intro x hx;rcases List.mem_cons.1 hx with rfl|hx
    ·exact h1
    ·exact h3 x hx
   ·intro x hx;rcases List.mem_cons.1 hx with rfl|hx
    ·exact h2
    ·have a:=ltS_iff.1 (h4 x hx);have b:=ltS_iff.1 h2;exact ltS_iff.2 (by omega)
  ·rintro⟨h1,h2,h3⟩;obtain⟨h4,h5⟩:=List.pairwise_cons.1 h3;exact⟨⟨h1 v (by simp),h2 v (by simp)⟩,fun x hx=>h1 x (by simp[hx]),h4,h5⟩
theorem okFrom_none(c:List Ve):okFrom none c=true↔(∀v∈c,vOk v=true)/\Desc c:=by
 cases c with
 |nil=>simp[okFrom,Desc]
 |cons v r=>
  unfold okFrom;rw[Bool.and_eq_true,okFrom_some r v];constructor
  ·rintro⟨h1,h3,h4,h5⟩;refine⟨?_,List.pairwise_cons.2 ⟨h4,h5⟩⟩;intro x hx;rcases List.mem_cons.1 hx with rfl|hx
   ·exact h1
   ·exact h3 x hx
  ·rintro⟨h1,h3⟩;obtain⟨h4,h5⟩:=List.pairwise_cons.1 h3;exact⟨h1 v (by simp),fun x hx=>h1 x (by simp[hx]),h4,h5⟩
theorem rightC_iff{c:List Ve}:rightC c=true↔Ch c:=by unfold rightC;rw[Bool.and_eq_true,okFrom_none,decide_eq_true_eq];exact⟨fun⟨⟨h1,h2⟩,h3⟩=>⟨h1,h2,h3⟩,fun⟨h1,h2,h3⟩=>⟨⟨h1,h2⟩,h3⟩⟩
def insF(v:Ve):List Ve->Option (List Ve)
 |[]=>some [v]
 |u::r=>if ltS v.p v.l u then(insF v r).map (u:: ·)else if atB u v then(if eqV u v then some (u::r)else none)else some (v::u::r)
def putF(c:List Ve)(v:Ve):List Ve×Int:=
 if rightC c&&vOk v then
  match insF v c with
  |none=>([],40)
  |some d=>if c.length<d.length/\1000<=c.length then([],3)else(d,0)
 else([],1)
def atR(p l:Int):List Ve->Option Ve
 |[]=>none
 |u::r=>if ltS p l u then atR p l r else some u
def atF(c:List Ve)(p l:Int):Option Ve:=if rightC c then atR p l c else none
def pruneR(p l:Int):List Ve->List Ve
 |[]=>[]
 |u::r=>if ltS p l u then u::pruneR p l r else if u.dead then[]else[u]
def pruneF(c:List Ve)(p l:Int):List Ve:=if rightC c then pruneR p l c else[]
theorem insF_cases{v:Ve}:∀{c d:List Ve},insF v c=some d->Desc c->(∀x,x∈d↔x=v\/x∈c)/\Desc d/\(d=c/\v∈c\/d.length=c.length+1)
 |[],d,h,_=>by simp only[insF,Option.some.injEq]at h;subst h;exact⟨by simp,by simp[Desc],.inr rfl⟩
 |u::r,d,h,hD=>by
  obtain⟨h4,h5⟩:=List.pairwise_cons.1 hD;unfold insF at h;by_cases h1:ltS v.p v.l u=true
  ·rw[if_pos h1]at h;cases hi:insF v r with
   |none=>rw[hi]at h;simp at h
   |some d'=>
    rw[hi]at h;simp only[Option.map_some,Option.some.injEq]at h;subst h;obtain⟨a,b,e⟩:=insF_cases hi h5;refine⟨fun x=>?_,List.pairwise_cons.2 ⟨fun x hx=>?_,b⟩,?_⟩
    ·rw[List.mem_cons,a x,List.mem_cons];constructor
     ·rintro(h|h|h)
      ·exact .inr (.inl h)
      ·exact .inl h
      ·exact .inr (.inr h)
     ·rintro(h|h|h)
      ·exact .inr (.inl h)
      ·exact .inl h
      ·exact .inr (.inr h)
    ·rcases(a x).1 hx with rfl|hx
     ·exact h1
     ·exact h4 x hx
    ·rcases e with⟨rfl,e⟩|e
     ·exact .inl ⟨rfl,by simp[e]⟩
     ·exact .inr (by simp[e])
  ·rw[if_neg h1]at h;by_cases h2:atB u v=true
   ·rw[if_pos h2]at h;by_cases h3:eqV u v=true
    ·rw[if_pos h3]at h;simp only[Option.some.injEq]at h;have:=eqV_iff.1 h3;subst this;subst h;exact⟨fun x=>by simp,hD,.inl ⟨rfl,by simp⟩⟩
    ·rw[if_neg h3]at h;simp at h
   ·rw[if_neg h2]at h;simp only[Option.some.injEq]at h;subst h;have hlt:ltS u.p u.l v=true:=by have a:=ltS_not.1 (Bool.eq_false_iff.2 h1);have b:¬(u.p=v.p/\u.l=v.l):=fun hh=>h2 (atB_iff.2 hh);exact ltS_iff.2 (by omega)
    refine⟨fun x=>by simp,List.pairwise_cons.2 ⟨fun x hx=>?_,hD⟩,.inr (by simp)⟩;rcases List.mem_cons.1 hx with rfl|hx
    ·exact hlt
    ·have a:=ltS_iff.1 (h4 x hx);have b:=ltS_iff.1 hlt;exact ltS_iff.2 (by omega)
theorem putF_ok{c d:List Ve}{v:Ve}(h:putF c v=(d,0)):Ch c/\Ch d/\vOk v=true/\insF v c=some d/\∀x,x∈d↔x=v\/x∈c:=by
 unfold putF at h;by_cases h1:(rightC c&&vOk v)=true
 ·rw[if_pos h1]at h;rw[Bool.and_eq_true,rightC_iff]at h1;cases hi:insF v c with
  |none=>rw[hi]at h;simp at h
  |some d'=>
   rw[hi]at h;dsimp only at h;by_cases h2:c.length<d'.length/\1000<=c.length
   ·rw[if_pos h2]at h;simp at h
   ·rw[if_neg h2]at h;simp only[Prod.mk.injEq,and_true]at h;subst h;obtain⟨a,b,e⟩:=insF_cases hi h1.1.desc;have hl:=h1.1.len;refine⟨h1.1,⟨fun x hx=>?_,b,?_⟩,h1.2,rfl,a⟩
    ·rcases(a x).1 hx with rfl|hx
     ·exact h1.2
     ·exact h1.1.ok x hx
    ·rcases e with⟨rfl,_⟩|e
     ·exact hl
     ·omega
 ·rw[if_neg h1]at h;simp at h
theorem pruneR_pre(p l:Int):∀c:List Ve,∃r,c=pruneR p l c++r
 |[]=>⟨[],rfl⟩
 |u::r=>by
  obtain⟨r',h⟩:=pruneR_pre p l r;unfold pruneR;split
  ·exact⟨r',by rw[List.cons_append,<-h]⟩
  ·split
   ·exact⟨u::r,rfl⟩
   ·exact⟨r,rfl⟩
theorem pruneR_ch{c:List Ve}(h:Ch c)(p l:Int):Ch (pruneR p l c)/\(pruneR p l c).length<=c.length:=by
 obtain⟨r,hr⟩:=pruneR_pre p l c;have hl:c.length=(pruneR p l c).length+r.length:=by have:=congrArg List.length hr;simpa using this
 have hlen:=h.len;refine⟨⟨fun v hv=>h.ok v (by rw[hr];simp[hv]),?_,by omega⟩,by omega⟩;have hd:=h.desc;unfold Desc at hd|-;rw[hr]at hd;exact(List.pairwise_append.1 hd).1
open Go.RowKit
def rightB(p l:Int):Bool:=decide (p<=281474976710656/\l<=4095)
def lessB(p l q m:Int):Bool:=decide (p<q\/p=q/\l<m)
theorem ret_bool{a b:Bool}(h:a=b):Ending.returned (.bool a)=.returned (.bool b):=by rw[h]
theorem rightP(p l:Int)(w:World):
  Calls Tryz.prog 81 #[.agg #[uw p,ui l]] w fun e w'=>e=.returned (.bool (rightB p l))/\Below w.heap.size w w':=by
 by_cases h1:p<=281474976710656<;>by_cases h2:l<=4095
 all_goals
  go_enter Tryz.func81,Tryz.ntmps81;go_wp2;go_ret;exact⟨ret_bool (by simp[rightB,h1,h2]),(Below.refl _ _).alloc (Nat.le_refl _) _⟩
theorem lessP(p l q m:Int)(w:World):
  Calls Tryz.prog 87 #[.agg #[uw p,ui l],.agg #[uw q,ui m]] w fun e w'=>e=.returned (.bool (lessB p l q m))/\Below w.heap.size w w':=by
 by_cases h:p=q
 ·subst h;go_enter Tryz.func87,Tryz.ntmps87;go_wp2;go_ret;exact⟨ret_bool (by simp[lessB]),((Below.refl _ _).alloc (Nat.le_refl _) _).alloc (by simp) _⟩
 ·have h':(p != q)=true:=by simpa using h
  go_enter Tryz.func87,Tryz.ntmps87;go_wp2;go_ret;exact⟨ret_bool (by simp[lessB,h]),((Below.refl _ _).alloc (Nat.le_refl _) _).alloc (by simp) _⟩
def veV(v:Ve):Value:=.agg #[uw v.p,ui v.l,ui v.c,ui v.n,sd v.val,.bool v.dead]
def vcs(v:Ve):List Value:=[uw v.p,ui v.l,ui v.c,ui v.n,sd v.val,.bool v.dead]
def eqB(p l q m:Int):Bool:=p==q&&l==m
theorem run_eql26(p l q m:Int)(w:World):(binOp .eql 28 (.agg #[uw p,ui l]) (.agg #[uw q,ui m])).run Tryz.prog w=.ok (.bool (eqB p l q m)) w:=by by_cases h:p=q<;>by_cases h2:l=m<;>simp[go_sem,eqB,h,h2]
theorem run_neq30(p l c n:Int)(s:List UInt8)(d:Bool)(p' l' c' n':Int)(s':List UInt8)(d':Bool)(w:World):(binOp .neq 120 (.agg #[uw p,ui l,ui c,ui n,sd s,.bool d]) (.agg #[uw p',ui l',ui c',ui n',sd s',.bool d'])).run Tryz.prog w=.ok (.bool (!eqV ⟨p,l,c,n,s,d⟩ ⟨p',l',c',n',s',d'⟩)) w:=by
 simp[go_sem,eqV,bs_beq];repeat' split
 all_goals simp_all
theorem bs_empty(s:List UInt8):(bs s).toList.isEmpty=s.isEmpty:=by rw[toList_list,bs_data]
theorem below1{w w1:World}{o:Obj}(hb:Below (w.alloc o).heap.size (w.alloc o) w1):Below w.heap.size w w1:=
 ((Below.refl _ _).alloc (Nat.le_refl _) _).trans (hb.mono (by simp))
theorem fits20(v:Ve)(w:World):Calls Tryz.prog 237 #[veV v] w fun e w'=>e=.returned (.bool (vOk v))/\Below w.heap.size w w':=by
 obtain⟨p,l,c,n,s,d⟩:=v;unfold veV;dsimp only;have he:=bs_empty s;have hz:=bs_size s;obtain⟨r,hr⟩:=xj (vOk ⟨p,l,c,n,s,d⟩);rw[hr];have HR:Hid (r=(rightB p l&&decide (s.length<=256)&&(!d||s.isEmpty))):=by rw[<-hr];exact rfl
 clear hr;have HZ:Hid _:=hz;clear hz;cases d
 ·go_enter Tryz.func237,Tryz.ntmps237;go_wp2_with fail;refine(rightP _ _ _).mono ?_;rintro e w1 ⟨rfl,hb⟩;obtain⟨hc,hf⟩:=bcell hb;cases hq:rightB p l
  ·go_wp2;go_ret;exact⟨ret_bool (by rw[HR.out,hq];simp),below1 hb⟩
  ·go_wp2;go_ret;exact⟨ret_bool (by rw[HR.out,hq,HZ.out];simp;omega),below1 hb⟩
 ·cases hm:s.isEmpty
  ·rw[hm]at he;go_enter Tryz.func237,Tryz.ntmps237;go_wp2;go_ret;exact⟨ret_bool (by rw[HR.out,hm];simp),(Below.refl _ _).alloc (Nat.le_refl _) _⟩
  ·rw[hm]at he;go_enter Tryz.func237,Tryz.ntmps237;go_wp2_with fail;refine(rightP _ _ _).mono ?_;rintro e w1 ⟨rfl,hb⟩;obtain⟨hc,hf⟩:=bcell hb;cases hq:rightB p l
   ·go_wp2;go_ret;exact⟨ret_bool (by rw[HR.out,hq];simp),below1 hb⟩
   ·go_wp2;go_ret;exact⟨ret_bool (by rw[HR.out,hq,HZ.out,hm];simp;omega),below1 hb⟩
def seenN(p l:Int):List Ve->Nat
 |[]=>0
 |u::r=>if ltS p l u then seenN p l r+1 else 0
theorem seenN_le(p l:Int):∀c:List Ve,seenN p l c<=c.length
 |[]=>Nat.le_refl _
 |u::r=>by have:=seenN_le p l r;unfold seenN;split<;>simp only[List.length_cons]<;>omega
theorem seenN_eq{p l:Int}:∀{c:List Ve} {k:Nat},k<=c.length->(∀(j:Nat) (u:Ve),j<k->c[j]?=some u->ltS p l u=true)->(∀u,c[k]?=some u->ltS p l u=false)->seenN p l c=k
 |[],k,hk,_,_=>by
  have:k=0:=by simpa using hk
  subst this;rfl
 |u::r,0,_,_,h=>by have:=h u rfl;unfold seenN;rw[this];rfl
 |u::r,k+1,hk,h1,h2=>by have h0:=h1 0 u (by omega) rfl;have ih:=seenN_eq (p:=p) (l:=l) (c:=r) (k:=k) (by simpa using hk) (fun j x hj hx=>h1 (j+1) x (by omega) (by simpa using hx)) (fun x hx=>h2 x (by simpa using hx));unfold seenN;rw[h0,if_pos rfl,ih]
theorem atR_seen(p l:Int):∀c:List Ve,atR p l c=c[seenN p l c]?
 |[]=>rfl
 |u::r=>by
  have ih:=atR_seen p l r;unfold atR seenN;by_cases h:ltS p l u=true
  ·rw[if_pos h,if_pos h,ih];simp
  ·rw[if_neg h,if_neg h];simp
theorem pruneR_seen(p l:Int):∀c:List Ve,pruneR p l c=match c[seenN p l c]?with
  |some u=>if u.dead then c.take (seenN p l c)else c.take (seenN p l c+1)
  |none=>c
 |[]=>rfl
 |u::r=>by
  have ih:=pruneR_seen p l r;unfold pruneR seenN;by_cases h:ltS p l u=true
  ·rw[if_pos h,if_pos h,ih];simp only[List.getElem?_cons_succ];cases hc:r[seenN p l r]?with
   |none=>rfl
   |some x=>
    cases hd:x.dead<;>simp[hd]
  ·rw[if_neg h,if_neg h];simp only[List.getElem?_cons_zero];cases hd:u.dead<;>simp
theorem insF_seen(v:Ve):∀c:List Ve,insF v c=match c[seenN v.p v.l c]?with
  |some u=>if atB u v then(if eqV u v then some c else none)else some (c.take (seenN v.p v.l c)++v::c.drop (seenN v.p v.l c))
  |none=>some (c++[v])
 |[]=>rfl
 |u::r=>by
  have ih:=insF_seen v r;unfold insF seenN;by_cases h:ltS v.p v.l u=true
  ·rw[if_pos h,if_pos h,ih];simp only[List.getElem?_cons_succ];cases hc:r[seenN v.p v.l r]?with
   |none=>rfl
   |some x=>
    cases h1:atB x v<;>cases h2:eqV x v<;>simp[h1,h2]
  ·rw[if_neg h,if_neg h];simp only[List.getElem?_cons_zero];rfl
def dv:Ve:=⟨0,0,0,0,[],false⟩
structure VeAt(w:World)(b off:Nat)(x:Ve):Prop where
 c0:w.cell? ⟨b,off,none⟩=some (uw x.p)
 c1:w.cell? ⟨b,off+1,none⟩=some (ui x.l)
 c2:w.cell? ⟨b,off+2,none⟩=some (ui x.c)
 c3:w.cell? ⟨b,off+3,none⟩=some (ui x.n)
 c4:w.cell? ⟨b,off+4,none⟩=some (sd x.val)
 c5:w.cell? ⟨b,off+5,none⟩=some (.bool x.dead)
 ty:∃cs fz,w.heap[b]?=some (.cells cs 120 fz)
theorem VeAt.on{w w':World}{B b off:Nat}{x:Ve}(h:VeAt w b off x)(hb:Below B w w')(hl:b<B):VeAt w' b off x:=by
 refine⟨?_,?_,?_,?_,?_,?_,by rw[hb.block b hl];exact h.ty⟩
 ·rw[hb.cell (p:=⟨b,_,none⟩) hl];exact h.c0
 ·rw[hb.cell (p:=⟨b,_,none⟩) hl];exact h.c1
 ·rw[hb.cell (p:=⟨b,_,none⟩) hl];exact h.c2
 ·rw[hb.cell (p:=⟨b,_,none⟩) hl];exact h.c3
 ·rw[hb.cell (p:=⟨b,_,none⟩) hl];exact h.c4
 ·rw[hb.cell (p:=⟨b,_,none⟩) hl];exact h.c5
def VsAt(B:Nat)(v:Value)(C:List Ve)(w:World):Prop:=
 ∃ao cap,v=.slice ao C.length cap/\C.length<=cap/\cap<=9223372036854775807/\(0<cap->∃b off,ao=some ⟨b,off,none⟩/\(0<C.length->b<B)/\∀i,i<C.length->VeAt w b (off+i*6) (C.getD i dv))
theorem VsAt.on{B:Nat}{v:Value}{C:List Ve}{w w':World}(h:VsAt B v C w)(hb:Below B w w'):VsAt B v C w':=by obtain⟨ao,cap,rfl,hl,hm,h⟩:=h;refine⟨ao,cap,rfl,hl,hm,fun h0=>?_⟩;obtain⟨b,off,rfl,hlt,hc⟩:=h h0;exact⟨b,off,rfl,hlt,fun i hi=>(hc i hi).on hb (hlt (by omega))⟩
theorem VsAt.le{B B':Nat}{v:Value}{C:List Ve}{w:World}(h:VsAt B v C w)(hB:B<=B'):VsAt B' v C w:=by obtain⟨ao,cap,rfl,hl,hm,h⟩:=h;refine⟨ao,cap,rfl,hl,hm,fun h0=>?_⟩;obtain⟨b,off,rfl,hlt,hc⟩:=h h0;exact⟨b,off,rfl,fun h=>by have:=hlt h;omega,hc⟩
theorem vs_nil(B:Nat)(w:World):VsAt B sy [] w:=⟨none,0,rfl,Nat.le_refl _,by omega,fun h=>absurd h (by omega)⟩
theorem getD_some{C:List Ve}{k:Nat}(h:k<C.length):C[k]?=some (C.getD k dv):=by simp[List.getD,h]
theorem seen21(B:Nat)(C:List Ve)(v:Value)(p l:Int)(w:World)(hv:VsAt B v C w)(hB:B<=w.heap.size):
  Calls Tryz.prog 197 #[v,.agg #[uw p,ui l]] w fun e w'=>e=.returned (iw (seenN p l C))/\Below w.heap.size w w':=by
 obtain⟨ao,cap,rfl,hlc,hcm,hx⟩:=hv;obtain⟨r,hr⟩:=xj (seenN p l C);rw[hr];have HR:Hid _:=hr;have HX:Hid _:=hx;have HB:Hid _:=hB;have HC:Hid _:=hlc;have HM:Hid _:=hcm;clear hr hx hB hlc hcm;obtain⟨w0,hw0⟩:∃w0,w0=w.alloc (.cells #[uw p,ui l] 28):=⟨_,rfl⟩;have HW:Hid _:=hw0;have HS:Hid (w0.heap.size=w.heap.size+1):=by rw[hw0];show _=_;simp
 have HV:Hid (Below w.heap.size w w0):=by rw[hw0];exact(Below.refl _ _).alloc (Nat.le_refl _) _
 have HP:Hid (w0.cell? ⟨w.heap.size,0,none⟩=some (uw p)/\w0.cell? ⟨w.heap.size,1,none⟩=some (ui l)):=by rw[hw0];exact⟨by simp[go_sem],by simp[go_sem]⟩
 clear hw0;go_enter Tryz.func197,Tryz.ntmps197;go_wp2_with fail;rw[<-HW.out];go_loopw [9] (fun i wr=>∃k:Nat,k<=C.length/\i=iw k/\(∀j,j<k->ltS p l (C.getD j dv)=true)/\Below w0.heap.size w0 wr) (fun i _=>C.length-(intOf i).toNat)
 case atStart=>exact⟨0,Nat.zero_le _,rfl,fun j hj=>absurd hj (by omega),Below.refl _ _⟩
 case round=>
  obtain⟨k,hk,rfl,hall,hbr⟩:=hrel;have HE:Hid _:=hall;clear hall;have hs:=HS.out;have hq0:wr.cell? ⟨w.heap.size,0,none⟩=some (uw p):=by rw[hbr.cell (p:=⟨_,_,none⟩) (by rw[hs];exact Nat.lt_succ_self _)];exact HP.out.1
  have hq1:wr.cell? ⟨w.heap.size,1,none⟩=some (ui l):=by rw[hbr.cell (p:=⟨_,_,none⟩) (by rw[hs];exact Nat.lt_succ_self _)];exact HP.out.2
  have hlt0:w.heap.size<wr.heap.size:=by have:=hbr.size;omega
  by_cases hkl:k<C.length
  ·obtain⟨b,off,rfl,hb,hc⟩:=HX.out (by have:=HC.out;omega);have hck:=((hc k hkl).on HV.out (Nat.lt_of_lt_of_le (hb (by omega)) HB.out)).on hbr (by have:=hb (by omega);have:=HB.out;omega);have HK:Hid (ltS p l (C.getD k dv)=true->∀j,j<k+1->ltS p l (C.getD j dv)=true):=fun h j hj=>by
    by_cases hjk:j=k
    ·subst hjk;exact h
    ·exact HE.out j (by omega)
   have HN:Hid (ltS p l (C.getD k dv)=false->r=k):=fun h=>by
    rw[<-HR.out];refine seenN_eq (by omega) (fun j u hj hu=>?_) (fun u hu=>?_)
    ·rw[getD_some (by omega)]at hu;injection hu with hu;subst hu;exact HE.out j hj
    ·rw[getD_some (by omega)]at hu;injection hu with hu;subst hu;exact h
   clear hc hb;generalize C.getD k dv=x at hck HK HN;obtain⟨xp,xl,xc,xn,xs,xd⟩:=x;obtain⟨e0,e1,e2,e3,e4,e5⟩:=hck;dsimp only at e0 e1 e2 e3 e4 e5;have hkl':(k:Int)<C.length:=by omega
   have h63:C.length<=9223372036854775807:=Nat.le_trans HC.out HM.out;have HL:Hid (lessB p l xp xl=ltS p l ⟨xp,xl,xc,xn,xs,xd⟩):=rfl;go_wp2_with fail;refine(lessP _ _ _ _ _).mono ?_;rintro e w3 ⟨rfl,hb3⟩;obtain⟨z3,hz3⟩:=xj (lessB p l xp xl);rw[hz3];have H3:Hid _:=hz3;clear hz3;cases z3
   ·have HX2:Hid _:=HN.out (by rw[<-HL.out];exact H3.out);go_wp2;go_ret;rw[HX2.out];exact⟨rfl,HV.out.trans ((hbr.mono (by omega)).trans (below1 hb3 |>.mono (by omega)))⟩
   ·have HX2:Hid _:=HK.out (by rw[<-HL.out];exact H3.out);have HB3:Hid (Below w0.heap.size w0 w3):=hbr.trans (below1 hb3 |>.mono hbr.size);go_wp2;go_roundw
    case rel=>exact⟨k+1,by omega,by go_num,HX2.out,HB3.out⟩
    case measure=>simp[intOf];omega
  ·have hkl':¬(k:Int)<C.length:=by omega
   have HX2:Hid (r=C.length):=by
    show _=_;rw[<-HR.out];refine seenN_eq (Nat.le_refl _) (fun j u hj hu=>?_) (fun u hu=>?_)
    ·rw[getD_some (by omega)]at hu;injection hu with hu;subst hu;exact HE.out j (by omega)
    ·simp at hu
   go_wp2;go_ret;rw[HX2.out];exact⟨rfl,HV.out.trans (hbr.mono (by omega))⟩
def vfl:List Ve->List Value
 |[]=>[]
 |v::r=>vcs v++vfl r
theorem vfl_append(L R:List Ve):vfl (L++R)=vfl L++vfl R:=by
 induction L with
 |nil=>rfl
 |cons a L ih=>simp[vfl,ih]
theorem vfl_length(L:List Ve):(vfl L).length=L.length*6:=by
 induction L with
 |nil=>rfl
 |cons a L ih=>simp[vfl,vcs,ih];omega
theorem vfl_one(L:List Ve):∀u∈vfl L,u.oneCell'=true:=by
 induction L with
 |nil=>intro u hu;simp[vfl]at hu
 |cons a L ih=>
  intro u hu;simp only[vfl,List.mem_append]at hu;rcases hu with hu|hu
  ·simp only[vcs,List.mem_cons,List.not_mem_nil,or_false]at hu;rcases hu with rfl|rfl|rfl|rfl|rfl|rfl<;>rfl
  ·exact ih u hu
theorem vcs_length(v:Ve):(vcs v).length=6:=rfl
theorem vfl_get:∀(L:List Ve) (i k:Nat),i<L.length->k<6->(vfl L)[i*6+k]?=(vcs (L.getD i dv))[k]?
 |[],i,k,h,_=>absurd h (by simp)
 |v::r,0,k,_,hk=>by simp only[vfl,Nat.zero_mul,Nat.zero_add];rw[List.getElem?_append_left (by rw[vcs_length];exact hk)];rfl
 |v::r,i+1,k,h,hk=>by simp only[vfl];rw[List.getElem?_append_right (by rw[vcs_length];omega),vcs_length,show(i+1)*6+k-6=i*6+k from by omega,vfl_get r i k (by simpa using h) hk];rfl
theorem veAt_iff{w:World}{b off:Nat}{x:Ve}:VeAt w b off x↔(∀k u,(vcs x)[k]?=some u->w.cell? ⟨b,off+k,none⟩=some u)/\∃cs fz,w.heap[b]?=some (.cells cs 120 fz):=by
 constructor
 ·intro h;refine⟨fun k u hk=>?_,h.ty⟩;match k,hk with
  |0,hk=>simp[vcs]at hk;rw[<-hk];exact h.c0
  |1,hk=>simp[vcs]at hk;rw[<-hk];exact h.c1
  |2,hk=>simp[vcs]at hk;rw[<-hk];exact h.c2
  |3,hk=>simp[vcs]at hk;rw[<-hk];exact h.c3
  |4,hk=>simp[vcs]at hk;rw[<-hk];exact h.c4
  |5,hk=>simp[vcs]at hk;rw[<-hk];exact h.c5
  |k+6,hk=>simp[vcs]at hk
 ·rintro⟨h,ht⟩;exact⟨h 0 _ rfl,h 1 _ rfl,h 2 _ rfl,h 3 _ rfl,h 4 _ rfl,h 5 _ rfl,ht⟩
def VsOwn(base:Nat)(v:Value)(L:List Ve)(w:World):Prop:=w.ownsRow base 120 6 v L.length (vfl L)
theorem VsOwn.at{base:Nat}{v:Value}{L:List Ve}{w:World}(h:VsOwn base v L w):VsAt w.heap.size v L w:=by
 rcases h.2 with⟨rfl,h0⟩|⟨g,cap,cur,rfl,hb,hg,hnc,hcm,hcs,ht⟩
 ·have:L=[]:=List.eq_nil_of_length_eq_zero h0;subst this;exact vs_nil _ _
 ·refine⟨_,cap,rfl,hnc,by unfold maxLen at hcm;omega,fun _=>⟨g,0,rfl,fun _=>(gsz hg),fun i hi=>?_⟩⟩;rw[veAt_iff];refine⟨fun k u hk=>?_,_,_,hg⟩;have hk6:k<6:=by
   rcases Nat.lt_or_ge k 6 with h|h
   ·exact h
   ·rw[List.getElem?_eq_none (by rw[vcs_length];exact h)]at hk;cases hk
  have:=World.ownsRow.cells h (g:=g) rfl (i*6+k) u (by rw[vfl_get L i k hi hk6];exact hk);rw[Addr.add_lit]at this;rw[<-this];congr 2;omega
theorem VsAt.cells{B:Nat}{ad:Addr}{n cap:Nat}{X:List Ve}{w:World}(h:VsAt B (.slice (some ad) n cap) X w):∀j u,(vfl X)[j]?=some u->w.cell? (ad.add j)=some u:=by
 intro j u hj;have hjl:j<X.length*6:=by
  rcases Nat.lt_or_ge j (X.length*6)with h|h
  ·exact h
  ·rw[List.getElem?_eq_none (by rw[vfl_length];exact h)]at hj;cases hj
 obtain⟨ao,cap',e,hl,hm,h⟩:=h;simp only[Value.slice.injEq]at e;obtain⟨rfl,rfl,rfl⟩:=e;obtain⟨b,off,e,hlt,hc⟩:=h (by omega);injection e with e;subst e;have h1:=(veAt_iff.1 (hc (j/6) (by omega))).1 (j%6) u (by rw[<-vfl_get X (j/6) (j%6) (by omega) (by omega),show j/6*6+j%6=j from by omega];exact hj);rw[Addr.add_lit,<-h1];congr 2;omega
theorem VsOwn.nil(base:Nat)(w:World):VsOwn base sy [] w:=World.ownsRow_nil w base 120 6
theorem VsOwn.made(base:Nat)(w:World)(hb:base<=w.heap.size):VsOwn base (.slice (some ⟨w.heap.size,0,none⟩) 0 0) [] (w.alloc (.cells #[] 120)):=World.ownsRow_made w #[] 0 hb (Nat.zero_le _) rfl
theorem info30:(Tryz.prog.info? 120).map (fun i=>(i.zero,i.size,i.bytes))=some (some (.agg #[uw 0,ui 0,ui 0,ui 0,su,.bool false]),6,48):=by kernel_rfl
theorem run_append_vs(base B:Nat)(L X:List Ve)(v vx:Value)(ty:TypeId)(w:World)(hI:VsOwn base v L w)(hX:VsAt B vx X w)(hB:base<=w.heap.size)(hl:L.length+X.length<=1048576):
  ∃v' w',(Builtin.append_ #[63,63] ty #[v,vx]).run Tryz.prog w=.ok v' w'/\VsOwn base v' (L++X) w'/\w.grownBy w' v.ownBlock:=by
 obtain⟨i0,hi,hz0,hz1,hz2⟩:=info_parts info30;have hX':=hX;obtain⟨ax,cx,rfl,hlx,hmx,hx⟩:=hX;cases ax with
 |none=>
  have h0:X=[]:=by
   cases X with
   |nil=>rfl
   |cons a X=>
    obtain⟨b,o,e,_⟩:=hx (by simp at hlx;omega);cases e
  subst h0;refine⟨v,w,?_,by rw[List.append_nil];exact hI,⟨rfl,rfl,rfl,Nat.le_refl _,fun _ _ _=>rfl⟩⟩;rcases hI.2 with⟨rfl,_⟩|⟨g,cap,cur,rfl,_,_,hnc,_⟩
  ·simp[Builtin.append_,run_underlying Tryz.underlying63,sizeOf,typeInfo,hi,Builtin.lenOf,Builtin.firstCells]
  ·simp[Builtin.append_,run_underlying Tryz.underlying63,sizeOf,typeInfo,hi,Builtin.lenOf,Builtin.firstCells,hnc,storeCells]
 |some ad=>
  obtain⟨v',w',h1,h2,h3,_⟩:=run_append_own (P:=Tryz.prog) w base 63 ty 120 i0 _ 6 48 Tryz.underlying63 hi hz0 hz1 hz2 rfl (by decide) v L.length (vfl L) hI ad X.length cx (vfl X) (vfl_length X) (VsAt.cells hX') (vfl_one X) (by unfold maxLen;omega) (by omega) hB;refine⟨v',w',h1,?_,h3⟩;unfold VsOwn;rw[vfl_append,List.length_append];exact h2
theorem wp_append_vs{o:Oper}{a:Act}{K:Act->World->Prop}{Q:Exit->Act->World->Prop}{w:World}(s x:Operand)(ho:o.op=.call {callee:=.builtin .append,args:=#[s,x],argTypes:=#[63,63]})(base B:Nat)(L X:List Ve)(v vx:Value)(hs:a.eval s=v)(hx:a.eval x=vx)(hI:VsOwn base v L w)(hX:VsAt B vx X w)(hB:base<=w.heap.size)(hl:L.length+X.length<=1048576)(h:∀v' w',VsOwn base v' (L++X) w'->w.grownBy w' v.ownBlock->K (a.put o.dst v') w'):o.wp Tryz.prog a w K Q:=by obtain⟨v',w',hr,h2,h3⟩:=run_append_vs base B L X v vx o.type w hI hX hB hl;unfold Oper.wp execOp;simp only[ho,resolve,invoke,builtin,Sem.run_bind,Sem.run_pure,Result.andThen_ok,List.map_toArray,List.map_cons,List.map_nil,hs,hx,hr];exact h v' w' h2 h3
theorem wpList_append_vs{ops:Array Oper}{rest:List Oper}{o:Oper}{a:Act}{Q:Exit->Act->World->Prop}{w:World}(hw:Region.wanted o (yielded ops a.tmps)=true)(s x:Operand)(ho:o.op=.call {callee:=.builtin .append,args:=#[s,x],argTypes:=#[63,63]})(base B:Nat)(L X:List Ve)(v vx:Value)(hs:a.eval s=v)(hx:a.eval x=vx)(hI:VsOwn base v L w)(hX:VsAt B vx X w)(hB:base<=w.heap.size)(hl:L.length+X.length<=1048576)(h:∀v' w',VsOwn base v' (L++X) w'->w.grownBy w' v.ownBlock->wpList Tryz.prog ops Q rest (a.put o.dst v') w'):wpList Tryz.prog ops Q (o::rest) a w:=
 wpList_step fun K hK=>by rw[if_pos hw];exact wp_append_vs s x ho base B L X v vx hs hx hI hX hB hl fun v' w' h1 h2=>hK _ _ (h v' w' h1 h2)
theorem below_grown{base:Nat}{v:Value}{L:List Ve}{a w w':World}(hb:Below base a w)(hs:base<=w.heap.size)(hI:VsOwn base v L w)(hg:w.grownBy w' v.ownBlock):Below base a w':=
 hb.grown hg hs fun k hk=>(World.ownsRow.lt hI k hk).1
theorem clone27(B:Nat)(C:List Ve)(v:Value)(w:World)(hv:VsAt B v C w)(hB:B<=w.heap.size)(hl:C.length<=1048576):
  Calls Tryz.prog 47 #[v] w fun e w'=>∃v',e=.returned v'/\VsAt w'.heap.size v' C w'/\Below w.heap.size w w':=by
 have hv':=hv;obtain⟨ao,cap,rfl,hlc,hcm,hx⟩:=hv;have H:Hid (VsAt B (.slice ao C.length cap) C w):=hv';have q22:∀(w:World) (a:Option Addr) (n c n' c':Nat),(binOp .eql 63 (.slice a n c) (.slice none n' c')).run Tryz.prog w=.ok (.bool a.isNone) w:=fun w a n c n' c'=>Lib.run_eql_slice_nil w _ _ a n c n' c' Tryz.underlying63;cases ao with
 |none=>
  have h0:C=[]:=by
   cases C with
   |nil=>rfl
   |cons a X=>
    obtain⟨b,o,e,_⟩:=hx (by simp at hlc;omega);cases e
  subst h0;clear hx hv';go_enter Tryz.func47,Tryz.ntmps47;go_wp2;go_ret;exact⟨_,rfl,vs_nil _ _,Below.refl _ _⟩
 |some ad=>
  clear hx hv';have HL:Hid _:=hl;have HB:Hid _:=hB;have HM:Hid (VsOwn w.heap.size (.slice (some ⟨w.heap.size,0,none⟩) 0 0) [] (w.alloc (.cells #[] 120))):=VsOwn.made _ w (Nat.le_refl _);clear hl hB hlc hcm;go_enter Tryz.func47,Tryz.ntmps47;go_wp2_with (at_builtin;refine wpList_append_vs rfl _ _ rfl w.heap.size w.heap.size [] C _ _ rfl rfl HM.out ((H.out.le HB.out).on ((Below.refl _ w).alloc (Nat.le_refl _) _)) (by simp) (by simpa using HL.out) ?_);intro v' w1 hown hg;have HO:Hid (VsOwn w.heap.size v' C w1):=hown;have HG:Hid (Below w.heap.size w w1):=below_grown ((Below.refl _ w).alloc (Nat.le_refl _) _) (by simp) HM.out hg;clear hown hg;go_wp2;go_ret;exact⟨_,rfl,HO.out.at,HG.out⟩
theorem grow29(n:Nat)(w:World)(hn:n<=1048576):
  Calls Tryz.prog 266 #[sy,iw n] w fun e w'=>∃v',e=.returned v'/\VsOwn w.heap.size v' [] w'/\Below w.heap.size w w':=by
 obtain⟨i0,hi,hz0,hz1,hz2⟩:=info_parts info30;by_cases h0:n=0
 ·subst h0;go_enter Tryz.func266,Tryz.ntmps266;go_wp2;go_ret;exact⟨_,rfl,VsOwn.nil _ _,Below.refl _ _⟩
 ·have hrz:=fun ty=>Lib.run_append_grow_zeros (P:=Tryz.prog) w 63 3 ty 120 i0 _ .i64 .i64 Tryz.underlying63 Tryz.underlying3 hi hz0 none 0 0 [] (run_firstCells_none w.drew i0.size 0 0 0) n (by omega) (by rw[hz1];decide) (by omega) (by omega) (by rw[hz2];omega) (by rw[hz2];exact growslice_fits (by omega) (by omega));have hG:=grownCap_ge w (0+n) 0 120;have hG2:=grownCap_le_maxLen w (0+n) 0 120 (by unfold maxLen;omega);simp only[Nat.zero_add]at hrz hG hG2;obtain⟨G,hGe⟩:=xj (grownCap w n 0 120);rw[hGe]at hrz hG hG2;obtain⟨cur,hcur⟩:∃cur,cur=(([]:List Value).toArray++Builtin.zeroCells (Value.agg #[uw 0,ui 0,ui 0,ui 0,su,.bool false]).cells n++Builtin.zeroCells (Value.agg #[uw 0,ui 0,ui 0,ui 0,su,.bool false]).cells (G-n)):=⟨_,rfl⟩;rw[<-hcur]at hrz;have HS:Hid (cur.size=G*6):=by show _=_;rw[hcur];simp only[Array.size_append,List.size_toArray,size_zeroCells,List.length_nil];show 0+n*6+(G-n)*6=G*6;omega
  have HG:Hid (G<=maxLen):=hG2;have h1:¬((n:Int)<0):=by omega
  have h2:(0:Int)<n:=by omega
  clear hcur hGe hi hz0 hz1 hz2 hG2;go_enter Tryz.func266,Tryz.ntmps266;go_wp2_with (at_builtin;refine Lib.wpList_append_run _ rfl _ _ _ _ rfl _ _ rfl rfl _ _ (hrz _) ?_);go_ret;refine⟨_,rfl,⟨by simp[vfl],.inr ⟨w.heap.size,G,cur,rfl,Nat.le_refl _,heap_alloc_new w.drew _,Nat.zero_le _,HG.out,HS.out,by simp[vfl]⟩⟩,?_⟩;exact⟨rfl,rfl,rfl,by simp,fun k hk=>heap_alloc_old w.drew _ hk⟩
def dz:Value×List Ve:=(sy,[])
def cat:List (Value×List Ve)->List Ve
 |[]=>[]
 |x::r=>x.2++cat r
theorem cat_snoc(l:List (Value×List Ve))(x:Value×List Ve):cat (l++[x])=cat l++x.2:=by
 induction l with
 |nil=>simp[cat]
 |cons a l ih=>simp[cat,ih]
theorem cat_take{LS:List (Value×List Ve)}{k:Nat}(h:k<LS.length):cat (LS.take (k+1))=cat (LS.take k)++(LS.getD k dz).2:=by rw[List.take_succ_eq_append_getElem h,cat_snoc];simp[List.getD,h]
theorem cat_le(LS:List (Value×List Ve))(k:Nat):(cat (LS.take k)).length<=(cat LS).length:=by
 induction LS generalizing k with
 |nil=>simp[cat]
 |cons a l ih=>
  cases k with
  |zero=>simp[cat]
  |succ k=>
   have:=ih k;simp only[List.take_succ_cons,cat,List.length_append];omega
theorem concat23(B sb:Nat)(LS:List (Value×List Ve))(w:World)(hc:∀k,k<LS.length->w.cell? ⟨sb,k,none⟩=some (LS.getD k dz).1)(hv:∀k,k<LS.length->VsAt B (LS.getD k dz).1 (LS.getD k dz).2 w)
  (hsb:sb<w.heap.size) (hB:B<=w.heap.size) (hl:(cat LS).length<=1048576) (hn:LS.length<=1000):
  Calls Tryz.prog 241 #[.slice (some ⟨sb,0,none⟩) LS.length LS.length] w fun e w'=>∃v',e=.returned v'/\VsAt w'.heap.size v' (cat LS) w'/\Below w.heap.size w w':=by
 have HC:Hid _:=hc;have HV:Hid _:=hv;have HSb:Hid _:=hsb;have HB:Hid _:=hB;have HL:Hid _:=hl;clear hc hv hsb hB hl;go_enter Tryz.func241,Tryz.ntmps241;go_wp2_with fail;go_loopw [3,11] (fun s i wr=>∃k:Nat,k<=LS.length/\i=iw k/\s=iw (cat (LS.take k)).length/\w=wr) (fun _ i _=>LS.length-(intOf i).toNat)
 case atStart=>exact⟨0,Nat.zero_le _,rfl,by simp[cat],rfl⟩
 case round=>
  obtain⟨k,hk,rfl,rfl,rfl⟩:=hrel;by_cases hkl:k<LS.length
  ·have c0:=HC.out k hkl;obtain⟨ao,cap,hvk,hlc,hcm,_⟩:=HV.out k hkl;rw[hvk]at c0;clear hvk;have HT:Hid _:=cat_take hkl;have hle:(cat (LS.take k)).length<=1048576:=Nat.le_trans (cat_le LS k) HL.out;have hle2:(cat (LS.take k)).length+(LS.getD k dz).2.length<=1048576:=by have h1:=cat_le LS (k+1);rw[HT.out,List.length_append]at h1;exact Nat.le_trans h1 HL.out
   have HT2:Hid ((cat (LS.take (k+1))).length=(cat (LS.take k)).length+(LS.getD k dz).2.length):=by rw[HT.out];show _=_;simp
   clear HT;generalize (LS.getD k dz).2.length=m at*;generalize (cat (LS.take k)).length=t at*;have hkl':(k:Int)<LS.length:=by omega
   have hadd:IntKind.i64.wrap ((t:Int)+m)=((t+m:Nat):Int):=by simp[IntKind.wrap,IntKind.signed,IntKind.bits];omega
   have hnn:¬(((t+m:Nat):Int)<0):=by omega
   go_wp2_with fail;go_roundw
   case rel=>exact⟨k+1,by omega,by go_num,by rw[HT2.out];go_num,by trivial⟩
   case measure=>simp[intOf];omega
  ·have hkl':¬(k:Int)<LS.length:=by omega
   have HK:Hid (cat (LS.take k)=cat LS):=by rw[List.take_of_length_le (by omega)];exact rfl
   rw[HK.out];clear HK;go_wp2_with fail;refine(grow29 _ _ HL.out).mono ?_;rintro e w1 ⟨v1,rfl,ho1,hb1⟩;have HO:Hid _:=ho1;have H1:Hid _:=hb1;clear ho1 hb1;go_wp2_with fail;go_loopw [6,27] (fun s i wr=>∃k:Nat,k<=LS.length/\i=iw k/\VsOwn w.heap.size s (cat (LS.take k)) wr/\Below w.heap.size w wr) (fun _ i _=>LS.length-(intOf i).toNat)
   case atStart=>exact⟨0,Nat.zero_le _,rfl,HO.out,H1.out⟩
   case round=>
    obtain⟨k,hk,rfl,hown,hbr⟩:=hrel;have HOk:Hid _:=hown;have HBr:Hid _:=hbr;clear hown hbr;by_cases hkl:k<LS.length
    ·have c0:wr.cell? ⟨sb,k,none⟩=some (LS.getD k dz).1:=by rw[HBr.out.cell (p:=⟨_,_,none⟩) HSb.out];exact HC.out k hkl
     have HVk:Hid (VsAt w.heap.size (LS.getD k dz).1 (LS.getD k dz).2 wr):=((HV.out k hkl).le HB.out).on HBr.out;have HT:Hid _:=cat_take hkl;have HLe:Hid ((cat (LS.take k)).length+(LS.getD k dz).2.length<=1048576):=by have h1:=cat_le LS (k+1);rw[HT.out,List.length_append]at h1;exact Nat.le_trans h1 HL.out
     generalize (LS.getD k dz).1=vk at*;generalize (LS.getD k dz).2=Xk at*;have hkl':(k:Int)<LS.length:=by omega
     go_wp2_with (at_builtin;refine wpList_append_vs rfl _ _ rfl w.heap.size w.heap.size (cat (LS.take k)) Xk _ _ rfl rfl HOk.out HVk.out HBr.out.size HLe.out ?_);intro v' w2 hown hg;have HO2:Hid (VsOwn w.heap.size v' (cat (LS.take (k+1))) w2):=by rw[HT.out];exact hown
     have HB2:Hid (Below w.heap.size w w2):=below_grown HBr.out HBr.out.size HOk.out hg;clear hown hg;go_wp2_with fail;go_roundw
     case rel=>exact⟨k+1,by omega,by go_num,HO2.out,HB2.out⟩
     case measure=>simp[intOf];omega
    ·have hkl':¬(k:Int)<LS.length:=by omega
     go_wp2;go_ret;have hf:=HOk.out;rw[List.take_of_length_le (by omega)]at hf;exact⟨_,rfl,VsOwn.at (base:=w.heap.size) hf,HBr.out⟩
open Go.RowKit Go.Sort
structure Veil(p:Prop):Prop where
 out:p
theorem vq_step{P:Program}{ops:Array Oper}{C:World->Prop}{Q:Act->Prop}{a:Act}{o:Oper}{rest:List Oper}
  (h:∀K:Act->Prop,(∀a,Veil (wpQuiet P ops C Q rest a)->K a)->if Region.wanted o (yielded ops a.tmps)then o.quiet P a C K else K (a.put o.dst undef)):Veil (wpQuiet P ops C Q (o::rest) a):=
 ⟨wpQuiet_step fun K hK=>h K fun a ha=>hK a ha.out⟩
theorem vq_nil{P:Program}{ops:Array Oper}{C:World->Prop}{Q:Act->Prop}{a:Act}(h:Q a):Veil (wpQuiet P ops C Q [] a):=⟨wpQuiet_nil h⟩
def stepB(C:List Ve)(i:Nat):Bool:=vOk (C.getD i dv)&&(i==0||ltS (C.getD i dv).p (C.getD i dv).l (C.getD (i-1) dv))
theorem okFrom_idx:∀(C:List Ve) (u:Ve),okFrom (some u) C=true↔∀i,i<C.length->stepB (u::C) (i+1)=true
 |[],u=>by simp[okFrom]
 |v::r,u=>by
  unfold okFrom;rw[Bool.and_eq_true,okFrom_idx r v];constructor
  ·rintro⟨h1,h2⟩ i hi;cases i with
   |zero=>simpa[stepB]using h1
   |succ i=>
    have:=h2 i (by simpa using hi);simpa[stepB]using this
  ·intro h;refine⟨by simpa[stepB]using h 0 (by simp),fun i hi=>?_⟩;have:=h (i+1) (by simpa using hi);simpa[stepB]using this
theorem rightC_idx{C:List Ve}(hl:C.length<=1000):rightC C=true↔∀i,i<C.length->stepB C i=true:=by
 unfold rightC;rw[Bool.and_eq_true,decide_eq_true_eq];cases C with
 |nil=>simp[okFrom]
 |cons v r=>
  unfold okFrom;rw[Bool.and_eq_true,okFrom_idx];constructor
  ·rintro⟨⟨h1,h2⟩,_⟩ i hi;cases i with
   |zero=>simpa[stepB]using h1
   |succ i=>exact h2 i (by simpa using hi)
  ·intro h;exact⟨⟨by simpa[stepB]using h 0 (by simp),fun i hi=>h (i+1) (by simpa using hi)⟩,hl⟩
theorem right12(B:Nat)(C:List Ve)(v:Value)(w:World)(hv:VsAt B v C w)(hB:B<=w.heap.size):
  Calls Tryz.prog 196 #[v] w fun e w'=>e=.returned (.bool (rightC C))/\Below w.heap.size w w':=by
 obtain⟨ao,cap,rfl,hlc,hcm,hx⟩:=hv;obtain⟨r,hr⟩:=xj (rightC C);rw[hr];have HR:Hid _:=hr;have HX:Hid _:=hx;have HB:Hid _:=hB;have HC:Hid _:=hlc;have HM:Hid _:=hcm;clear hr hx hB hlc hcm;by_cases hlen:C.length<=1000
 ·have HI:Hid (rightC C=true↔∀i,i<C.length->stepB C i=true):=rightC_idx hlen;have hlen':¬(1000<(C.length:Int)):=by omega
  go_enter Tryz.func196,Tryz.ntmps196;go_wp2_with fail;go_loopw [10] (fun i wr=>∃k:Nat,k<=C.length/\i=iw k/\(∀j,j<k->stepB C j=true)/\Below w.heap.size w wr) (fun i _=>C.length-(intOf i).toNat)
  case atStart=>exact⟨0,Nat.zero_le _,rfl,fun j hj=>absurd hj (by omega),Below.refl _ _⟩
  case round=>
   obtain⟨k,hk,rfl,hall,hbr⟩:=hrel;have HE:Hid _:=hall;clear hall;by_cases hkl:k<C.length
   ·obtain⟨b,off,rfl,hb,hc⟩:=HX.out (by have:=HC.out;omega);have hbw:b<w.heap.size:=Nat.lt_of_lt_of_le (hb (by omega)) HB.out;have HCk:Hid (∀i,i<C.length->VeAt wr b (off+i*6) (C.getD i dv)):=fun i hi=>(hc i hi).on hbr hbw;have HK:Hid (stepB C k=true->∀j,j<k+1->stepB C j=true):=fun h j hj=>by
     by_cases hjk:j=k
     ·subst hjk;exact h
     ·exact HE.out j (by omega)
    have HN:Hid (stepB C k=false->r=false):=fun h=>by rw[<-HR.out];rw[Bool.eq_false_iff];intro h2;rw[HI.out.1 h2 k hkl]at h;cases h
    have HSt:Hid (stepB C k=(vOk (C.getD k dv)&&(k==0||ltS (C.getD k dv).p (C.getD k dv).l (C.getD (k-1) dv)))):=rfl;obtain⟨st,hst⟩:=xj (stepB C k);rw[hst]at HK HN HSt;clear hst;have hck:=HCk.out k hkl;clear hc hb;have hkl':(k:Int)<C.length:=by omega
    have hbr':b<wr.heap.size:=by have:=hbr.size;omega
    by_cases hk0:k=0
    ·subst hk0;clear HCk;have HS2:Hid (st=vOk (C.getD 0 dv)):=by rw[HSt.out];show _=_;simp
     clear HSt;generalize C.getD 0 dv=x at hck HS2;obtain⟨xp,xl,xc,xn,xs,xd⟩:=x;obtain⟨e0,e1,e2,e3,e4,e5⟩:=hck;dsimp only at e0 e1 e2 e3 e4 e5;simp only[Nat.zero_mul,Nat.add_zero]at e0 e1 e2 e3 e4 e5;go_wp2_with fail;obtain⟨w4,hw4⟩:∃w4,w4=wr.alloc (.cells #[uw xp,ui xl,ui xc,ui xn,sd xs,.bool xd] 120):=⟨_,rfl⟩;have hv4:VeAt w4 wr.heap.size 0 ⟨xp,xl,xc,xn,xs,xd⟩:=by rw[hw4];exact⟨by simp[go_sem],by simp[go_sem],by simp[go_sem],by simp[go_sem],by simp[go_sem],by simp[go_sem],_,_,heap_alloc_new wr _⟩
     have H4:Hid (Below w.heap.size w w4):=by rw[hw4];exact hbr.alloc hbr.size _
     rw[<-hw4];clear hw4 e0 e1 e2 e3 e4 e5;obtain⟨e0,e1,e2,e3,e4,e5⟩:=hv4;dsimp only at e0 e1 e2 e3 e4 e5;simp only[Nat.zero_add]at e1 e2 e3 e4 e5;have g0:=cell_regrown e0;have g1:=cell_regrown e1;have g2:=cell_regrown e2;have g3:=cell_regrown e3;have g4:=cell_regrown e4;have g5:=cell_regrown e5;have cA:Hid (∀d os,Calls Tryz.prog 237 #[.agg #[uw xp,ui xl,ui xc,ui xn,sd xs,.bool xd]] (grow (redrawn w4 d) os) fun e w''=>e=.returned (.bool st)/\∃p:Regrown,w''=grow (redrawn w4 p.d) p.os):=fun d os=>Calls.regrown_of (by rw[HS2.out];exact fits20 ⟨xp,xl,xc,xn,xs,xd⟩ _);clear HS2;cases st
     all_goals
      refine wp_region_quiet_below (by kernel_rfl) (by kernel_rfl) (Veil.out ?_);repeat (refine vq_step (fun K hK=>?_);go_simp;refine hK _ ?_;clear hK K)
      (refine vq_step (fun K hK=>?_);go_simp;apply Exists.intro;refine⟨fun _=>?_,hK _ ?_⟩;exact cA.out _ _;clear hK K)
      repeat (refine vq_step (fun K hK=>?_);go_simp;refine hK _ ?_;clear hK K)
      refine vq_nil ?_;intro _ hw';obtain⟨⟨dq,osq⟩,hw''⟩:=hw';subst hw'';have H5:Hid (Below w.heap.size w (grow (redrawn w4 dq) osq)):=H4.out.trans ((below_regrown w4 dq osq).mono H4.out.size)
     ·have HX2:Hid _:=HN.out rfl;go_wp2;go_ret;rw[HX2.out];exact⟨rfl,H5.out⟩
     ·have HX2:Hid _:=HK.out rfl;go_wp2;go_roundw
      case rel=>exact⟨1,by omega,by go_num,HX2.out,H5.out⟩
      case measure=>simp[intOf];omega
    ·have hck2:=HCk.out (k-1) (by omega);clear HCk;have HS2:Hid (st=(vOk (C.getD k dv)&&ltS (C.getD k dv).p (C.getD k dv).l (C.getD (k-1) dv))):=by rw[HSt.out,show(k==0)=false from by simp[hk0]];show _=_;simp
     clear HSt;generalize C.getD k dv=x at hck HS2;generalize C.getD (k-1) dv=y at hck2 HS2;obtain⟨k1,hk1⟩:∃k1:Nat,k=k1+1:=⟨k-1,by omega⟩;subst hk1;clear hk0;simp only[Nat.add_sub_cancel]at hck2;obtain⟨xp,xl,xc,xn,xs,xd⟩:=x;obtain⟨yp,yl,yc,yn,ys,yd⟩:=y;have hck2':=hck2.on ((Below.refl wr.heap.size wr).alloc (Nat.le_refl _) (.cells #[uw xp,ui xl,ui xc,ui xn,sd xs,.bool xd] 120)) hbr';clear hck2;obtain⟨e0,e1,e2,e3,e4,e5⟩:=hck;dsimp only at e0 e1 e2 e3 e4 e5;go_wp2_with fail;obtain⟨w4,hw4⟩:∃w4,w4=wr.alloc (.cells #[uw xp,ui xl,ui xc,ui xn,sd xs,.bool xd] 120):=⟨_,rfl⟩;have hv4:VeAt w4 wr.heap.size 0 ⟨xp,xl,xc,xn,xs,xd⟩:=by rw[hw4];exact⟨by simp[go_sem],by simp[go_sem],by simp[go_sem],by simp[go_sem],by simp[go_sem],by simp[go_sem],_,_,heap_alloc_new wr _⟩
     have H4:Hid (Below w.heap.size w w4):=by rw[hw4];exact hbr.alloc hbr.size _
     rw[<-hw4]at hck2'|-;clear hw4 e0 e1 e2 e3 e4 e5;obtain⟨e0,e1,e2,e3,e4,e5⟩:=hv4;dsimp only at e0 e1 e2 e3 e4 e5;simp only[Nat.zero_add]at e1 e2 e3 e4 e5;have g0:=cell_regrown e0;have g1:=cell_regrown e1;have g2:=cell_regrown e2;have g3:=cell_regrown e3;have g4:=cell_regrown e4;have g5:=cell_regrown e5;have m0:=cell_regrown hck2'.c0;have m1:=cell_regrown hck2'.c1;clear hck2' e0 e1 e2 e3 e4 e5;dsimp only at m0 m1;obtain⟨s1,hs1⟩:=xj (vOk ⟨xp,xl,xc,xn,xs,xd⟩);obtain⟨s2,hs2⟩:=xj (lessB xp xl yp yl);have HS3:Hid (st=(s1&&s2)):=by rw[HS2.out,<-hs1,<-hs2];exact rfl
     have cA:Hid (∀d os,Calls Tryz.prog 237 #[.agg #[uw xp,ui xl,ui xc,ui xn,sd xs,.bool xd]] (grow (redrawn w4 d) os) fun e w''=>e=.returned (.bool s1)/\∃p:Regrown,w''=grow (redrawn w4 p.d) p.os):=fun d os=>Calls.regrown_of (by rw[<-hs1];exact fits20 ⟨xp,xl,xc,xn,xs,xd⟩ _);have cB:Hid (∀d os,Calls Tryz.prog 87 #[.agg #[uw xp,ui xl],.agg #[uw yp,ui yl]] (grow (redrawn w4 d) os) fun e w''=>e=.returned (.bool s2)/\∃p:Regrown,w''=grow (redrawn w4 p.d) p.os):=fun d os=>Calls.regrown_of (by rw[<-hs2];exact lessP _ _ _ _ _);clear HS2 hs1 hs2;have hkk:¬((k1+1:Int)<=0):=by omega
     have hk2:((k1+1:Nat):Int)>0:=by omega
     have hkm:IntKind.i64.wrap (k1:Int)=k1:=by simp[IntKind.wrap,IntKind.signed,IntKind.bits];omega
     have hkm2:(k1:Int)<C.length:=by omega
     cases s1
     ·refine wp_region_quiet_below (by kernel_rfl) (by kernel_rfl) (Veil.out ?_);repeat (refine vq_step (fun K hK=>?_);go_simp;refine hK _ ?_;clear hK K)
      (refine vq_step (fun K hK=>?_);go_simp;apply Exists.intro;refine⟨fun _=>?_,hK _ ?_⟩;exact cA.out _ _;clear hK K)
      repeat (refine vq_step (fun K hK=>?_);go_simp;refine hK _ ?_;clear hK K)
      refine vq_nil ?_;intro _ hw';obtain⟨⟨dq,osq⟩,hw''⟩:=hw';subst hw'';have H5:Hid (Below w.heap.size w (grow (redrawn w4 dq) osq)):=H4.out.trans ((below_regrown w4 dq osq).mono H4.out.size);have HX2:Hid _:=HN.out (by rw[HS3.out];rfl);go_wp2;go_ret;rw[HX2.out];exact⟨rfl,H5.out⟩
     ·cases s2
      all_goals
       refine wp_region_quiet_below (by kernel_rfl) (by kernel_rfl) (Veil.out ?_);repeat (refine vq_step (fun K hK=>?_);go_simp;refine hK _ ?_;clear hK K)
       (refine vq_step (fun K hK=>?_);go_simp;apply Exists.intro;refine⟨fun _=>?_,hK _ ?_⟩;exact cA.out _ _;clear hK K)
       repeat (refine vq_step (fun K hK=>?_);go_simp;refine hK _ ?_;clear hK K)
       (refine vq_step (fun K hK=>?_);go_simp;apply Exists.intro;refine⟨fun _=>?_,hK _ ?_⟩;exact cB.out _ _;clear hK K)
       repeat (refine vq_step (fun K hK=>?_);go_simp;refine hK _ ?_;clear hK K)
       refine vq_nil ?_;intro _ hw';obtain⟨⟨dq,osq⟩,hw''⟩:=hw';subst hw'';have H5:Hid (Below w.heap.size w (grow (redrawn w4 dq) osq)):=H4.out.trans ((below_regrown w4 dq osq).mono H4.out.size)
      ·have HX2:Hid _:=HN.out (by rw[HS3.out];rfl);go_wp2;go_ret;rw[HX2.out];exact⟨rfl,H5.out⟩
      ·have HX2:Hid _:=HK.out (by rw[HS3.out];rfl);go_wp2;go_roundw
       case rel=>exact⟨k1+1+1,by omega,by go_num,HX2.out,H5.out⟩
       case measure=>simp[intOf];omega
   ·have hkl':¬(k:Int)<C.length:=by omega
    have HX2:Hid (r=true):=by show _=_;rw[<-HR.out];exact HI.out.2 fun i hi=>HE.out i (by omega)
    go_wp2;go_ret;rw[HX2.out];exact⟨rfl,hbr⟩
 ·have hlen':1000<(C.length:Int):=by omega
  have HX2:Hid (r=false):=by show _=_;rw[<-HR.out];unfold rightC;rw[decide_eq_false hlen];simp
  go_enter Tryz.func196,Tryz.ntmps196;go_wp2;go_ret;rw[HX2.out];exact⟨rfl,Below.refl _ _⟩
end Go.Proofs.YtdplfgcoaddbdaaGreat.Sto
