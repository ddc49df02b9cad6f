import Derived.Lib.AppendZerosOnto
import Derived.Test.YtnfpfbehebcdpaaGreatUac
set_option maxHeartbeats 0
set_option maxRecDepth 99999
set_option linter.all false
namespace Go.Proofs.YtnfpfbehebcdpaaGreat.Sto
structure Ve where
 p:Int
 l:Int
 c:Int
 n:Int
 val:Bi
 dead:Bool
def ltS(p l:Int)(u:Ve):Bool:=decide (p<u.p\/p=u.p/\l<u.l)
def P9{p l:Int}{u:Ve}:ltS p l u=true↔(p<u.p\/p=u.p/\l<u.l):=by simp[ltS]
def auj{p l:Int}{u:Ve}:ltS p l u=false↔¬(p<u.p\/p=u.p/\l<u.l):=by unfold ltS;exact uh
def atB(u v:Ve):Bool:=u.p==v.p&&u.l==v.l
def av1{u v:Ve}:atB u v=true↔u.p=v.p/\u.l=v.l:=by simp[atB]
def eqV(u v:Ve):Bool:=u.p==v.p&&u.l==v.l&&u.c==v.c&&u.n==v.n&&u.val==v.val&&u.dead==v.dead
def avd{u v:Ve}:eqV u v=true↔u=v:=by obtain⟨a,b,c,d,e,f⟩:=u;obtain⟨a',b',c',d',e',f'⟩:=v;simp[eqV,and_assoc]
def vOk(v:Ve):Bool:=decide (v.p<=281474976710656/\v.l<=4095)&&decide (v.val.length<=256)&&(!v.dead||v.val.isEmpty)
def aen(c:List Ve):Prop:=c.Pairwise (λa b=>ltS b.p b.l a=true)
structure Ch(c:List Ve):Prop where
 ok:∀v∈c,vOk v=true
 desc:aen c
 len:c.length<=1000
def Jj:Option Ve->List Ve->Bool
 |_,[]=>true
 |none,v::r=>vOk v&&Jj (some v) r
 |some u,v::r=>vOk v&&ltS v.p v.l u&&Jj (some v) r
def Dl(c:List Ve):Bool:=Jj none c&&decide (c.length<=1000)
def X8:∀(c:List Ve) (u:Ve),Jj (some u) c=true↔(∀v∈c,vOk v=true)/\(∀v∈c,ltS v.p v.l u=true)/\aen c
 |[],u=>by simp[Jj,aen]
 |v::r,u=>by
  unfold Jj;rw[cu,cu,X8 r v];constructor
  .rintro⟨⟨h1,h2⟩,h3,h4,h5⟩;refine⟨?_,?_,dh.2 ⟨h4,h5⟩⟩
   .intro x hx;rcases au.1 hx with rfl|hx
    .exact h1
    .exact h3 x hx
   .intro x hx;rcases au.1 hx with rfl|hx
    .exact h2
    .have a:=P9.1 (h4 x hx);have b:=P9.1 h2;exact P9.2 (by omega)
  .rintro⟨h1,h2,h3⟩;obtain⟨h4,h5⟩:=dh.1 h3;exact⟨⟨h1 v (by simp),h2 v (by simp)⟩,λx hx=>h1 x (by simp[hx]),h4,h5⟩
def aff(c:List Ve):Jj none c=true↔(∀v∈c,vOk v=true)/\aen c:=by
 cases c with
 |nil=>simp[Jj,aen]
 |cons v r=>
  unfold Jj;rw[cu,X8 r v];constructor
  .rintro⟨h1,h3,h4,h5⟩;refine⟨?_,dh.2 ⟨h4,h5⟩⟩;intro x hx;rcases au.1 hx with rfl|hx
   .exact h1
   .exact h3 x hx
  .rintro⟨h1,h3⟩;obtain⟨h4,h5⟩:=dh.1 h3;exact⟨h1 v (by simp),λx hx=>h1 x (by simp[hx]),h4,h5⟩
def O8{c:List Ve}:Dl c=true↔Ch c:=by unfold Dl;rw[cu,aff,jc];exact⟨λ⟨⟨h1,h2⟩,h3⟩=>⟨h1,h2,h3⟩,λ⟨h1,h2,h3⟩=>⟨⟨h1,h2⟩,h3⟩⟩
def insF(v:Ve):List Ve->Option (List Ve)
 |[]=>some [v]
 |u::r=>if ltS v.p v.l u then(insF v r).map (u:: ·)else if atB u v then(if eqV u v then some (u::r)else none)else some (v::u::r)
def putF(c:List Ve)(v:Ve):List Ve×Int:=
 if Dl c&&vOk v then
  match insF v c with
  |none=>([],40)
  |some d=>if c.length<d.length/\1000<=c.length then([],3)else(d,0)
 else([],1)
def atR(p l:Int):List Ve->Option Ve
 |[]=>none
 |u::r=>if ltS p l u then atR p l r else some u
def atF(c:List Ve)(p l:Int):Option Ve:=if Dl c then atR p l c else none
def Jw(p l:Int):List Ve->List Ve
 |[]=>[]
 |u::r=>if ltS p l u then u::Jw p l r else if u.dead then[]else[u]
def Dc(c:List Ve)(p l:Int):List Ve:=if Dl c then Jw p l c else[]
def Uj{v:Ve}:∀{c d:List Ve},insF v c=some d->aen c->(∀x,x∈d↔x=v\/x∈c)/\aen d/\(d=c/\v∈c\/d.length=c.length+1)
 |[],d,h,_=>by simp only[insF,ja]at h;subst h;exact⟨by simp,by simp[aen],.inr rfl⟩
 |u::r,d,h,hD=>by
  obtain⟨h4,h5⟩:=dh.1 hD;unfold insF at h;by_cases h1:ltS v.p v.l u=true
  .rw[ah h1]at h;cases hi:insF v r with
   |none=>rw[hi]at h;simp at h
   |some d'=>
    rw[hi]at h;simp only[yg,ja]at h;subst h;obtain⟨a,b,e⟩:=Uj hi h5;refine⟨λx=>?_,dh.2 ⟨λx hx=>?_,b⟩,?_⟩
    .rw[au,a x,au];constructor
     .rintro(h|h|h)
      .exact .inr (.inl h)
      .exact .inl h
      .exact .inr (.inr h)
     .rintro(h|h|h)
      .exact .inr (.inl h)
      .exact .inl h
      .exact .inr (.inr h)
    .rcases(a x).1 hx with rfl|hx
     .exact h1
     .exact h4 x hx
    .rcases e with⟨rfl,e⟩|e
     .exact .inl ⟨rfl,by simp[e]⟩
     .exact .inr (by simp[e])
  .rw[ag h1]at h;by_cases h2:atB u v=true
   .rw[ah h2]at h;by_cases h3:eqV u v=true
    .rw[ah h3]at h;simp only[ja]at h;have:=avd.1 h3;subst this;subst h;exact⟨λx=>by simp,hD,.inl ⟨rfl,by simp⟩⟩
    .rw[ag h3]at h;simp at h
   .rw[ag h2]at h;simp only[ja]at h;subst h;have hlt:ltS u.p u.l v=true:=by have a:=auj.1 (Bool.eq_false_iff.2 h1);have b:¬(u.p=v.p/\u.l=v.l):=λhh=>h2 (av1.2 hh);exact P9.2 (by omega)
    refine⟨λx=>by simp,dh.2 ⟨λx hx=>?_,hD⟩,.inr (by simp)⟩;rcases au.1 hx with rfl|hx
    .exact hlt
    .have a:=P9.1 (h4 x hx);have b:=P9.1 hlt;exact P9.2 (by omega)
def Yp{c d:List Ve}{v:Ve}(h:putF c v=(d,0)):Ch c/\Ch d/\vOk v=true/\insF v c=some d/\∀x,x∈d↔x=v\/x∈c:=by
 unfold putF at h;by_cases h1:(Dl c&&vOk v)=true
 .rw[ah h1]at h;rw[cu,O8]at h1;cases hi:insF v c with
  |none=>rw[hi]at h;simp at h
  |some d'=>
   rw[hi]at h;dsimp only at h;by_cases h2:c.length<d'.length/\1000<=c.length
   .rw[ah h2]at h;simp at h
   .rw[ag h2]at h;simp only[ny,and_true]at h;subst h;obtain⟨a,b,e⟩:=Uj hi h1.1.desc;have hl:=h1.1.len;refine⟨h1.1,⟨λx hx=>?_,b,?_⟩,h1.2,rfl,a⟩
    .rcases(a x).1 hx with rfl|hx
     .exact h1.2
     .exact h1.1.ok x hx
    .rcases e with⟨rfl,_⟩|e
     .exact hl
     .omega
 .rw[ag h1]at h;simp at h
def Z7(p l:Int):∀c:List Ve,∃r,c=Jw p l c++r
 |[]=>⟨[],rfl⟩
 |u::r=>by
  obtain⟨r',h⟩:=Z7 p l r;unfold Jw;split
  .exact⟨r',by rw[lu,<-h]⟩
  .split
   .exact⟨u::r,rfl⟩
   .exact⟨r,rfl⟩
def abu{c:List Ve}(h:Ch c)(p l:Int):Ch (Jw p l c)/\(Jw p l c).length<=c.length:=by
 obtain⟨r,hr⟩:=Z7 p l c;have hl:c.length=(Jw p l c).length+r.length:=by have:=iq List.length hr;simpa using this
 have hlen:=h.len;refine⟨⟨λv hv=>h.ok v (by rw[hr];simp[hv]),?_,by omega⟩,by omega⟩;have hd:=h.desc;unfold aen at hd|-;rw[hr]at hd;exact(List.pairwise_append.1 hd).1
open Go.RowKit
def Ag(p l:Int):Bool:=decide (p<=281474976710656/\l<=4095)
def Ar(p l q m:Int):Bool:=decide (p<q\/p=q/\l<m)
def Dj{a b:Bool}(h:a=b):Ending.returned (.bool a)=.returned (.bool b):=by rw[h]
def Jb(p l:Int)(w:World):
  cpr 109 #[.agg #[uw p,ui l]] w λe w'=>e=.returned (.bool (Ag p l))/\Bw w w':=by
 exact axh
def Ya(p l q m:Int)(w:World):
  cpr 84 #[.agg #[uw p,ui l],.agg #[uw q,ui m]] w λe w'=>e=.returned (.bool (Ar p l q m))/\Bw w w':=by
 exact ato
def veV(v:Ve):Value:=.agg #[uw v.p,ui v.l,ui v.c,ui v.n,sd v.val,.bool v.dead]
def vcs(v:Ve):List Value:=[uw v.p,ui v.l,ui v.c,ui v.n,sd v.val,.bool v.dead]
def eqB(p l q m:Int):Bool:=p==q&&l==m
def ak6(p l q m:Int)(w:World):(binOp .eql 38 (.agg #[uw p,ui l]) (.agg #[uw q,ui m])).run Tryz.prog w=.ok (.bool (eqB p l q m)) w:=by by_cases h:p=q<;>by_cases h2:l=m<;>simp[go_sem,eqB,h,h2]
def ak4(p l c n:Int)(s:Bi)(d:Bool)(p' l' c' n':Int)(s':Bi)(d':Bool)(w:World):(binOp .neq 63 (.agg #[uw p,ui l,ui c,ui n,sd s,.bool d]) (.agg #[uw p',ui l',ui c',ui n',sd s',.bool d'])).run Tryz.prog w=.ok (.bool (!eqV ⟨p,l,c,n,s,d⟩ ⟨p',l',c',n',s',d'⟩)) w:=by
 simp[go_sem,eqV,Ol];repeat' split
 all_goals simp_all
def Jo(s:Bi):(bs s).toList.isEmpty=s.isEmpty:=by rw[Gq,D6]
def Xz{w w1:World}{o:Obj}(hb:Below (w.alloc o).heap.size (w.alloc o) w1):Bw w w1:=
 (al _).trans (hb.mono (by simp))
def ah3(v:Ve)(w:World):cpr 83 #[veV v] w λe w'=>e=.returned (.bool (vOk v))/\Bw w w':=by
 obtain⟨p,l,c,n,s,d⟩:=v;unfold veV;dsimp only;have he:=Jo s;have hz:=Bq s;obtain⟨r,hr⟩:=xj (vOk ⟨p,l,c,n,s,d⟩);rw[hr];have HR:Hid (r=(Ag p l&&decide (s.length<=256)&&(!d||s.isEmpty))):=by rw[<-hr];exact rfl
 clear hr;have HZ:Hid _:=hz;clear hz;cases d
 .go_enter Tryz.func83,Tryz.ntmps83;go_wp2_with fail;refine(Jb _ _ _).mono ?_;rintro e w1 ⟨rfl,hb⟩;obtain⟨hc,hf⟩:=Fe hb;cases hq:Ag p l
  .go_wp2;go_ret;exact⟨Dj (by rw[HR.out,hq];simp),Xz hb⟩
  .go_wp2;go_ret;exact⟨Dj (by rw[HR.out,hq,HZ.out];simp;omega),Xz hb⟩
 .cases hm:s.isEmpty
  .rw[hm]at he;go_enter Tryz.func83,Tryz.ntmps83;go_wp2;go_ret;exact⟨Dj (by rw[HR.out,hm];simp),al _⟩
  .rw[hm]at he;go_enter Tryz.func83,Tryz.ntmps83;go_wp2_with fail;refine(Jb _ _ _).mono ?_;rintro e w1 ⟨rfl,hb⟩;obtain⟨hc,hf⟩:=Fe hb;cases hq:Ag p l
   .go_wp2;go_ret;exact⟨Dj (by rw[HR.out,hq];simp),Xz hb⟩
   .go_wp2;go_ret;exact⟨Dj (by rw[HR.out,hq,HZ.out,hm];simp;omega),Xz hb⟩
def Dt(p l:Int):List Ve->Nat
 |[]=>0
 |u::r=>if ltS p l u then Dt p l r+1 else 0
def Qu(p l:Int):∀c:List Ve,Dt p l c<=c.length
 |[]=>ai _
 |u::r=>by have:=Qu p l r;unfold Dt;split<;>simp only[bg]<;>omega
def Zk{p l:Int}:∀{c:List Ve} {k:Nat},k<=c.length->(∀(j:Nat) (u:Ve),j<k->c[j]?=some u->ltS p l u=true)->(∀u,c[k]?=some u->ltS p l u=false)->Dt p l c=k
 |[],k,hk,_,_=>by
  have:k=0:=by simpa using hk
  subst this;rfl
 |u::r,0,_,_,h=>by have:=h u rfl;unfold Dt;rw[this];rfl
 |u::r,k+1,hk,h1,h2=>by have h0:=h1 0 u (by omega) rfl;have ih:=Zk (p:=p) (l:=l) (c:=r) (k:=k) (by simpa using hk) (λj x hj hx=>h1 (j+1) x (by omega) (by simpa using hx)) (λx hx=>h2 x (by simpa using hx));unfold Dt;rw[h0,ah rfl,ih]
def agf(p l:Int):∀c:List Ve,atR p l c=c[Dt p l c]?
 |[]=>rfl
 |u::r=>by
  have ih:=agf p l r;unfold atR Dt;by_cases h:ltS p l u=true
  .rw[ah h,ah h,ih];simp
  .rw[ag h,ag h];simp
def X7(p l:Int):∀c:List Ve,Jw p l c=match c[Dt p l c]?with
  |some u=>if u.dead then c.take (Dt p l c)else c.take (Dt p l c+1)
  |none=>c
 |[]=>rfl
 |u::r=>by
  have ih:=X7 p l r;unfold Jw Dt;by_cases h:ltS p l u=true
  .rw[ah h,ah h,ih];simp only[List.getElem?_cons_succ];cases hc:r[Dt p l r]?with
   |none=>rfl
   |some x=>
    cases hd:x.dead<;>simp[hd]
  .rw[ag h,ag h];simp only[List.getElem?_cons_zero];cases hd:u.dead<;>simp
def S9(v:Ve):∀c:List Ve,insF v c=match c[Dt v.p v.l c]?with
  |some u=>if atB u v then(if eqV u v then some c else none)else some (c.take (Dt v.p v.l c)++v::c.drop (Dt v.p v.l c))
  |none=>some (c++[v])
 |[]=>rfl
 |u::r=>by
  have ih:=S9 v r;unfold insF Dt;by_cases h:ltS v.p v.l u=true
  .rw[ah h,ah h,ih];simp only[List.getElem?_cons_succ];cases hc:r[Dt v.p v.l r]?with
   |none=>rfl
   |some x=>
    cases h1:atB x v<;>cases h2:eqV x v<;>simp[h1,h2]
  .rw[ag h,ag h];simp only[List.getElem?_cons_zero];rfl
def dv:Ve:=⟨0,0,0,0,[],false⟩
structure VeAt(w:World)(b off:Nat)(x:Ve):Prop where
 c0:w.cell? ⟨b,off,none⟩=some (uw x.p)
 c1:w.cell? ⟨b,off+1,none⟩=some (ui x.l)
 c2:w.cell? ⟨b,off+2,none⟩=some (ui x.c)
 c3:w.cell? ⟨b,off+3,none⟩=some (ui x.n)
 c4:w.cell? ⟨b,off+4,none⟩=some (sd x.val)
 c5:w.cell? ⟨b,off+5,none⟩=some (.bool x.dead)
 ty:∃cs fz,w.heap[b]?=some (.cells cs 63 fz)
def VeAt.on{w w':World}{B b off:Nat}{x:Ve}(h:VeAt w b off x)(hb:Below B w w')(hl:b<B):VeAt w' b off x:=by
 refine⟨?_,?_,?_,?_,?_,?_,by rw[hb.block b hl];exact h.ty⟩
 .rw[hb.cell (p:=⟨b,_,none⟩) hl];exact h.c0
 .rw[hb.cell (p:=⟨b,_,none⟩) hl];exact h.c1
 .rw[hb.cell (p:=⟨b,_,none⟩) hl];exact h.c2
 .rw[hb.cell (p:=⟨b,_,none⟩) hl];exact h.c3
 .rw[hb.cell (p:=⟨b,_,none⟩) hl];exact h.c4
 .rw[hb.cell (p:=⟨b,_,none⟩) hl];exact h.c5
def VsAt(B:Nat)(v:Value)(C:List Ve)(w:World):Prop:=
 ∃ao cap,v=.slice ao C.length cap/\C.length<=cap/\cap<=9223372036854775807/\(0<cap->∃b off,ao=some ⟨b,off,none⟩/\(0<C.length->b<B)/\∀i,i<C.length->VeAt w b (off+i*6) (C.getD i dv))
def VsAt.on{B:Nat}{v:Value}{C:List Ve}{w w':World}(h:VsAt B v C w)(hb:Below B w w'):VsAt B v C w':=by obtain⟨ao,cap,rfl,hl,hm,h⟩:=h;refine⟨ao,cap,rfl,hl,hm,λh0=>?_⟩;obtain⟨b,off,rfl,hlt,hc⟩:=h h0;exact⟨b,off,rfl,hlt,λi hi=>(hc i hi).on hb (hlt (by omega))⟩
def VsAt.le{B B':Nat}{v:Value}{C:List Ve}{w:World}(h:VsAt B v C w)(hB:B<=B'):VsAt B' v C w:=by obtain⟨ao,cap,rfl,hl,hm,h⟩:=h;refine⟨ao,cap,rfl,hl,hm,λh0=>?_⟩;obtain⟨b,off,rfl,hlt,hc⟩:=h h0;exact⟨b,off,rfl,λh=>by have:=hlt h;omega,hc⟩
def Og(B:Nat)(w:World):VsAt B sy [] w:=⟨none,0,rfl,ai _,by omega,λh=>absurd h (by omega)⟩
def getD_some{C:List Ve}{k:Nat}(h:k<C.length):C[k]?=some (C.getD k dv):=by simp[List.getD,h]
def agz(B:Nat)(C:List Ve)(v:Value)(p l:Int)(w:World)(hv:VsAt B v C w)(hB:B<=w.heap.size):
  cpr 34 #[v,.agg #[uw p,ui l]] w λe w'=>e=.returned (iw (Dt p l C))/\Bw w w':=by
 obtain⟨ao,cap,rfl,hlc,hcm,hx⟩:=hv;obtain⟨r,hr⟩:=xj (Dt p l C);rw[hr];have HR:Hid _:=hr;have HX:Hid _:=hx;have HB:Hid _:=hB;have HC:Hid _:=hlc;have HM:Hid _:=hcm;clear hr hx hB hlc hcm;obtain⟨w0,hw0⟩:∃w0,w0=w.alloc (.cells #[uw p,ui l] 38):=⟨_,rfl⟩;have HW:Hid _:=hw0;have HS:Hid (w0.heap.size=w.heap.size+1):=by rw[hw0];show _=_;simp
 have HV:Hid (Bw w w0):=by rw[hw0];exact al _
 have HP:Hid (w0.cell? ⟨w.heap.size,0,none⟩=some (uw p)/\w0.cell? ⟨w.heap.size,1,none⟩=some (ui l)):=by rw[hw0];exact⟨by simp[go_sem],by simp[go_sem]⟩
 clear hw0;go_enter Tryz.func34,Tryz.ntmps34;go_wp2_with fail;rw[<-HW.out];go_loopw [9] (λi wr=>∃k:Nat,k<=C.length/\i=iw k/\(∀j,j<k->ltS p l (C.getD j dv)=true)/\Bw w0 wr) (λi _=>C.length-(intOf i).toNat)
 case atStart=>exact⟨0,eu _,rfl,λj hj=>absurd hj (by omega),aj _ _⟩
 case round=>
  obtain⟨k,hk,rfl,hall,hbr⟩:=hrel;have HE:Hid _:=hall;clear hall;have hs:=HS.out;have hq0:wr.cell? ⟨w.heap.size,0,none⟩=some (uw p):=by rw[hbr.cell (p:=⟨_,_,none⟩) (by rw[hs];exact kw _)];exact HP.out.1
  have hq1:wr.cell? ⟨w.heap.size,1,none⟩=some (ui l):=by rw[hbr.cell (p:=⟨_,_,none⟩) (by rw[hs];exact kw _)];exact HP.out.2
  have hlt0:w.heap.size<wr.heap.size:=by have:=hbr.size;omega
  by_cases hkl:k<C.length
  .obtain⟨b,off,rfl,hb,hc⟩:=HX.out (by have:=HC.out;omega);have hck:=((hc k hkl).on HV.out (iy (hb (by omega)) HB.out)).on hbr (by have:=hb (by omega);have:=HB.out;omega);have HK:Hid (ltS p l (C.getD k dv)=true->∀j,j<k+1->ltS p l (C.getD j dv)=true):=λh j hj=>by
    by_cases hjk:j=k
    .subst hjk;exact h
    .exact HE.out j (by omega)
   have HN:Hid (ltS p l (C.getD k dv)=false->r=k):=λh=>by
    rw[<-HR.out];refine Zk (by omega) (λj u hj hu=>?_) (λu hu=>?_)
    .rw[getD_some (by omega)]at hu;injection hu with hu;subst hu;exact HE.out j hj
    .rw[getD_some (by omega)]at hu;injection hu with hu;subst hu;exact h
   clear hc hb;generalize C.getD k dv=x at hck HK HN;obtain⟨xp,xl,xc,xn,xs,xd⟩:=x;obtain⟨e0,e1,e2,e3,e4,e5⟩:=hck;dsimp only at e0 e1 e2 e3 e4 e5;have hkl':(k:Int)<C.length:=by omega
   have h63:C.length<=9223372036854775807:=ak HC.out HM.out;have HL:Hid (Ar p l xp xl=ltS p l ⟨xp,xl,xc,xn,xs,xd⟩):=rfl;go_wp2_with fail;refine(Ya _ _ _ _ _).mono ?_;rintro e w3 ⟨rfl,hb3⟩;obtain⟨z3,hz3⟩:=xj (Ar p l xp xl);rw[hz3];have H3:Hid _:=hz3;clear hz3;cases z3
   .have HX2:Hid _:=HN.out (by rw[<-HL.out];exact H3.out);go_wp2;go_ret;rw[HX2.out];exact⟨rfl,HV.out.trans ((hbr.mono (by omega)).trans (Xz hb3 |>.mono (by omega)))⟩
   .have HX2:Hid _:=HK.out (by rw[<-HL.out];exact H3.out);have HB3:Hid (Bw w0 w3):=hbr.trans (Xz hb3 |>.mono hbr.size);go_wp2;go_roundw
    case rel=>exact⟨k+1,by omega,by go_num,HX2.out,HB3.out⟩
    case measure=>simp[intOf];omega
  .have hkl':¬(k:Int)<C.length:=by omega
   have HX2:Hid (r=C.length):=by
    show _=_;rw[<-HR.out];refine Zk (ai _) (λj u hj hu=>?_) (λu hu=>?_)
    .rw[getD_some (by omega)]at hu;injection hu with hu;subst hu;exact HE.out j (by omega)
    .simp at hu
   go_wp2;go_ret;rw[HX2.out];exact⟨rfl,HV.out.trans (hbr.mono (by omega))⟩
def vfl:List Ve->List Value
 |[]=>[]
 |v::r=>vcs v++vfl r
def agn(L R:List Ve):vfl (L++R)=vfl L++vfl R:=by
 induction L with
 |nil=>rfl
 |cons a L ih=>simp[vfl,ih]
def Y6(L:List Ve):(vfl L).length=L.length*6:=by
 induction L with
 |nil=>rfl
 |cons a L ih=>simp[vfl,vcs,ih];omega
def asb(L:List Ve):∀u∈vfl L,u.oneCell'=true:=by
 induction L with
 |nil=>intro u hu;simp[vfl]at hu
 |cons a L ih=>
  intro u hu;simp only[vfl,bu]at hu;rcases hu with hu|hu
  .simp only[vcs,au,List.not_mem_nil,or_false]at hu;rcases hu with rfl|rfl|rfl|rfl|rfl|rfl<;>rfl
  .exact ih u hu
def O5(v:Ve):(vcs v).length=6:=rfl
def acr:∀(L:List Ve) (i k:Nat),i<L.length->k<6->(vfl L)[i*6+k]?=(vcs (L.getD i dv))[k]?
 |[],i,k,h,_=>absurd h (by simp)
 |v::r,0,k,_,hk=>by simp only[vfl,Nat.zero_mul,ni];rw[List.getElem?_append_left (by rw[O5];exact hk)];rfl
 |v::r,i+1,k,h,hk=>by simp only[vfl];rw[List.getElem?_append_right (by rw[O5];omega),O5,show(i+1)*6+k-6=i*6+k from by omega,acr r i k (by simpa using h) hk];rfl
def aer{w:World}{b off:Nat}{x:Ve}:VeAt w b off x↔(∀k u,(vcs x)[k]?=some u->w.cell? ⟨b,off+k,none⟩=some u)/\∃cs fz,w.heap[b]?=some (.cells cs 63 fz):=by
 constructor
 .intro h;refine⟨λk u hk=>?_,h.ty⟩;match k,hk with
  |0,hk=>simp[vcs]at hk;rw[<-hk];exact h.c0
  |1,hk=>simp[vcs]at hk;rw[<-hk];exact h.c1
  |2,hk=>simp[vcs]at hk;rw[<-hk];exact h.c2
  |3,hk=>simp[vcs]at hk;rw[<-hk];exact h.c3
  |4,hk=>simp[vcs]at hk;rw[<-hk];exact h.c4
  |5,hk=>simp[vcs]at hk;rw[<-hk];exact h.c5
  |k+6,hk=>simp[vcs]at hk
 .rintro⟨h,ht⟩;exact⟨h 0 _ rfl,h 1 _ rfl,h 2 _ rfl,h 3 _ rfl,h 4 _ rfl,h 5 _ rfl,ht⟩
def Hr(base:Nat)(v:Value)(L:List Ve)(w:World):Prop:=w.ownsRow base 63 6 v L.length (vfl L)
def Hr.at{base:Nat}{v:Value}{L:List Ve}{w:World}(h:Hr base v L w):VsAt w.heap.size v L w:=by
 rcases h.2 with⟨rfl,h0⟩|⟨g,cap,cur,rfl,hb,hg,hnc,hcm,hcs,ht⟩
 .have:L=[]:=lm h0;subst this;exact Og _ _
 .refine⟨_,cap,rfl,hnc,by unfold maxLen at hcm;omega,λ_=>⟨g,0,rfl,λ_=>(gsz hg),λi hi=>?_⟩⟩;rw[aer];refine⟨λk u hk=>?_,_,_,hg⟩;have hk6:k<6:=by
   rcases Nat.lt_or_ge k 6 with h|h
   .exact h
   .rw[tu (by rw[O5];exact h)]at hk;cases hk
  have:=World.ownsRow.cells h (g:=g) rfl (i*6+k) u (by rw[acr L i k hi hk6];exact hk);rw[uo]at this;rw[<-this];congr 2;omega
def VsAt.cells{B:Nat}{ad:Addr}{n cap:Nat}{X:List Ve}{w:World}(h:VsAt B (.slice (some ad) n cap) X w):∀j u,(vfl X)[j]?=some u->w.cell? (ad.add j)=some u:=by
 intro j u hj;have hjl:j<X.length*6:=by
  rcases Nat.lt_or_ge j (X.length*6)with h|h
  .exact h
  .rw[tu (by rw[Y6];exact h)]at hj;cases hj
 obtain⟨ao,cap',e,hl,hm,h⟩:=h;simp only[ku]at e;obtain⟨rfl,rfl,rfl⟩:=e;obtain⟨b,off,e,hlt,hc⟩:=h (by omega);injection e with e;subst e;have h1:=(aer.1 (hc (j/6) (by omega))).1 (j%6) u (by rw[<-acr X (j/6) (j%6) (by omega) (by omega),show j/6*6+j%6=j from by omega];exact hj);rw[uo,<-h1];congr 2;omega
def Hr.nil(base:Nat)(w:World):Hr base sy [] w:=qi w base 63 6
def Hr.made(base:Nat)(w:World)(hb:base<=w.heap.size):Hr base (.slice (some ⟨w.heap.size,0,none⟩) 0 0) [] (w.alloc (.cells #[] 63)):=World.ownsRow_made w #[] 0 hb (eu _) rfl
def info30:(Tryz.prog.info? 63).map (λi=>(i.zero,i.size,i.bytes))=some (some (.agg #[uw 0,ui 0,ui 0,ui 0,su,.bool false]),6,48):=by kernel_rfl
def aa8(base B:Nat)(L X:List Ve)(v vx:Value)(ty:TypeId)(w:World)(hI:Hr base v L w)(hX:VsAt B vx X w)(hB:base<=w.heap.size)(hl:L.length+X.length<=1048576):
  ∃v' w',(Builtin.append_ #[59,59] ty #[v,vx]).run Tryz.prog w=.ok v' w'/\Hr base v' (L++X) w'/\w.grownBy w' v.ownBlock:=by
 obtain⟨i0,hi,hz0,hz1,hz2⟩:=qc info30;have hX':=hX;obtain⟨ax,cx,rfl,hlx,hmx,hx⟩:=hX;cases ax with
 |none=>
  have h0:X=[]:=by
   cases X with
   |nil=>rfl
   |cons a X=>
    obtain⟨b,o,e,_⟩:=hx (by simp at hlx;omega);cases e
  subst h0;refine⟨v,w,?_,by rw[jo];exact hI,⟨rfl,rfl,rfl,ai _,λ_ _ _=>rfl⟩⟩;rcases hI.2 with⟨rfl,_⟩|⟨g,cap,cur,rfl,_,_,hnc,_⟩
  .simp[Builtin.append_,jw Tryz.underlying59,sizeOf,typeInfo,hi,Builtin.lenOf,Builtin.firstCells]
  .simp[Builtin.append_,jw Tryz.underlying59,sizeOf,typeInfo,hi,Builtin.lenOf,Builtin.firstCells,hnc,storeCells]
 |some ad=>
  obtain⟨v',w',h1,h2,h3,_⟩:=run_append_own (P:=Tryz.prog) w base 59 ty 63 i0 _ 6 48 Tryz.underlying59 hi hz0 hz1 hz2 rfl (by decide) v L.length (vfl L) hI ad X.length cx (vfl X) (Y6 X) (VsAt.cells hX') (asb X) (by unfold maxLen;omega) (by omega) hB;refine⟨v',w',h1,?_,h3⟩;unfold Hr;rw[agn,af];exact h2
def acp{o:Oper}{a:Act}{K:Act->World->Prop}{Q:Exit->Act->World->Prop}{w:World}(s x:Operand)(ho:o.op=.call {callee:=.builtin .append,args:=#[s,x],argTypes:=#[59,59]})(base B:Nat)(L X:List Ve)(v vx:Value)(hs:a.eval s=v)(hx:a.eval x=vx)(hI:Hr base v L w)(hX:VsAt B vx X w)(hB:base<=w.heap.size)(hl:L.length+X.length<=1048576)(h:∀v' w',Hr base v' (L++X) w'->w.grownBy w' v.ownBlock->K (a.put o.dst v') w'):o.wp Tryz.prog a w K Q:=by obtain⟨v',w',hr,h2,h3⟩:=aa8 base B L X v vx o.type w hI hX hB hl;unfold Oper.wp execOp;simp only[ho,resolve,invoke,builtin,Sem.run_bind,Sem.run_pure,Result.andThen_ok,List.map_toArray,jd,List.map_nil,hs,hx,hr];exact h v' w' h2 h3
def Jt{ops:Array Oper}{rest:List Oper}{o:Oper}{a:Act}{Q:Exit->Act->World->Prop}{w:World}(hw:Region.wanted o (yielded ops a.tmps)=true)(s x:Operand)(ho:o.op=.call {callee:=.builtin .append,args:=#[s,x],argTypes:=#[59,59]})(base B:Nat)(L X:List Ve)(v vx:Value)(hs:a.eval s=v)(hx:a.eval x=vx)(hI:Hr base v L w)(hX:VsAt B vx X w)(hB:base<=w.heap.size)(hl:L.length+X.length<=1048576)(h:∀v' w',Hr base v' (L++X) w'->w.grownBy w' v.ownBlock->wpList Tryz.prog ops Q rest (a.put o.dst v') w'):wpList Tryz.prog ops Q (o::rest) a w:=
 wpList_step λK hK=>by rw[ah hw];exact acp s x ho base B L X v vx hs hx hI hX hB hl λv' w' h1 h2=>hK _ _ (h v' w' h1 h2)
def below_grown{base:Nat}{v:Value}{L:List Ve}{a w w':World}(hb:Below base a w)(hs:base<=w.heap.size)(hI:Hr base v L w)(hg:w.grownBy w' v.ownBlock):Below base a w':=
 hb.grown hg hs λk hk=>(jm hI k hk).1
def akj(B:Nat)(C:List Ve)(v:Value)(w:World)(hv:VsAt B v C w)(hB:B<=w.heap.size)(hl:C.length<=1048576):
  cpr 81 #[v] w λe w'=>∃v',e=.returned v'/\VsAt w'.heap.size v' C w'/\Bw w w':=by
 have hv':=hv;obtain⟨ao,cap,rfl,hlc,hcm,hx⟩:=hv;have H:Hid (VsAt B (.slice ao C.length cap) C w):=hv';have q22:∀(w:World) (a:Option Addr) (n c n' c':Nat),(binOp .eql 59 (.slice a n c) (.slice none n' c')).run Tryz.prog w=.ok (.bool a.isNone) w:=λw a n c n' c'=>Lib.run_eql_slice_nil w _ _ a n c n' c' Tryz.underlying59;cases ao with
 |none=>
  have h0:C=[]:=by
   exact bch
  subst h0;clear hx hv';go_enter Tryz.func81,Tryz.ntmps81;go_wp2;go_ret;exact⟨_,rfl,Og _ _,aj _ _⟩
 |some ad=>
  clear hx hv';have HL:Hid _:=hl;have HB:Hid _:=hB;have HM:Hid (Hr w.heap.size (.slice (some ⟨w.heap.size,0,none⟩) 0 0) [] (w.alloc (.cells #[] 63))):=Hr.made _ w (ai _);clear hl hB hlc hcm;go_enter Tryz.func81,Tryz.ntmps81;go_wp2_with (at_builtin;refine Jt rfl _ _ rfl w.heap.size w.heap.size [] C _ _ rfl rfl HM.out ((H.out.le HB.out).on ((aj _ w).alloc (ai _) _)) (by simp) (by simpa using HL.out) ?_);intro v' w1 hown hg;have HO:Hid (Hr w.heap.size v' C w1):=hown;have HG:Hid (Bw w w1):=below_grown ((aj _ w).alloc (ai _) _) (by simp) HM.out hg;clear hown hg;go_wp2;go_ret;exact⟨_,rfl,HO.out.at,HG.out⟩
def ay8(n:Nat)(w:World)(hn:n<=1048576):
  cpr 253 #[sy,iw n] w λe w'=>∃v',e=.returned v'/\Hr w.heap.size v' [] w'/\Bw w w':=by
 obtain⟨i0,hi,hz0,hz1,hz2⟩:=qc info30;by_cases h0:n=0
 .subst h0;go_enter Tryz.func253,Tryz.ntmps253;go_wp2;go_ret;exact⟨_,rfl,Hr.nil _ _,aj _ _⟩
 .have hrz:=λty=>Lib.run_append_grow_zeros (P:=Tryz.prog) w 59 3 ty 63 i0 _ .i64 .i64 Tryz.underlying59 Tryz.underlying3 hi hz0 none 0 0 [] (run_firstCells_none w.drew i0.size 0 0 0) n (by omega) (by rw[hz1];decide) (by omega) (by omega) (by rw[hz2];omega) (by rw[hz2];exact growslice_fits (by omega) (by omega));have hG:=grownCap_ge w (0+n) 0 63;have hG2:=grownCap_le_maxLen w (0+n) 0 63 (by unfold maxLen;omega);simp only[ni]at hrz hG hG2;obtain⟨G,hGe⟩:=xj (grownCap w n 0 63);rw[hGe]at hrz hG hG2;obtain⟨cur,hcur⟩:∃cur,cur=(([]:List Value).toArray++Builtin.zeroCells (Value.agg #[uw 0,ui 0,ui 0,ui 0,su,.bool false]).cells n++Builtin.zeroCells (Value.agg #[uw 0,ui 0,ui 0,ui 0,su,.bool false]).cells (G-n)):=⟨_,rfl⟩;rw[<-hcur]at hrz;have HS:Hid (cur.size=G*6):=by show _=_;rw[hcur];simp only[Array.size_append,uu,size_zeroCells,o9];show 0+n*6+(G-n)*6=G*6;omega
  have HG:Hid (G<=maxLen):=hG2;have h1:¬((n:Int)<0):=by omega
  have h2:(0:Int)<n:=by omega
  clear hcur hGe hi hz0 hz1 hz2 hG2;go_enter Tryz.func253,Tryz.ntmps253;go_wp2_with (at_builtin;refine Lib.wpList_append_run _ rfl _ _ _ _ rfl _ _ rfl rfl _ _ (hrz _) ?_);go_ret;refine⟨_,rfl,⟨by simp[vfl],.inr ⟨w.heap.size,G,cur,rfl,ai _,ae w.drew _,eu _,HG.out,HS.out,by simp[vfl]⟩⟩,?_⟩;exact⟨rfl,rfl,rfl,by simp,λk hk=>heap_alloc_old w.drew _ hk⟩
def dz:Value×List Ve:=(sy,[])
def cat:List (Value×List Ve)->List Ve
 |[]=>[]
 |x::r=>x.2++cat r
def aax(l:List (Value×List Ve))(x:Value×List Ve):cat (l++[x])=cat l++x.2:=by
 induction l with
 |nil=>simp[cat]
 |cons a l ih=>simp[cat,ih]
def Rk{LS:List (Value×List Ve)}{k:Nat}(h:k<LS.length):cat (LS.take (k+1))=cat (LS.take k)++(LS.getD k dz).2:=by rw[jk h,aax];simp[List.getD,h]
def Ul(LS:List (Value×List Ve))(k:Nat):(cat (LS.take k)).length<=(cat LS).length:=by
 induction LS generalizing k with
 |nil=>simp[cat]
 |cons a l ih=>
  cases k with
  |zero=>simp[cat]
  |succ k=>
   have:=ih k;simp only[ou,cat,af];omega
def arj(B sb:Nat)(LS:List (Value×List Ve))(w:World)(hc:∀k,k<LS.length->w.cell? ⟨sb,k,none⟩=some (LS.getD k dz).1)(hv:∀k,k<LS.length->VsAt B (LS.getD k dz).1 (LS.getD k dz).2 w)
  (hsb:sb<w.heap.size) (hB:B<=w.heap.size) (hl:(cat LS).length<=1048576) (hn:LS.length<=1000):
  cpr 229 #[.slice (some ⟨sb,0,none⟩) LS.length LS.length] w λe w'=>∃v',e=.returned v'/\VsAt w'.heap.size v' (cat LS) w'/\Bw w w':=by
 have HC:Hid _:=hc;have HV:Hid _:=hv;have HSb:Hid _:=hsb;have HB:Hid _:=hB;have HL:Hid _:=hl;clear hc hv hsb hB hl;go_enter Tryz.func229,Tryz.ntmps229;go_wp2_with fail;go_loopw [3,11] (λs i wr=>∃k:Nat,k<=LS.length/\i=iw k/\s=iw (cat (LS.take k)).length/\w=wr) (λ_ i _=>LS.length-(intOf i).toNat)
 case atStart=>exact⟨0,eu _,rfl,by simp[cat],rfl⟩
 case round=>
  obtain⟨k,hk,rfl,rfl,rfl⟩:=hrel;by_cases hkl:k<LS.length
  .have c0:=HC.out k hkl;obtain⟨ao,cap,hvk,hlc,hcm,_⟩:=HV.out k hkl;exact au0
  .have hkl':¬(k:Int)<LS.length:=by omega
   have HK:Hid (cat (LS.take k)=cat LS):=by rw[ay (by omega)];exact rfl
   rw[HK.out];clear HK;go_wp2_with fail;refine(ay8 _ _ HL.out).mono ?_;rintro e w1 ⟨v1,rfl,ho1,hb1⟩;have HO:Hid _:=ho1;have H1:Hid _:=hb1;clear ho1 hb1;go_wp2_with fail;go_loopw [6,27] (λs i wr=>∃k:Nat,k<=LS.length/\i=iw k/\Hr w.heap.size s (cat (LS.take k)) wr/\Bw w wr) (λ_ i _=>LS.length-(intOf i).toNat)
   case atStart=>exact⟨0,eu _,rfl,HO.out,H1.out⟩
   case round=>
    obtain⟨k,hk,rfl,hown,hbr⟩:=hrel;have HOk:Hid _:=hown;have HBr:Hid _:=hbr;clear hown hbr;by_cases hkl:k<LS.length
    .have c0:wr.cell? ⟨sb,k,none⟩=some (LS.getD k dz).1:=by rw[HBr.out.cell (p:=⟨_,_,none⟩) HSb.out];exact HC.out k hkl
     have HVk:Hid (VsAt w.heap.size (LS.getD k dz).1 (LS.getD k dz).2 wr):=((HV.out k hkl).le HB.out).on HBr.out;have HT:Hid _:=Rk hkl;have HLe:Hid ((cat (LS.take k)).length+(LS.getD k dz).2.length<=1048576):=by have h1:=Ul LS (k+1);rw[HT.out,af]at h1;exact ak h1 HL.out
     generalize (LS.getD k dz).1=vk at*;generalize (LS.getD k dz).2=Xk at*;have hkl':(k:Int)<LS.length:=by omega
     go_wp2_with (at_builtin;refine Jt rfl _ _ rfl w.heap.size w.heap.size (cat (LS.take k)) Xk _ _ rfl rfl HOk.out HVk.out HBr.out.size HLe.out ?_);intro v' w2 hown hg;have HO2:Hid (Hr w.heap.size v' (cat (LS.take (k+1))) w2):=by rw[HT.out];exact hown
     have HB2:Hid (Bw w w2):=below_grown HBr.out HBr.out.size HOk.out hg;exact bbl
    .have hkl':¬(k:Int)<LS.length:=by omega
     go_wp2;go_ret;have hf:=HOk.out;rw[ay (by omega)]at hf;exact⟨_,rfl,Hr.at (base:=w.heap.size) hf,HBr.out⟩
open Go.RowKit Go.Sort
structure Veil(p:Prop):Prop where
 out:p
def Je{P:Program}{ops:Array Oper}{C:World->Prop}{Q:Act->Prop}{a:Act}{o:Oper}{rest:List Oper}
  (h:∀K:Act->Prop,(∀a,Veil (wpQuiet P ops C Q rest a)->K a)->if Region.wanted o (yielded ops a.tmps)then o.quiet P a C K else K (a.put o.dst undef)):Veil (wpQuiet P ops C Q (o::rest) a):=
 ⟨wpQuiet_step λK hK=>h K λa ha=>hK a ha.out⟩
def agm{P:Program}{ops:Array Oper}{C:World->Prop}{Q:Act->Prop}{a:Act}(h:Q a):Veil (wpQuiet P ops C Q [] a):=⟨wpQuiet_nil h⟩
def Nk(C:List Ve)(i:Nat):Bool:=vOk (C.getD i dv)&&(i==0||ltS (C.getD i dv).p (C.getD i dv).l (C.getD (i-1) dv))
def aad:∀(C:List Ve) (u:Ve),Jj (some u) C=true↔∀i,i<C.length->Nk (u::C) (i+1)=true
 |[],u=>by simp[Jj]
 |v::r,u=>by
  unfold Jj;rw[cu,aad r v];constructor
  .rintro⟨h1,h2⟩ i hi;cases i with
   |zero=>simpa[Nk]using h1
   |succ i=>
    have:=h2 i (by simpa using hi);simpa[Nk]using this
  .intro h;refine⟨by simpa[Nk]using h 0 (by simp),λi hi=>?_⟩;have:=h (i+1) (by simpa using hi);simpa[Nk]using this
def ag7{C:List Ve}(hl:C.length<=1000):Dl C=true↔∀i,i<C.length->Nk C i=true:=by
 unfold Dl;rw[cu,jc];cases C with
 |nil=>simp[Jj]
 |cons v r=>
  unfold Jj;rw[cu,aad];constructor
  .rintro⟨⟨h1,h2⟩,_⟩ i hi;cases i with
   |zero=>simpa[Nk]using h1
   |succ i=>exact h2 i (by simpa using hi)
  .intro h;exact⟨⟨by simpa[Nk]using h 0 (by simp),λi hi=>h (i+1) (by simpa using hi)⟩,hl⟩
def Yo(B:Nat)(C:List Ve)(v:Value)(w:World)(hv:VsAt B v C w)(hB:B<=w.heap.size):
  cpr 33 #[v] w λe w'=>e=.returned (.bool (Dl C))/\Bw w w':=by
 obtain⟨ao,cap,rfl,hlc,hcm,hx⟩:=hv;obtain⟨r,hr⟩:=xj (Dl C);rw[hr];have HR:Hid _:=hr;have HX:Hid _:=hx;have HB:Hid _:=hB;have HC:Hid _:=hlc;have HM:Hid _:=hcm;clear hr hx hB hlc hcm;by_cases hlen:C.length<=1000
 .have HI:Hid (Dl C=true↔∀i,i<C.length->Nk C i=true):=ag7 hlen;have hlen':¬(1000<(C.length:Int)):=by omega
  go_enter Tryz.func33,Tryz.ntmps33;go_wp2_with fail;go_loopw [10] (λi wr=>∃k:Nat,k<=C.length/\i=iw k/\(∀j,j<k->Nk C j=true)/\Bw w wr) (λi _=>C.length-(intOf i).toNat)
  case atStart=>exact⟨0,eu _,rfl,λj hj=>absurd hj (by omega),aj _ _⟩
  case round=>
   obtain⟨k,hk,rfl,hall,hbr⟩:=hrel;have HE:Hid _:=hall;clear hall;by_cases hkl:k<C.length
   .obtain⟨b,off,rfl,hb,hc⟩:=HX.out (by have:=HC.out;omega);have hbw:b<w.heap.size:=iy (hb (by omega)) HB.out;have HCk:Hid (∀i,i<C.length->VeAt wr b (off+i*6) (C.getD i dv)):=λi hi=>(hc i hi).on hbr hbw;have HK:Hid (Nk C k=true->∀j,j<k+1->Nk C j=true):=λh j hj=>by
     by_cases hjk:j=k
     .subst hjk;exact h
     .exact HE.out j (by omega)
    have HN:Hid (Nk C k=false->r=false):=λh=>by rw[<-HR.out];rw[Bool.eq_false_iff];intro h2;rw[HI.out.1 h2 k hkl]at h;cases h
    have HSt:Hid (Nk C k=(vOk (C.getD k dv)&&(k==0||ltS (C.getD k dv).p (C.getD k dv).l (C.getD (k-1) dv)))):=rfl;obtain⟨st,hst⟩:=xj (Nk C k);rw[hst]at HK HN HSt;clear hst;have hck:=HCk.out k hkl;clear hc hb;have hkl':(k:Int)<C.length:=by omega
    have hbr':b<wr.heap.size:=by have:=hbr.size;omega
    by_cases hk0:k=0
    .subst hk0;clear HCk;have HS2:Hid (st=vOk (C.getD 0 dv)):=by rw[HSt.out];show _=_;simp
     clear HSt;generalize C.getD 0 dv=x at hck HS2;obtain⟨xp,xl,xc,xn,xs,xd⟩:=x;obtain⟨e0,e1,e2,e3,e4,e5⟩:=hck;dsimp only at e0 e1 e2 e3 e4 e5;simp only[Nat.zero_mul,Nat.add_zero]at e0 e1 e2 e3 e4 e5;go_wp2_with fail;obtain⟨w4,hw4⟩:∃w4,w4=wr.alloc (.cells #[uw xp,ui xl,ui xc,ui xn,sd xs,.bool xd] 63):=⟨_,rfl⟩;have hv4:VeAt w4 wr.heap.size 0 ⟨xp,xl,xc,xn,xs,xd⟩:=by rw[hw4];exact⟨by simp[go_sem],by simp[go_sem],by simp[go_sem],by simp[go_sem],by simp[go_sem],by simp[go_sem],_,_,ae wr _⟩
     have H4:Hid (Bw w w4):=by rw[hw4];exact hbr.alloc hbr.size _
     rw[<-hw4];clear hw4 e0 e1 e2 e3 e4 e5;obtain⟨e0,e1,e2,e3,e4,e5⟩:=hv4;dsimp only at e0 e1 e2 e3 e4 e5;simp only[ni]at e1 e2 e3 e4 e5;have g0:=rf e0;have g1:=rf e1;have g2:=rf e2;have g3:=rf e3;have g4:=rf e4;have g5:=rf e5;have cA:Hid (∀d os,cpr 83 #[.agg #[uw xp,ui xl,ui xc,ui xn,sd xs,.bool xd]] (grow (redrawn w4 d) os) λe w''=>e=.returned (.bool st)/\∃p:Regrown,w''=grow (redrawn w4 p.d) p.os):=λd os=>Calls.regrown_of (by rw[HS2.out];exact ah3 ⟨xp,xl,xc,xn,xs,xd⟩ _);clear HS2;cases st
     all_goals
      refine wp_region_quiet_below (by kernel_rfl) (by kernel_rfl) (Veil.out ?_);repeat (refine Je (λK hK=>?_);go_simp;refine hK _ ?_;clear hK K)
      (refine Je (λK hK=>?_);go_simp;apply Exists.intro;refine⟨λ_=>?_,hK _ ?_⟩;exact cA.out _ _;clear hK K)
      repeat (refine Je (λK hK=>?_);go_simp;refine hK _ ?_;clear hK K)
      refine agm ?_;intro _ hw';obtain⟨⟨dq,osq⟩,hw''⟩:=hw';subst hw'';have H5:Hid (Bw w (grow (redrawn w4 dq) osq)):=H4.out.trans ((below_regrown w4 dq osq).mono H4.out.size)
     .have HX2:Hid _:=HN.out rfl;go_wp2;go_ret;rw[HX2.out];exact⟨rfl,H5.out⟩
     .have HX2:Hid _:=HK.out rfl;go_wp2;go_roundw
      case rel=>exact⟨1,by omega,by go_num,HX2.out,H5.out⟩
      case measure=>simp[intOf];omega
    .have hck2:=HCk.out (k-1) (by omega);clear HCk;have HS2:Hid (st=(vOk (C.getD k dv)&&ltS (C.getD k dv).p (C.getD k dv).l (C.getD (k-1) dv))):=by rw[HSt.out,show(k==0)=false from by simp[hk0]];show _=_;simp
     clear HSt;generalize C.getD k dv=x at hck HS2;generalize C.getD (k-1) dv=y at hck2 HS2;obtain⟨k1,hk1⟩:∃k1:Nat,k=k1+1:=⟨k-1,by omega⟩;subst hk1;clear hk0;simp only[Nat.add_sub_cancel]at hck2;obtain⟨xp,xl,xc,xn,xs,xd⟩:=x;obtain⟨yp,yl,yc,yn,ys,yd⟩:=y;have hck2':=hck2.on ((aj wr.heap.size wr).alloc (ai _) (.cells #[uw xp,ui xl,ui xc,ui xn,sd xs,.bool xd] 63)) hbr';clear hck2;obtain⟨e0,e1,e2,e3,e4,e5⟩:=hck;dsimp only at e0 e1 e2 e3 e4 e5;go_wp2_with fail;obtain⟨w4,hw4⟩:∃w4,w4=wr.alloc (.cells #[uw xp,ui xl,ui xc,ui xn,sd xs,.bool xd] 63):=⟨_,rfl⟩;have hv4:VeAt w4 wr.heap.size 0 ⟨xp,xl,xc,xn,xs,xd⟩:=by rw[hw4];exact⟨by simp[go_sem],by simp[go_sem],by simp[go_sem],by simp[go_sem],by simp[go_sem],by simp[go_sem],_,_,ae wr _⟩
     have H4:Hid (Bw w w4):=by rw[hw4];exact hbr.alloc hbr.size _
     rw[<-hw4]at hck2'|-;clear hw4 e0 e1 e2 e3 e4 e5;obtain⟨e0,e1,e2,e3,e4,e5⟩:=hv4;dsimp only at e0 e1 e2 e3 e4 e5;simp only[ni]at e1 e2 e3 e4 e5;have g0:=rf e0;have g1:=rf e1;have g2:=rf e2;have g3:=rf e3;have g4:=rf e4;have g5:=rf e5;have m0:=rf hck2'.c0;have m1:=rf hck2'.c1;clear hck2' e0 e1 e2 e3 e4 e5;dsimp only at m0 m1;obtain⟨s1,hs1⟩:=xj (vOk ⟨xp,xl,xc,xn,xs,xd⟩);obtain⟨s2,hs2⟩:=xj (Ar xp xl yp yl);have HS3:Hid (st=(s1&&s2)):=by rw[HS2.out,<-hs1,<-hs2];exact rfl
     have cA:Hid (∀d os,cpr 83 #[.agg #[uw xp,ui xl,ui xc,ui xn,sd xs,.bool xd]] (grow (redrawn w4 d) os) λe w''=>e=.returned (.bool s1)/\∃p:Regrown,w''=grow (redrawn w4 p.d) p.os):=λd os=>Calls.regrown_of (by rw[<-hs1];exact ah3 ⟨xp,xl,xc,xn,xs,xd⟩ _);have cB:Hid (∀d os,cpr 84 #[.agg #[uw xp,ui xl],.agg #[uw yp,ui yl]] (grow (redrawn w4 d) os) λe w''=>e=.returned (.bool s2)/\∃p:Regrown,w''=grow (redrawn w4 p.d) p.os):=λd os=>Calls.regrown_of (by rw[<-hs2];exact Ya _ _ _ _ _);clear HS2 hs1 hs2;have hkk:¬((k1+1:Int)<=0):=by omega
     have hk2:((k1+1:Nat):Int)>0:=by omega
     have hkm:IntKind.i64.wrap (k1:Int)=k1:=by simp[IntKind.wrap,IntKind.signed,IntKind.bits];omega
     have hkm2:(k1:Int)<C.length:=by omega
     cases s1
     .refine wp_region_quiet_below (by kernel_rfl) (by kernel_rfl) (Veil.out ?_);repeat (refine Je (λK hK=>?_);go_simp;refine hK _ ?_;clear hK K)
      (refine Je (λK hK=>?_);go_simp;apply Exists.intro;refine⟨λ_=>?_,hK _ ?_⟩;exact cA.out _ _;clear hK K)
      repeat (refine Je (λK hK=>?_);go_simp;refine hK _ ?_;clear hK K)
      refine agm ?_;intro _ hw';obtain⟨⟨dq,osq⟩,hw''⟩:=hw';subst hw'';have H5:Hid (Bw w (grow (redrawn w4 dq) osq)):=H4.out.trans ((below_regrown w4 dq osq).mono H4.out.size);exact bcf
     .cases s2
      all_goals
       refine wp_region_quiet_below (by kernel_rfl) (by kernel_rfl) (Veil.out ?_);repeat (refine Je (λK hK=>?_);go_simp;refine hK _ ?_;clear hK K)
       (refine Je (λK hK=>?_);go_simp;apply Exists.intro;refine⟨λ_=>?_,hK _ ?_⟩;exact cA.out _ _;clear hK K)
       repeat (refine Je (λK hK=>?_);go_simp;refine hK _ ?_;clear hK K)
       (refine Je (λK hK=>?_);go_simp;apply Exists.intro;refine⟨λ_=>?_,hK _ ?_⟩;exact cB.out _ _;clear hK K)
       repeat (refine Je (λK hK=>?_);go_simp;refine hK _ ?_;clear hK K)
       refine agm ?_;intro _ hw';obtain⟨⟨dq,osq⟩,hw''⟩:=hw';subst hw'';have H5:Hid (Bw w (grow (redrawn w4 dq) osq)):=H4.out.trans ((below_regrown w4 dq osq).mono H4.out.size)
      .exact bcf
      .have HX2:Hid _:=HK.out (by rw[HS3.out];rfl);go_wp2;go_roundw
       case rel=>exact⟨k1+1+1,by omega,by go_num,HX2.out,H5.out⟩
       case measure=>simp[intOf];omega
   .have hkl':¬(k:Int)<C.length:=by omega
    have HX2:Hid (r=true):=by show _=_;rw[<-HR.out];exact HI.out.2 λi hi=>HE.out i (by omega)
    go_wp2;go_ret;rw[HX2.out];exact⟨rfl,hbr⟩
 .have hlen':1000<(C.length:Int):=by omega
  have HX2:Hid (r=false):=by show _=_;rw[<-HR.out];unfold Dl;rw[decide_eq_false hlen];simp
  go_enter Tryz.func33,Tryz.ntmps33;go_wp2;go_ret;rw[HX2.out];exact⟨rfl,aj _ _⟩
def VsAt.el{B:Nat}{ao:Option Addr}{cap:Nat}{C:List Ve}{w:World}{k:Nat}(h:VsAt B (.slice ao C.length cap) C w)(hk:k<C.length):∃b off,ao=some ⟨b,off,none⟩/\b<B/\VeAt w b (off+k*6) (C.getD k dv):=by obtain⟨ao',cap',e,hl,hm,h⟩:=h;simp only[ku]at e;obtain⟨rfl,_,rfl⟩:=e;obtain⟨b,off,rfl,hb,hc⟩:=h (by omega);exact⟨b,off,rfl,hb (by omega),hc k hk⟩
def VsAt.take{B:Nat}{ao:Option Addr}{cap:Nat}{C:List Ve}{w:World}(h:VsAt B (.slice ao C.length cap) C w){k:Nat}(hk:k<=C.length):VsAt B (.slice ao k cap) (C.take k) w:=by
 obtain⟨ao',cap',e,hl,hm,h⟩:=h;simp only[ku]at e;obtain⟨rfl,_,rfl⟩:=e;have hlen:(C.take k).length=k:=by simp;omega
 refine⟨ao,cap,by rw[hlen],by omega,hm,λh0=>?_⟩;obtain⟨b,off,rfl,hb,hc⟩:=h h0;refine⟨b,off,rfl,λh1=>hb (by omega),λi hi=>?_⟩;have e:(C.take k).getD i dv=C.getD i dv:=by simp[List.getD,show i<k by omega]
 rw[e];exact hc i (by omega)
def VsAt.drop{B:Nat}{ao:Option Addr}{cap:Nat}{C:List Ve}{w:World}(h:VsAt B (.slice ao C.length cap) C w){k:Nat}(hk:k<=C.length):VsAt B (.slice (if cap=k then ao else ao.map (·.add (k*6))) (C.length-k) (cap-k)) (C.drop k) w:=by
 obtain⟨ao',cap',e,hl,hm,h⟩:=h;simp only[ku]at e;obtain⟨rfl,_,rfl⟩:=e;have hlen:(C.drop k).length=C.length-k:=by simp
 refine⟨_,cap-k,by rw[hlen],by omega,by omega,λh0=>?_⟩;obtain⟨b,off,rfl,hb,hc⟩:=h (by omega);clear h;refine⟨b,off+k*6,?_,λh1=>hb (by omega),λi hi=>?_⟩
 .rw[ag (by omega)];simp[Addr.add]
 .have e:(C.drop k).getD i dv=C.getD (k+i) dv:=by simp[List.getD]
  rw[e];have:=hc (k+i) (by omega);rw[show off+k*6+i*6=off+(k+i)*6 from by omega];exact this
def aox{C:List Ve}{x:Ve}(h:(Dl C&&vOk x)=false):putF C x=([],1):=by unfold putF;rw[h];rfl
def aow{C:List Ve}{x u:Ve}(h:(Dl C&&vOk x)=true)(hu:C[Dt x.p x.l C]?=some u)(ha:atB u x=true)(he:eqV u x=true):putF C x=(C,0):=by unfold putF;rw[h,ah rfl,S9,hu];simp[ha,he]
def alg{C:List Ve}{x u:Ve}(h:(Dl C&&vOk x)=true)(hu:C[Dt x.p x.l C]?=some u)(ha:atB u x=true)(he:eqV u x=false):putF C x=([],40):=by unfold putF;rw[h,ah rfl,S9,hu];simp[ha,he]
def alf{C:List Ve}{x:Ve}(h:(Dl C&&vOk x)=true)(hu:∀u,C[Dt x.p x.l C]?=some u->atB u x=false):putF C x=if 1000<=C.length then([],3)else(C.take (Dt x.p x.l C)++x::C.drop (Dt x.p x.l C),0):=by
 unfold putF;rw[h,ah rfl,S9];cases hc:C[Dt x.p x.l C]?with
 |none=>
  have hk:=List.getElem?_eq_none_iff.1 hc;rw[ay hk,xy hk];simp
 |some u=>
  have hk:=Qu x.p x.l C;have hl:C.length<(C.take (Dt x.p x.l C)++x::C.drop (Dt x.p x.l C)).length:=by simp;omega
  simp only[hu u hc,o7,if_false];by_cases h2:1000<=C.length
  .rw[ah ⟨hl,h2⟩,ah h2]
  .rw[ag (λh=>h2 h.2),ag h2]
def awg(B:Nat)(C:List Ve)(v:Value)(k:Nat)(x:Ve)(w:World)(hv:VsAt B v C w)(hB:B<=w.heap.size)(hk:k<C.length)(hl:C.length<=1048576):
  cpr 228 #[v,iw k,veV x] w λe w'=>∃v',e=.returned (.tuple #[v',iw (if eqV (C.getD k dv) x then 0 else 40)])/\VsAt w'.heap.size v' (if eqV (C.getD k dv) x then C else[]) w'/\Bw w w':=by
 have hv':=hv;obtain⟨ao,cap,rfl,hlc,hcm,-⟩:=hv;obtain⟨b,off,rfl,hb,hck⟩:=hv'.el hk;have H:Hid (VsAt B (.slice (some ⟨b,off,none⟩) C.length cap) C w):=hv';have HL:Hid _:=hl;have HB:Hid _:=hB;have hbw:b<w.heap.size:=by omega
 clear hv' hl hB hlc hcm hb;generalize C.getD k dv=y at hck|-;obtain⟨xp,xl,xc,xn,xs,xd⟩:=x;obtain⟨yp,yl,yc,yn,ys,yd⟩:=y;obtain⟨e0,e1,e2,e3,e4,e5⟩:=hck;dsimp only at e0 e1 e2 e3 e4 e5;unfold veV;dsimp only;have hrun:=ak4 yp yl yc yn ys yd xp xl xc xn xs xd;obtain⟨z,hz⟩:=xj (eqV ⟨yp,yl,yc,yn,ys,yd⟩ ⟨xp,xl,xc,xn,xs,xd⟩);rw[hz]at hrun|-;clear hz;have hkl:(k:Int)<C.length:=by omega
 cases z
 .go_enter Tryz.func228,Tryz.ntmps228;go_wp2_with fail
  go_quiet (fail)
  go_wp2;refine az (v:=.tuple #[sy,iw 40]) (by simp[results,Tryz.results228,go_sem]) rfl ?_;exact⟨_,rfl,Og _ _,below_drewN (al _) _⟩
 .go_enter Tryz.func228,Tryz.ntmps228;go_wp2_with fail
  go_quiet (fail)
  rename_i nq;have HW:Hid (Bw w ((w.alloc (.cells #[uw xp,ui xl,ui xc,ui xn,sd xs,.bool xd] 63)).drewN nq)):=below_drewN (al _) _;go_wp2_with fail;refine(akj w.heap.size C _ _ ((H.out.le HB.out).on HW.out) HW.out.size HL.out).mono ?_;rintro e w2 ⟨v',rfl,hv2,hb2⟩;have H2:Hid (VsAt w2.heap.size v' C w2/\Bw w w2):=⟨hv2,HW.out.trans (hb2.mono HW.out.size)⟩;clear hv2 hb2;go_wp2;refine az (v:=.tuple #[v',iw 0]) (by simp[results,Tryz.results228,go_sem]) rfl ?_;exact⟨_,rfl,H2.out.1,H2.out.2⟩
