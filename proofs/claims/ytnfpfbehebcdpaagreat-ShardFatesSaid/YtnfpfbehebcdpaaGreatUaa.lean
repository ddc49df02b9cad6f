import Derived.Lib.BitFns
import Derived.Lib.AppendStr
set_option maxHeartbeats 0
set_option maxRecDepth 99999
set_option linter.all false
namespace Go.Proofs.YtnfpfbehebcdpaaGreat
def nbF:Nat->Nat->Nat
 |0,_=>0
 |f+1,n=>if n=0 then 0 else nbF f (n/256)+1
def apo:∀f g n,n<=f->n<=g->nbF f n=nbF g n:=by
 intro f;induction f with
 |zero=>
  intro g n hf hg;have h0:n=0:=by omega
  subst h0;cases g<;>simp[nbF]
 |succ f ih=>
  intro g n hf hg;by_cases h0:n=0
  .subst h0;cases g<;>simp[nbF]
  .cases g with
   |zero=>omega
   |succ g=>simp only[nbF,if_neg h0];rw[ih g (n/256) (by omega) (by omega)]
def nb(n:Nat):Nat:=nbF n n
def Px:nb 0=0:=rfl
def Py{n:Nat}(h:n≠0):nb n=nb (n/256)+1:=by obtain⟨m,rfl⟩:∃m,n=m+1:=⟨n-1,by omega⟩;show nbF (m+1) (m+1)=_;rw[nbF,if_neg h,apo m ((m+1)/256) _ (by omega) (Nat.le_refl _)];rfl
def dgF:Nat->Nat->List UInt8
 |0,_=>[]
 |f+1,n=>if n=0 then[]else dgF f (n/256)++[UInt8.ofNat (n%256)]
def aq9:∀f g n,n<=f->n<=g->dgF f n=dgF g n:=by
 intro f;induction f with
 |zero=>
  intro g n hf hg;have h0:n=0:=by omega
  subst h0;cases g<;>simp[dgF]
 |succ f ih=>
  intro g n hf hg;by_cases h0:n=0
  .subst h0;cases g<;>simp[dgF]
  .cases g with
   |zero=>omega
   |succ g=>simp only[dgF,if_neg h0];rw[ih g (n/256) (by omega) (by omega)]
def dg(n:Nat):List UInt8:=dgF n n
def Y1:dg 0=[]:=rfl
def aea{n:Nat}(h:n≠0):dg n=dg (n/256)++[UInt8.ofNat (n%256)]:=by obtain⟨m,rfl⟩:∃m,n=m+1:=⟨n-1,by omega⟩;show dgF (m+1) (m+1)=_;rw[dgF,if_neg h,aq9 m ((m+1)/256) _ (by omega) (Nat.le_refl _)];rfl
def Tf(n:Nat):(dg n).length=nb n:=by
 induction n using Nat.strongRecOn with
 |ind n ih=>
  by_cases h:n=0
  .subst h;rw[Y1,Px];rfl
  .rw[aea h,Py h,List.length_append,ih (n/256) (by omega)];rfl
def aud(n:Nat)(hn:n<18446744073709551616):(Lib.bitLen n+7)/8=nb n:=by
 induction n using Nat.strongRecOn with
 |ind n ih=>
  by_cases h:n=0
  .subst h;rw[Px];rfl
  .by_cases h2:256<=n
   .rw[Lib.bitLen_shift8 n h2 hn,Py h,<-ih (n/256) (by omega) (by omega)];omega
   .have h8:=Lib.bitLen_le n 8 (by omega) (by omega);have h1:=Lib.bitLen_half n h (by omega);rw[Py h,show n/256=0 by omega,Px];omega
def apn(k:Nat):∀n,n<256^k->nb n<=k:=by
 induction k with
 |zero=>intro n h;simp at h;subst h;rw[Px];exact Nat.le_refl _
 |succ k ih=>
  intro n h;by_cases h0:n=0
  .subst h0;rw[Px];omega
  .rw[Py h0];have:=ih (n/256) (by rw[Nat.pow_succ]at h;omega);omega
def ahq{n:Nat}(h:n<18446744073709551616):nb n<=8:=apn 8 n (by omega)
def auc{a:Nat}:∀{b:Nat},a<=b->nb a<=nb b:=by
 induction a using Nat.strongRecOn with
 |ind a ih=>
  intro b h;by_cases h0:a=0
  .subst h0;rw[Px];omega
  .rw[Py h0,Py (show b≠0 by omega)];have:=ih (a/256) (by omega) (b:=b/256) (by omega);omega
def sz(n:Nat):Nat:=if n<=247 then 1 else 1+nb n
def Am(n:Nat):List UInt8:=if n<=247 then[UInt8.ofNat n]else UInt8.ofNat (247+nb n)::dg n
def Eg(n:Nat):(Am n).length=sz n:=by
 unfold Am sz;split
 .rfl
 .rw[List.length_cons,Tf];omega
def anv(n:Nat):1<=sz n:=by unfold sz;split<;>omega
def aew{n:Nat}(h:n<18446744073709551616):sz n<=9:=by unfold sz;have:=ahq h;split<;>omega
def vl(l:List UInt8):Nat:=l.foldl (λa c=>a*256+c.toNat) 0
def aw9:vl []=0:=rfl
def Ut(l:List UInt8)(c:UInt8):vl (l++[c])=vl l*256+c.toNat:=by simp[vl]
def abg(k:Nat)(h:k<256):(UInt8.ofNat k).toNat=k:=by rw[UInt8.toNat_ofNat'];omega
def Tj(c:UInt8):c.toNat<256:=c.toNat_lt
def awn(n:Nat):vl (dg n)=n:=by
 induction n using Nat.strongRecOn with
 |ind n ih=>
  by_cases h:n=0
  .subst h;rw[Y1];rfl
  .rw[aea h,Ut,ih (n/256) (by omega),abg _ (by omega)];omega
def anf(l:List UInt8):vl l<256^l.length:=by
 generalize hk:l.length=k;induction k generalizing l with
 |zero=>rw[List.length_eq_zero_iff.1 hk];decide
 |succ k ih=>
  have hne:l≠[]:=by intro h;subst h;simp at hk
  obtain⟨x,c,rfl⟩:∃x c,l=x++[c]:=⟨l.dropLast,l.getLast hne,(List.dropLast_concat_getLast hne).symm⟩;have:=ih x (by simpa using hk);have:=Tj c;rw[Ut,Nat.pow_succ];omega
def dg_vl(l:List UInt8)(h:l.length=nb (vl l)):dg (vl l)=l:=by
 generalize hk:l.length=k;induction k generalizing l with
 |zero=>rw[List.length_eq_zero_iff.1 hk,aw9,Y1]
 |succ k ih=>
  have hne:l≠[]:=by intro h;subst h;simp at hk
  obtain⟨x,c,rfl⟩:∃x c,l=x++[c]:=⟨l.dropLast,l.getLast hne,(List.dropLast_concat_getLast hne).symm⟩;have hc:=Tj c;have h0:vl (x++[c])≠0:=by intro h0;rw[h0,Px]at h;omega
  have hd:vl (x++[c])/256=vl x:=by rw[Ut];omega
  have hm:vl (x++[c])%256=c.toNat:=by rw[Ut];omega
  rw[Py h0,hd,List.length_append]at h;rw[aea h0,hd,hm,ih x (by simpa using h) (by simpa using hk)];simp
def akh(n f:Nat)(h:f<nb n):dg (n/256^f)=dg (n/256^(f+1))++[UInt8.ofNat (n/256^f%256)]:=by
 have h0:n/256^f≠0:=by intro h0;have hp:0<256^f:=Nat.pow_pos (by decide);have:=apn f n ((Nat.div_eq_zero_iff_lt hp).1 h0);omega
 rw[aea h0,Nat.div_div_eq_div_mul,<-Nat.pow_succ]
def azf(n:Nat):dg (n/256^nb n)=[]:=by
 have:n/256^nb n=0:=by
  apply Nat.div_eq_of_lt;have:=anf (dg n)
  rwa [awn,Tf]at this
 rw[this,Y1]
def bs(l:List UInt8):ByteArray:=⟨l.toArray⟩
def D6(l:List UInt8):(bs l).data.toList=l:=by simp[bs]
def bs_of(s:ByteArray):bs s.data.toList=s:=by cases s;simp[bs]
def Bq(l:List UInt8):(bs l).size=l.length:=by simp[bs,ByteArray.size]
def cl(l:List UInt8):List Value:=l.map λc=>Value.int .u8 c.toNat
def Xp(l:List UInt8):(cl l).length=l.length:=by simp[cl]
def Xq(l r:List UInt8):cl (l++r)=cl l++cl r:=by simp[cl]
def arl(k:Nat)(h:k<256):cl [UInt8.ofNat k]=[Value.int .u8 k]:=by simp only[cl,List.map_cons,List.map_nil,abg k h]
def X6(s:ByteArray):Lib.strCells s=cl s.data.toList:=rfl
