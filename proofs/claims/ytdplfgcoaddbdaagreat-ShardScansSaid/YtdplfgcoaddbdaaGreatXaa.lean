import Derived.Lib.BitFns
import Derived.Lib.AppendStr
import Derived.WalkKit
import Derived.WalkSpells
import Derived.WalkLawsBesides
import Derived.BigQuiet
import Derived.Deep.QuietTactic
import Derived.Lib.QuietBelow
import Derived.Lib.Strings
import Derived.Maps.AppendAt
import Derived.OwnWalk
import Derived.Deep.RegionHeld3
import Derived.Deep.DeepCutAuto
import Derived.Deep.CutBlock
set_option maxHeartbeats 4000000
set_option maxRecDepth 100000
set_option linter.unusedVariables false
set_option linter.unusedSimpArgs false
namespace Go.Proofs.YtdplfgcoaddbdaaGreat
def nbF:Nat->Nat->Nat
 |0,_=>0
 |f+1,n=>if n=0 then 0 else nbF f (n/256)+1
theorem nbF_fuel:∀f g n,n<=f->n<=g->nbF f n=nbF g n:=by
 intro f;induction f with
 |zero=>
  intro g n hf hg;have h0:n=0:=by omega
  subst h0;cases g<;>simp[nbF]
 |succ f ih=>
  intro g n hf hg;by_cases h0:n=0
  ·subst h0;cases g<;>simp[nbF]
  ·cases g with
   |zero=>omega
   |succ g=>simp only[nbF,if_neg h0];rw[ih g (n/256) (by omega) (by omega)]
def nb(n:Nat):Nat:=nbF n n
theorem nb_zero:nb 0=0:=rfl
theorem nb_pos{n:Nat}(h:n≠0):nb n=nb (n/256)+1:=by obtain⟨m,rfl⟩:∃m,n=m+1:=⟨n-1,by omega⟩;show nbF (m+1) (m+1)=_;rw[nbF,if_neg h,nbF_fuel m ((m+1)/256) _ (by omega) (Nat.le_refl _)];rfl
def dgF:Nat->Nat->List UInt8
 |0,_=>[]
 |f+1,n=>if n=0 then[]else dgF f (n/256)++[UInt8.ofNat (n%256)]
theorem dgF_fuel:∀f g n,n<=f->n<=g->dgF f n=dgF g n:=by
 intro f;induction f with
 |zero=>
  intro g n hf hg;have h0:n=0:=by omega
  subst h0;cases g<;>simp[dgF]
 |succ f ih=>
  intro g n hf hg;by_cases h0:n=0
  ·subst h0;cases g<;>simp[dgF]
  ·cases g with
   |zero=>omega
   |succ g=>simp only[dgF,if_neg h0];rw[ih g (n/256) (by omega) (by omega)]
def dg(n:Nat):List UInt8:=dgF n n
theorem dg_zero:dg 0=[]:=rfl
theorem dg_pos{n:Nat}(h:n≠0):dg n=dg (n/256)++[UInt8.ofNat (n%256)]:=by obtain⟨m,rfl⟩:∃m,n=m+1:=⟨n-1,by omega⟩;show dgF (m+1) (m+1)=_;rw[dgF,if_neg h,dgF_fuel m ((m+1)/256) _ (by omega) (Nat.le_refl _)];rfl
theorem dg_length(n:Nat):(dg n).length=nb n:=by
 induction n using Nat.strongRecOn with
 |ind n ih=>
  by_cases h:n=0
  ·subst h;rw[dg_zero,nb_zero];rfl
  ·rw[dg_pos h,nb_pos h,List.length_append,ih (n/256) (by omega)];rfl
theorem nb_bits(n:Nat)(hn:n<18446744073709551616):(Lib.bitLen n+7)/8=nb n:=by
 induction n using Nat.strongRecOn with
 |ind n ih=>
  by_cases h:n=0
  ·subst h;rw[nb_zero];rfl
  ·by_cases h2:256<=n
   ·rw[Lib.bitLen_shift8 n h2 hn,nb_pos h,<-ih (n/256) (by omega) (by omega)];omega
   ·have h8:=Lib.bitLen_le n 8 (by omega) (by omega);have h1:=Lib.bitLen_half n h (by omega);rw[nb_pos h,show n/256=0 by omega,nb_zero];omega
theorem nb_le(k:Nat):∀n,n<256^k->nb n<=k:=by
 induction k with
 |zero=>intro n h;simp at h;subst h;rw[nb_zero];exact Nat.le_refl _
 |succ k ih=>
  intro n h;by_cases h0:n=0
  ·subst h0;rw[nb_zero];omega
  ·rw[nb_pos h0];have:=ih (n/256) (by rw[Nat.pow_succ]at h;omega);omega
theorem nb_le8{n:Nat}(h:n<18446744073709551616):nb n<=8:=nb_le 8 n (by omega)
theorem nb_mono{a:Nat}:∀{b:Nat},a<=b->nb a<=nb b:=by
 induction a using Nat.strongRecOn with
 |ind a ih=>
  intro b h;by_cases h0:a=0
  ·subst h0;rw[nb_zero];omega
  ·rw[nb_pos h0,nb_pos (show b≠0 by omega)];have:=ih (a/256) (by omega) (b:=b/256) (by omega);omega
def sz(n:Nat):Nat:=if n<=247 then 1 else 1+nb n
def numForm(n:Nat):List UInt8:=if n<=247 then[UInt8.ofNat n]else UInt8.ofNat (247+nb n)::dg n
theorem numForm_length(n:Nat):(numForm n).length=sz n:=by
 unfold numForm sz;split
 ·rfl
 ·rw[List.length_cons,dg_length];omega
theorem sz_le{n:Nat}(h:n<18446744073709551616):sz n<=9:=by unfold sz;have:=nb_le8 h;split<;>omega
def vl(l:List UInt8):Nat:=l.foldl (fun a c=>a*256+c.toNat) 0
theorem vl_snoc(l:List UInt8)(c:UInt8):vl (l++[c])=vl l*256+c.toNat:=by simp[vl]
theorem u8_of(k:Nat)(h:k<256):(UInt8.ofNat k).toNat=k:=by rw[UInt8.toNat_ofNat'];omega
theorem u8_lt(c:UInt8):c.toNat<256:=c.toNat_lt
theorem vl_dg(n:Nat):vl (dg n)=n:=by
 induction n using Nat.strongRecOn with
 |ind n ih=>
  by_cases h:n=0
  ·subst h;rw[dg_zero];rfl
  ·rw[dg_pos h,vl_snoc,ih (n/256) (by omega),u8_of _ (by omega)];omega
theorem vl_lt(l:List UInt8):vl l<256^l.length:=by
 generalize hk:l.length=k;induction k generalizing l with
 |zero=>rw[List.length_eq_zero_iff.1 hk];decide
 |succ k ih=>
  have hne:l≠[]:=by intro h;subst h;simp at hk
  obtain⟨x,c,rfl⟩:∃x c,l=x++[c]:=⟨l.dropLast,l.getLast hne,(List.dropLast_concat_getLast hne).symm⟩;have:=ih x (by simpa using hk);have:=u8_lt c;rw[vl_snoc,Nat.pow_succ];omega
theorem dg_step(n f:Nat)(h:f<nb n):dg (n/256^f)=dg (n/256^(f+1))++[UInt8.ofNat (n/256^f%256)]:=by
 have h0:n/256^f≠0:=by intro h0;have hp:0<256^f:=Nat.pow_pos (by decide);have:=nb_le f n ((Nat.div_eq_zero_iff_lt hp).1 h0);omega
 rw[dg_pos h0,Nat.div_div_eq_div_mul,<-Nat.pow_succ]
theorem dg_all(n:Nat):dg (n/256^nb n)=[]:=by
 have:n/256^nb n=0:=by
  apply Nat.div_eq_of_lt;have:=vl_lt (dg n)
  rwa [vl_dg,dg_length]at this
 rw[this,dg_zero]
def bs(l:List UInt8):ByteArray:=⟨l.toArray⟩
theorem bs_data(l:List UInt8):(bs l).data.toList=l:=by simp[bs]
theorem bs_of(s:ByteArray):bs s.data.toList=s:=by cases s;simp[bs]
theorem bs_size(l:List UInt8):(bs l).size=l.length:=by simp[bs,ByteArray.size]
def cl(l:List UInt8):List Value:=l.map fun c=>Value.int .u8 c.toNat
theorem cl_length(l:List UInt8):(cl l).length=l.length:=by simp[cl]
theorem cl_append(l r:List UInt8):cl (l++r)=cl l++cl r:=by simp[cl]
theorem cl_one(k:Nat)(h:k<256):cl [UInt8.ofNat k]=[Value.int .u8 k]:=by simp only[cl,List.map_cons,List.map_nil,u8_of k h]
theorem strCells_bs(s:ByteArray):Lib.strCells s=cl s.data.toList:=rfl
abbrev ui(n:Int):Value:=.int .u32 n
abbrev uw(n:Int):Value:=.int .u64 n
abbrev ub(n:Int):Value:=.int .u8 n
abbrev iw(n:Int):Value:=.int .i64 n
abbrev sd(l:List UInt8):Value:=.string (bs l)
abbrev su:Value:=.string ⟨#[]⟩
abbrev sy:Value:=.slice none 0 0
abbrev pz(b:Nat):Value:=.pointer (some ⟨b,0,none⟩)
abbrev ce(W:World)(b k:Nat)(v:Value):Prop:=W.cell? ⟨b,k,none⟩=some v
theorem xj{α:Sort _}(a:α):∃b,a=b:=⟨a,rfl⟩
theorem bkc{w:World}{b j:Nat}{cs:Array Value}{ty:TypeId}{u:Value}(h:w.heap[b]?=some (.cells cs ty (0,0)))(hj:cs[j]?=some u):w.cell? ⟨b,j,none⟩=some u:=by unfold World.cell?;rw[h];exact hj
theorem bk2{W:World}{b t:Nat}{v0 v1:Value}(h:W.heap[b]?=some (.cells #[v0,v1] t (0,0))):ce W b 0 v0/\ce W b 1 v1:=⟨bkc h rfl,bkc h rfl⟩
theorem bk6{W:World}{b t:Nat}{v0 v1 v2 v3 v4 v5:Value}(h:W.heap[b]?=some (.cells #[v0,v1,v2,v3,v4,v5] t (0,0))):ce W b 0 v0/\ce W b 1 v1/\ce W b 2 v2/\ce W b 3 v3/\ce W b 4 v4/\ce W b 5 v5:=⟨bkc h rfl,bkc h rfl,bkc h rfl,bkc h rfl,bkc h rfl,bkc h rfl⟩
theorem bk8{W:World}{b t:Nat}{v0 v1 v2 v3 v4 v5 v6 v7:Value}(h:W.heap[b]?=some (.cells #[v0,v1,v2,v3,v4,v5,v6,v7] t (0,0))):ce W b 0 v0/\ce W b 1 v1/\ce W b 2 v2/\ce W b 3 v3/\ce W b 4 v4/\ce W b 5 v5/\ce W b 6 v6/\ce W b 7 v7:=⟨bkc h rfl,bkc h rfl,bkc h rfl,bkc h rfl,bkc h rfl,bkc h rfl,bkc h rfl,bkc h rfl⟩
theorem bk10{W:World}{b t:Nat}{v0 v1 v2 v3 v4 v5 v6 v7 v8 v9:Value}(h:W.heap[b]?=some (.cells #[v0,v1,v2,v3,v4,v5,v6,v7,v8,v9] t (0,0))):ce W b 0 v0/\ce W b 1 v1/\ce W b 2 v2/\ce W b 3 v3/\ce W b 4 v4/\ce W b 5 v5/\ce W b 6 v6/\ce W b 7 v7/\ce W b 8 v8/\ce W b 9 v9:=⟨bkc h rfl,bkc h rfl,bkc h rfl,bkc h rfl,bkc h rfl,bkc h rfl,bkc h rfl,bkc h rfl,bkc h rfl,bkc h rfl⟩
theorem gsz{α:Type _}{a:Array α}{i:Nat}{x:α}(h:a[i]?=some x):i<a.size:=(Array.getElem?_eq_some_iff.1 h).1
open Go.RowKit
theorem bcell{W w1:World}(hb:Below W.heap.size W w1):(∀b o,b<W.heap.size->w1.cell? ⟨b,o,none⟩=W.cell? ⟨b,o,none⟩)/\(∀b o,b<W.heap.size->w1.frozen? ⟨b,o,none⟩=W.frozen? ⟨b,o,none⟩):=
 ⟨fun b o h=>hb.cell (p:=⟨b,o,none⟩) h,fun b o h=>hb.frozen (p:=⟨b,o,none⟩) h⟩
theorem below_drewN{B:Nat}{a w:World}(h:Below B a w)(n:Nat):Below B a (w.drewN n):=⟨h.os,h.tape,h.output,h.size,h.block⟩
theorem al{W:World}(o:Obj):Below W.heap.size W (W.alloc o):=(Below.refl _ _).alloc (Nat.le_refl _) _
theorem toList_list(s:ByteArray):s.toList=s.data.toList:=ByteArray.toList_eq s
theorem bs_list(a:List UInt8):(bs a).toList=a:=by rw[ByteArray.toList_eq,bs_data]
theorem bs_beq(a b:List UInt8):((bs a).toList==(bs b).toList)=(a==b):=by rw[bs_list,bs_list]
structure Kept(F:Nat->Prop)(w w':World):Prop where
 os:w'.os=w.os
 tape:w'.tape=w.tape
 output:w'.output=w.output
 size:w.heap.size<=w'.heap.size
 block:∀k,k<w.heap.size->¬F k->w'.heap[k]?=w.heap[k]?
theorem Kept.refl(F:Nat->Prop)(w:World):Kept F w w:=⟨rfl,rfl,rfl,Nat.le_refl _,fun _ _ _=>rfl⟩
theorem Kept.of_below{F:Nat->Prop}{w w':World}(h:Below w.heap.size w w'):Kept F w w':=⟨h.os,h.tape,h.output,h.size,fun k hk _=>h.block k hk⟩
theorem Kept.below{F:Nat->Prop}{B:Nat}{w w':World}(h:Kept F w w')(hB:B<=w.heap.size)(hF:∀k,F k->B<=k):Below B w w':=
 ⟨h.os,h.tape,h.output,h.size,fun k hk=>h.block k (Nat.lt_of_lt_of_le hk hB) (fun hf=>absurd (hF k hf) (by omega))⟩
theorem Kept.trans{F G:Nat->Prop}{a b c:World}(h:Kept F a b)(k:Kept G b c)(hG:∀i,G i->F i\/a.heap.size<=i):Kept F a c:=
 ⟨k.os.trans h.os,k.tape.trans h.tape,k.output.trans h.output,Nat.le_trans h.size k.size,fun i hi hF=>(k.block i (Nat.lt_of_lt_of_le hi h.size) (fun hg=>by rcases hG i hg with h1|h1;exact hF h1;omega)).trans (h.block i hi hF)⟩
theorem Kept.cell{F:Nat->Prop}{w w':World}(h:Kept F w w'){b o:Nat}{v:Value}(hc:w.cell? ⟨b,o,none⟩=some v)(hb:¬F b):w'.cell? ⟨b,o,none⟩=some v:=by have hl:b<w.heap.size:=World.block_lt_of_cell? _ _ hc;unfold World.cell? at hc|-;rw[h.block b hl hb];exact hc
theorem Kept.drew{F:Nat->Prop}{w w':World}(h:Kept F w w'):Kept F w w'.drew:=⟨h.os,h.tape,h.output,h.size,h.block⟩
theorem Kept.mono{F G:Nat->Prop}{w w':World}(h:Kept F w w')(hF:∀i,F i->G i):Kept G w w':=⟨h.os,h.tape,h.output,h.size,fun k hk hn=>h.block k hk (fun hf=>hn (hF k hf))⟩
theorem Kept.of_below'{B:Nat}{w w':World}(h:Below B w w'):Kept (fun i=>B<=i) w w':=⟨h.os,h.tape,h.output,h.size,fun k _ hn=>h.block k (by omega)⟩
def RwAt(B size:Nat)(v:Value)(n:Nat)(cs:List Value)(w:World):Prop:=
 ∃ao cap,v=.slice ao n cap/\cs.length=n*size/\n<=cap/\cap<=9223372036854775807/\(0<cap->∃b off,ao=some ⟨b,off,none⟩/\(0<n->b<B)/\∀j u,cs[j]?=some u->w.cell? ⟨b,off+j,none⟩=some u)
theorem RwAt.kept{B size:Nat}{v:Value}{n:Nat}{cs:List Value}{w w':World}{F:Nat->Prop}(h:RwAt B size v n cs w)(hk:Kept F w w')(hF:∀k,F k->B<=k):RwAt B size v n cs w':=by
 obtain⟨ao,cap,rfl,hl,hm,hc,h⟩:=h;refine⟨ao,cap,rfl,hl,hm,hc,fun h0=>?_⟩;obtain⟨b,off,rfl,hb,hcell⟩:=h h0;refine⟨b,off,rfl,hb,fun j u hj=>?_⟩;have hjl:j<cs.length:=(List.getElem?_eq_some_iff.1 hj).1;have hn:0<n:=by
  rcases Nat.eq_zero_or_pos n with h1|h1
  ·subst h1;omega
  ·exact h1
 exact hk.cell (hcell j u hj) (fun hf=>by have:=hF b hf;have:=hb hn;omega)
theorem RwAt.on{B size:Nat}{v:Value}{n:Nat}{cs:List Value}{w w':World}(h:RwAt B size v n cs w)(hb:Below B w w'):RwAt B size v n cs w':=by
 obtain⟨ao,cap,rfl,hl,hm,hc,h⟩:=h;refine⟨ao,cap,rfl,hl,hm,hc,fun h0=>?_⟩;obtain⟨b,off,rfl,hbl,hcell⟩:=h h0;refine⟨b,off,rfl,hbl,fun j u hj=>?_⟩;have hjl:j<cs.length:=(List.getElem?_eq_some_iff.1 hj).1;have hn:0<n:=by
  rcases Nat.eq_zero_or_pos n with h1|h1
  ·subst h1;omega
  ·exact h1
 rw[hb.cell (p:=⟨b,off+j,none⟩) (hbl hn)];exact hcell j u hj
theorem RwAt.le{B B' size:Nat}{v:Value}{n:Nat}{cs:List Value}{w:World}(h:RwAt B size v n cs w)(hB:B<=B'):RwAt B' size v n cs w:=by obtain⟨ao,cap,rfl,hl,hm,hc,h⟩:=h;refine⟨ao,cap,rfl,hl,hm,hc,fun h0=>?_⟩;obtain⟨b,off,rfl,hb,hcell⟩:=h h0;exact⟨b,off,rfl,fun h1=>Nat.lt_of_lt_of_le (hb h1) hB,hcell⟩
theorem RwAt.nil(B size:Nat)(w:World):RwAt B size sy 0 [] w:=⟨none,0,rfl,by simp,Nat.le_refl _,by omega,fun h=>absurd h (by omega)⟩
theorem RwAt.cellAt{B size:Nat}{ao:Option Addr}{cap n:Nat}{cs:List Value}{w:World}(h:RwAt B size (.slice ao n cap) n cs w){j:Nat}(hj:j<cs.length):∃b off,ao=some ⟨b,off,none⟩/\b<B/\∀j u,cs[j]?=some u->w.cell? ⟨b,off+j,none⟩=some u:=by
 obtain⟨ao',cap',e,hl,hm,hc,h⟩:=h;simp only[Value.slice.injEq]at e;obtain⟨rfl,_,rfl⟩:=e;have hn:0<n:=by
  rcases Nat.eq_zero_or_pos n with h1|h1
  ·subst h1;omega
  ·exact h1
 obtain⟨b,off,rfl,hb,hcell⟩:=h (by omega);exact⟨b,off,rfl,hb hn,hcell⟩
theorem RwAt.take{B size:Nat}{ao:Option Addr}{cap n:Nat}{cs:List Value}{w:World}(h:RwAt B size (.slice ao n cap) n cs w){k:Nat}(hk:k<=n):RwAt B size (.slice ao k cap) k (cs.take (k*size)) w:=by
 obtain⟨ao',cap',e,hl,hm,hc,h⟩:=h;simp only[Value.slice.injEq]at e;obtain⟨rfl,_,rfl⟩:=e;have hks:k*size<=n*size:=Nat.mul_le_mul_right _ hk;refine⟨ao,cap,rfl,by rw[List.length_take];omega,by omega,hc,fun h0=>?_⟩;obtain⟨b,off,rfl,hb,hcell⟩:=h h0;refine⟨b,off,rfl,fun h1=>hb (by omega),fun j u hj=>hcell j u ?_⟩;rw[List.getElem?_take]at hj;split at hj
 ·exact hj
 ·cases hj
theorem rw_own{base e size:Nat}{v:Value}{n:Nat}{cs:List Value}{w:World}(h:w.ownsRow base e size v n cs):RwAt w.heap.size size v n cs w:=by
 rcases h.2 with⟨rfl,h0⟩|⟨g,cap,cur,rfl,hb,hg,hnc,hcm,hcs,ht⟩
 ·subst h0;have:cs=[]:=List.eq_nil_of_length_eq_zero (by simpa using h.1);subst this;exact RwAt.nil _ _ _
 ·refine⟨_,cap,rfl,h.1,hnc,by unfold maxLen at hcm;omega,fun _=>⟨g,0,rfl,fun _=>(gsz hg),fun j u hj=>?_⟩⟩;have:=World.ownsRow.cells h (g:=g) rfl j u hj;rw[Addr.add_lit]at this;exact this
theorem own_on{base e size:Nat}{v:Value}{n:Nat}{cs:List Value}{w w':World}(h:w.ownsRow base e size v n cs)(hb:Below w.heap.size w w'):w'.ownsRow base e size v n cs:=by
 refine⟨h.1,?_⟩;rcases h.2 with h0|⟨g,cap,cur,e,hg,hh,h1,h2,h3,h4⟩
 ·exact .inl h0
 ·exact .inr ⟨g,cap,cur,e,hg,by rw[hb.block g (gsz hh)];exact hh,h1,h2,h3,h4⟩
theorem own_kept{base e size:Nat}{v:Value}{n:Nat}{cs:List Value}{w w':World}{F:Nat->Prop}(h:w.ownsRow base e size v n cs)(hk:Kept F w w')(hF:∀k,v.ownBlock=some k->¬F k):w'.ownsRow base e size v n cs:=by
 refine⟨h.1,?_⟩;rcases h.2 with h0|⟨g,cap,cur,rfl,hg,hh,h1,h2,h3,h4⟩
 ·exact .inl h0
 ·exact .inr ⟨g,cap,cur,rfl,hg,by rw[hk.block g (gsz hh) (hF g rfl)];exact hh,h1,h2,h3,h4⟩
theorem own_le{base base' e size:Nat}{v:Value}{n:Nat}{cs:List Value}{w:World}(h:w.ownsRow base e size v n cs)(hb:base'<=base):w.ownsRow base' e size v n cs:=by
 refine⟨h.1,?_⟩;rcases h.2 with h0|⟨g,cap,cur,e,hg,r⟩
 ·exact .inl h0
 ·exact .inr ⟨g,cap,cur,e,Nat.le_trans hb hg,r⟩
theorem grown_kept{w w':World}{row:Option Nat}(h:w.grownBy w' row):Kept (fun k=>row=some k) w w':=⟨h.os,h.tape,h.output,h.size,fun k hk hn=>h.block k hk (fun e=>hn e.symm)⟩
structure Ow(base e size:Nat)(v:Value)(n:Nat)(xs:List Value)(B:Nat)(vx:Value)(m:Nat)(cs:List Value)(w:World):Prop where
 own:w.ownsRow base e size v n xs
 new:RwAt B size vx m cs w
 one:∀u∈cs,u.oneCell'=true
 size:base<=w.heap.size
 len:n+m<=1048576
theorem run_append_rw{P:Program}{base t ty e size bytes B n m:Nat}{v vx:Value}{xs cs:List Value}{i:TypeInfo}{z:Value}{w:World}(ht:P.underlying t=some (.slice e))(hi:P.info? e=some i)(hz:i.zero=some z)
  (hsize:i.size=size) (hby:i.bytes=bytes) (hzs:z.cells.size=size) (hsz:0<size) (hb:bytes<=1000) (H:Ow base e size v n xs B vx m cs w):
  ∃v' w',(Builtin.append_ #[t,t] ty #[v,vx]).run P w=.ok v' w'/\w'.ownsRow base e size v' (n+m) (xs++cs)/\w.grownBy w' v.ownBlock/\(v'.ownBlock=v.ownBlock\/v'.ownBlock=some w.heap.size):=by
 obtain⟨ax,cx,rfl,hl,hm,hc,hx⟩:=H.new;have hlen:=H.len;have hbb:(n+m)*bytes<=140737488355328:=by have:(n+m)*bytes<=1048576*1000:=Nat.mul_le_mul hlen hb;omega
 have hm0:ax=none->m=0:=fun h=>by
  subst h;rcases Nat.eq_zero_or_pos m with h1|h1
  ·exact h1
  ·obtain⟨b,o,e,_⟩:=hx (by omega);cases e
 cases ax with
 |none=>
  have h0:=hm0 rfl;subst h0;have hcs:cs=[]:=List.eq_nil_of_length_eq_zero (by simpa using hl);subst hcs;refine⟨v,w,?_,by simpa using H.own,⟨rfl,rfl,rfl,Nat.le_refl _,fun _ _ _=>rfl⟩,.inl rfl⟩;rcases H.own.2 with⟨rfl,_⟩|⟨g,cap,cur,rfl,_,_,hnc,_⟩
  ·simp[Builtin.append_,run_underlying ht,sizeOf,typeInfo,hi,Builtin.lenOf,Builtin.firstCells]
  ·simp[Builtin.append_,run_underlying ht,sizeOf,typeInfo,hi,Builtin.lenOf,Builtin.firstCells,hnc,storeCells]
 |some ad=>
  have hnews:∀j u,cs[j]?=some u->w.cell? (ad.add j)=some u:=by
   intro j u hj;have hjl:j<cs.length:=(List.getElem?_eq_some_iff.1 hj).1;have hn:0<m:=by
    rcases Nat.eq_zero_or_pos m with h1|h1
    ·subst h1;omega
    ·exact h1
   obtain⟨b,off,e,_,hcell⟩:=hx (by omega);injection e with e;subst e;rw[Addr.add_lit];exact hcell j u hj
  obtain⟨v',w',h1,h2,h3,_,h5⟩:=run_append_own_at (P:=P) w base t ty e i z size bytes ht hi hz hsize hby hzs hsz v n xs H.own ad m cx cs hl hnews H.one (by unfold maxLen;omega) hbb H.size;exact⟨v',w',h1,h2,h3,h5⟩
theorem wpList_append_rw{P:Program}{base t e size bytes B n m:Nat}{v vx:Value}{xs cs:List Value}{i:TypeInfo}{z:Value}{ops:Array Oper}{rest:List Oper}{o:Oper}{a:Act}{Q:Exit->Act->World->Prop}{w:World}(H:Ow base e size v n xs B vx m cs w)
  (ht:P.underlying t=some (.slice e)) (hi:P.info? e=some i) (hz:i.zero=some z) (hsize:i.size=size) (hby:i.bytes=bytes) (hzs:z.cells.size=size) (hsz:0<size) (hb:bytes<=1000)
  (s x:Operand) (ho:o.op=.call {callee:=.builtin .append,args:=#[s,x],argTypes:=#[t,t]}) (hw:Region.wanted o (yielded ops a.tmps)=true) (hs:a.eval s=v) (hx:a.eval x=vx)
  (h:∀v' w',w'.ownsRow base e size v' (n+m) (xs++cs)->w.grownBy w' v.ownBlock->(v'.ownBlock=v.ownBlock\/v'.ownBlock=some w.heap.size)->wpList P ops Q rest (a.put o.dst v') w'):wpList P ops Q (o::rest) a w:=
 wpList_step fun K hK=>by rw[if_pos hw];obtain⟨v',w',hr,h2,h3,h4⟩:=run_append_rw (ty:=o.type) ht hi hz hsize hby hzs hsz hb H;unfold Oper.wp execOp;simp only[ho,resolve,invoke,builtin,Sem.run_bind,Sem.run_pure,Result.andThen_ok,List.map_toArray,List.map_cons,List.map_nil,hs,hx,hr];exact hK _ _ (h v' w' h2 h3 h4)
section
variable {α:Type}(vc:α->List Value)
def rowC(L:List α):List Value:=L.flatMap vc
theorem rowC_one(x:α):rowC vc [x]=vc x:=by simp[rowC]
theorem rowC_cons(x:α)(L:List α):rowC vc (x::L)=vc x++rowC vc L:=by simp[rowC]
theorem rowC_append(L R:List α):rowC vc (L++R)=rowC vc L++rowC vc R:=by simp[rowC]
theorem rowC_cells(h:∀a,∀u∈vc a,u.oneCell'=true)(L:List α):∀u∈rowC vc L,u.oneCell'=true:=fun u hu=>by obtain⟨a,_,ha⟩:=List.mem_flatMap.1 hu;exact h a u ha
variable {vc}{sz:Nat}
theorem rowC_length(hsz:∀a,(vc a).length=sz)(L:List α):(rowC vc L).length=L.length*sz:=by
 induction L with
 |nil=>simp[rowC]
 |cons a L ih=>rw[rowC_cons,List.length_append,ih,hsz,List.length_cons,Nat.succ_mul];omega
theorem rowC_get(hsz:∀a,(vc a).length=sz)(d:α):∀(L:List α) (i j:Nat),i<L.length->j<sz->(rowC vc L)[i*sz+j]?=(vc (L.getD i d))[j]?
 |[],_,_,h,_=>absurd h (by simp)
 |a::r,0,j,_,hj=>by rw[rowC_cons,Nat.zero_mul,Nat.zero_add,List.getElem?_append_left (by rw[hsz];exact hj)];rfl
 |a::r,i+1,j,h,hj=>by rw[rowC_cons,List.getElem?_append_right (by rw[hsz,Nat.succ_mul];omega),hsz,show(i+1)*sz+j-sz=i*sz+j from by rw[Nat.succ_mul];omega,rowC_get hsz d r i j (by simpa using h) hj];rfl
theorem rowC_take(hsz:∀a,(vc a).length=sz):∀(L:List α) (k:Nat),(rowC vc L).take (k*sz)=rowC vc (L.take k)
 |[],k=>by simp[rowC]
 |a::r,0=>by simp[rowC]
 |a::r,k+1=>by rw[rowC_cons,List.take_succ_cons,rowC_cons,List.take_append,hsz,List.take_of_length_le (by rw[hsz,Nat.succ_mul];omega),show(k+1)*sz-sz=k*sz from by rw[Nat.succ_mul];omega,rowC_take hsz r k]
theorem rowC_el(hsz:∀a,(vc a).length=sz)(d:α)(h0:0<sz){B:Nat}{ao:Option Addr}{cap n:Nat}{L:List α}{w:World}(hn:n=L.length)(h:RwAt B sz (.slice ao n cap) n (rowC vc L) w){i:Nat}(hi:i<n):∃b off,ao=some ⟨b,off,none⟩/\∀j u,j<sz->(vc (L.getD i d))[j]?=some u->ce w b (off+i*sz+j) u:=by
 subst hn;have hlt:i*sz<(rowC vc L).length:=by rw[rowC_length hsz];exact Nat.mul_lt_mul_of_pos_right hi h0
 obtain⟨b,off,e,_,hc⟩:=RwAt.cellAt h (j:=i*sz) hlt;refine⟨b,off,e,fun j u hj hu=>?_⟩;rw[Nat.add_assoc];exact hc _ _ (by rw[rowC_get hsz d L i j hi hj];exact hu)
end
theorem row_one{α:Type}(vc:α->List Value)(sz:Nat)(hsz:∀a,(vc a).length=sz)(x:α)(ty:TypeId)(w:World)(hc:∀j u,(vc x)[j]?=some u->(w.alloc (.cells (vc x).toArray ty)).cell? ⟨w.heap.size,j,none⟩=some u):RwAt (w.heap.size+1) sz (.slice (some ⟨w.heap.size,0,none⟩) 1 1) 1 (rowC vc [x]) (w.alloc (.cells (vc x).toArray ty)):=by rw[rowC_one];refine⟨_,1,rfl,by rw[hsz,Nat.one_mul],Nat.le_refl _,by omega,fun _=>⟨w.heap.size,0,rfl,fun _=>Nat.lt_succ_self _,fun j u hj=>?_⟩⟩;rw[Nat.zero_add];exact hc j u hj
def ltK(a b:List UInt8):Bool:=Op.bytesLess a b
theorem ltK_irrefl:∀a:List UInt8,ltK a a=false
 |[]=>rfl
 |a::r=>by have:=ltK_irrefl r;unfold ltK at this|-;simp[Op.bytesLess,this]
theorem ltK_trans:∀{a b c:List UInt8},ltK a b=true->ltK b c=true->ltK a c=true
 |_,[],_,h,_=>by simp[ltK,Op.bytesLess]at h
 |_,_::_,[],_,h=>by simp[ltK,Op.bytesLess]at h
 |[],_::_,_::_,_,_=>by simp[ltK,Op.bytesLess]
 |a::r,b::s,c::t,h1,h2=>by
  have ih:=@ltK_trans r s t;unfold ltK at*;simp only[Op.bytesLess,Bool.or_eq_true,Bool.and_eq_true,decide_eq_true_eq,beq_iff_eq]at*;rcases h1 with h1|⟨rfl,h1⟩
  ·rcases h2 with h2|⟨rfl,_⟩
   ·exact .inl (UInt8.lt_trans h1 h2)
   ·exact .inl h1
  ·rcases h2 with h2|⟨rfl,h2⟩
   ·exact .inl h2
   ·exact .inr ⟨rfl,ih h1 h2⟩
theorem ltK_tri:∀{a b:List UInt8},ltK a b=false->ltK b a=false->a=b
 |[],[],_,_=>rfl
 |[],_::_,h,_=>by simp[ltK,Op.bytesLess]at h
 |_::_,[],_,h=>by simp[ltK,Op.bytesLess]at h
 |a::r,b::s,h1,h2=>by
  have ih:=@ltK_tri r s;unfold ltK at*;simp only[Op.bytesLess,Bool.or_eq_false_iff,Bool.and_eq_false_iff,decide_eq_false_iff_not,beq_eq_false_iff_ne]at h1 h2;have hab:a=b:=by have h3:=h1.1;have h4:=h2.1;rw[UInt8.not_lt]at h3 h4;exact UInt8.le_antisymm h4 h3
  subst hab;have e1:=h1.2.resolve_left (by simp);have e2:=h2.2.resolve_left (by simp);rw[ih e1 e2]
theorem ltK_asymm{a b:List UInt8}(h:ltK a b=true):ltK b a=false:=by
 cases h2:ltK b a
 ·rfl
 ·have:=ltK_trans h h2;rw[ltK_irrefl]at this;cases this
theorem ltK_ne{a b:List UInt8}(h:ltK a b=true):a≠b:=fun e=>by subst e;rw[ltK_irrefl]at h;cases h
theorem ltK_le2{a b c:List UInt8}(h1:ltK a b=true)(h2:ltK c b=false):ltK a c=true:=by
 cases h:ltK b c
 ·have:=ltK_tri h h2;subst this;exact h1
 ·exact ltK_trans h1 h
abbrev Kv(α:Type):=List (List UInt8×α)
variable {α:Type}
def Srt(L:Kv α):Prop:=L.Pairwise (fun a b=>ltK a.1 b.1=true)
def getF(k:List UInt8):Kv α->Option α
 |[]=>none
 |(a,v)::r=>if a==k then some v else getF k r
def setF(k:List UInt8)(v:α):Kv α->Kv α
 |[]=>[(k,v)]
 |(a,u)::r=>if ltK a k then(a,u)::setF k v r else if a==k then(k,v)::r else(k,v)::(a,u)::r
def cutF(k:List UInt8):Kv α->Kv α
 |[]=>[]
 |(a,u)::r=>if a==k then r else(a,u)::cutF k r
def inR(lo hi:List UInt8)(k:List UInt8):Bool:= !ltK k lo&&(hi.isEmpty||ltK k hi)
def rangeF(lo hi:List UInt8)(L:Kv α):List (List UInt8):=(L.map (·.1)).filter (inR lo hi)
def keysF(lo hi:List UInt8)(limit:Int)(L:Kv α):List (List UInt8):=(rangeF lo hi L).take limit.toNat
theorem setF_keys{k:List UInt8}{v:α}:∀{L:Kv α} {x:List UInt8×α},x∈setF k v L->x=(k,v)\/x∈L
 |[],x,h=>by simp only[setF,List.mem_singleton]at h;exact .inl h
 |(a,u)::r,x,h=>by
  unfold setF at h;by_cases h1:ltK a k=true
  ·rw[if_pos h1]at h;rcases List.mem_cons.1 h with h|h
   ·exact .inr (by simp[h])
   ·rcases setF_keys h with h|h
    ·exact .inl h
    ·exact .inr (by simp[h])
  ·rw[if_neg h1]at h;by_cases h2:(a==k)=true
   ·rw[if_pos h2]at h;rcases List.mem_cons.1 h with h|h
    ·exact .inl h
    ·exact .inr (by simp[h])
   ·rw[if_neg h2]at h;rcases List.mem_cons.1 h with h|h
    ·exact .inl h
    ·exact .inr h
theorem setF_srt{k:List UInt8}{v:α}:∀{L:Kv α},Srt L->Srt (setF k v L)
 |[],_=>by simp[setF,Srt]
 |(a,u)::r,h=>by
  obtain⟨h1,h2⟩:=List.pairwise_cons.1 h;unfold setF;by_cases h3:ltK a k=true
  ·rw[if_pos h3];refine List.pairwise_cons.2 ⟨fun x hx=>?_,setF_srt h2⟩;rcases setF_keys hx with rfl|hx
   ·exact h3
   ·exact h1 x hx
  ·rw[if_neg h3];by_cases h4:(a==k)=true
   ·rw[if_pos h4];have:a=k:=by simpa using h4
    subst this;exact List.pairwise_cons.2 ⟨h1,h2⟩
   ·rw[if_neg h4];have hka:ltK k a=true:=by
     cases h5:ltK k a
     ·exact absurd (ltK_tri (by simpa using h3) h5) (by simpa using h4)
     ·rfl
    refine List.pairwise_cons.2 ⟨fun x hx=>?_,h⟩;rcases List.mem_cons.1 hx with rfl|hx
    ·exact hka
    ·exact ltK_trans hka (h1 x hx)
theorem cutF_sub{k:List UInt8}:∀{L:Kv α} {x:List UInt8×α},x∈cutF k L->x∈L
 |[],x,h=>by simp[cutF]at h
 |(a,u)::r,x,h=>by
  unfold cutF at h;split at h
  ·exact List.mem_cons_of_mem _ h
  ·rcases List.mem_cons.1 h with h|h
   ·simp[h]
   ·exact List.mem_cons_of_mem _ (cutF_sub h)
theorem cutF_srt{k:List UInt8}:∀{L:Kv α},Srt L->Srt (cutF k L)
 |[],_=>by simp[cutF,Srt]
 |(a,u)::r,h=>by
  obtain⟨h1,h2⟩:=List.pairwise_cons.1 h;unfold cutF;split
  ·exact h2
  ·exact List.pairwise_cons.2 ⟨fun x hx=>h1 x (cutF_sub hx),cutF_srt h2⟩
theorem getF_none{k:List UInt8}:∀{L:Kv α},(∀x∈L,x.1≠k)->getF k L=none
 |[],_=>rfl
 |(a,u)::r,h=>by unfold getF;rw[if_neg (by simpa using h (a,u) (by simp))];exact getF_none fun x hx=>h x (by simp[hx])
theorem getF_mem{k:List UInt8}{v:α}:∀{L:Kv α},Srt L->(getF k L=some v↔(k,v)∈L)
 |[],_=>by simp[getF]
 |(a,u)::r,h=>by
  obtain⟨h1,h2⟩:=List.pairwise_cons.1 h;unfold getF;by_cases h3:(a==k)=true
  ·rw[if_pos h3];have e:a=k:=by simpa using h3
   subst e;constructor
   ·intro e;injection e with e;subst e;simp
   ·intro hm;rcases List.mem_cons.1 hm with e|hm
    ·injection e with _ e;rw[e]
    ·have h5:=h1 _ hm;dsimp only at h5;rw[ltK_irrefl]at h5;cases h5
  ·rw[if_neg h3,getF_mem h2];have e:a≠k:=by simpa using h3
   constructor
   ·intro hm;simp[hm]
   ·intro hm;rcases List.mem_cons.1 hm with e2|hm
    ·injection e2 with e2 _;exact absurd e2.symm e
    ·exact hm
theorem srt_ext:∀{A B:Kv α},Srt A->Srt B->(∀k,getF k A=getF k B)->A=B
 |[],[],_,_,_=>rfl
 |[],(b,v)::s,_,_,h=>by have:=h b;simp[getF]at this
 |(a,u)::r,[],_,_,h=>by have:=h a;simp[getF]at this
 |(a,u)::r,(b,v)::s,ha,hb,h=>by
  obtain⟨ha1,ha2⟩:=List.pairwise_cons.1 ha;obtain⟨hb1,hb2⟩:=List.pairwise_cons.1 hb;have ma:(a,u)∈(b,v)::s:=(getF_mem hb).1 ((h a).symm.trans ((getF_mem ha).2 (by simp)));have mb:(b,v)∈(a,u)::r:=(getF_mem ha).1 ((h b).trans ((getF_mem hb).2 (by simp)));have e:(a,u)=(b,v):=by
   rcases List.mem_cons.1 ma with e|ma
   ·exact e
   ·rcases List.mem_cons.1 mb with e|mb
    ·exact e.symm
    ·have h1:=hb1 _ ma;have h2:=ha1 _ mb;rw[ltK_asymm h1]at h2;cases h2
  injection e with e1 e2;subst e1 e2;congr 1;refine srt_ext ha2 hb2 fun k=>?_;by_cases hk:k=a
  ·subst hk;rw[getF_none fun x hx=>(ltK_ne (ha1 x hx)).symm,getF_none fun x hx=>(ltK_ne (hb1 x hx)).symm]
  ·have:=h k;unfold getF at this;rw[if_neg (by simpa using fun e=>hk e.symm),if_neg (by simpa using fun e=>hk e.symm)]at this;exact this
theorem get_set{k q:List UInt8}{v:α}:∀{L:Kv α},Srt L->getF q (setF k v L)=if k==q then some v else getF q L
 |[],_=>by simp[setF,getF]
 |(a,u)::r,h=>by
  obtain⟨h1,h2⟩:=List.pairwise_cons.1 h;unfold setF;by_cases h3:ltK a k=true
  ·rw[if_pos h3];show(if a==q then some u else getF q (setF k v r))=_;rw[get_set h2];by_cases h4:(a==q)=true
   ·have e:a=q:=by simpa using h4
    subst e;have hk:(k==a)=false:=by rw[beq_eq_false_iff_ne];exact(ltK_ne h3).symm
    simp[hk,getF]
   ·simp[getF,h4]
  ·rw[if_neg h3];by_cases h4:(a==k)=true
   ·rw[if_pos h4];have e:a=k:=by simpa using h4
    subst e;by_cases h5:(a==q)=true
    ·simp[getF,h5]
    ·simp[getF,h5]
   ·rw[if_neg h4];show(if k==q then some v else getF q ((a,u)::r))=_;rfl
theorem get_cut{k q:List UInt8}:∀{L:Kv α},Srt L->getF q (cutF k L)=if k==q then none else getF q L
 |[],_=>by simp[cutF,getF]
 |(a,u)::r,h=>by
  obtain⟨h1,h2⟩:=List.pairwise_cons.1 h;unfold cutF;by_cases h3:(a==k)=true
  ·rw[if_pos h3];have e:a=k:=by simpa using h3
   subst e;by_cases h4:(a==q)=true
   ·have e:a=q:=by simpa using h4
    subst e;simp[getF_none fun x hx=>(ltK_ne (h1 x hx)).symm]
   ·simp[getF,h4]
  ·rw[if_neg h3];show(if a==q then some u else getF q (cutF k r))=_;rw[get_cut h2];by_cases h4:(a==q)=true
   ·have e:a=q:=by simpa using h4
    subst e;have hk:(k==a)=false:=by rw[beq_eq_false_iff_ne];exact fun e=>h3 (by simp[e])
    simp[getF,hk]
   ·simp[getF,h4]
theorem len_set{k:List UInt8}{v:α}:∀{L:Kv α},Srt L->(setF k v L).length=if(getF k L).isSome then L.length else L.length+1
 |[],_=>by simp[setF,getF]
 |(a,u)::r,h=>by
  obtain⟨h1,h2⟩:=List.pairwise_cons.1 h;unfold setF;by_cases h3:ltK a k=true
  ·rw[if_pos h3];have hk:(a==k)=false:=by rw[beq_eq_false_iff_ne];exact ltK_ne h3
   simp only[List.length_cons,len_set h2,getF,hk,Bool.false_eq_true,if_false];split<;>rfl
  ·rw[if_neg h3];by_cases h4:(a==k)=true
   ·rw[if_pos h4];simp[getF,h4]
   ·rw[if_neg h4];have hka:ltK k a=true:=by
     cases h5:ltK k a
     ·exact absurd (ltK_tri (by simpa using h3) h5) (by simpa using h4)
     ·rfl
    have:getF k r=none:=getF_none fun x hx=>(ltK_ne (ltK_trans hka (h1 x hx))).symm;simp[getF,h4,this]
theorem len_cut{k:List UInt8}:∀{L:Kv α},Srt L->(cutF k L).length=if(getF k L).isSome then L.length-1 else L.length
 |[],_=>by simp[cutF,getF]
 |(a,u)::r,h=>by
  obtain⟨_,h2⟩:=List.pairwise_cons.1 h;unfold cutF;by_cases h3:(a==k)=true
  ·rw[if_pos h3];simp[getF,h3]
  ·rw[if_neg h3];simp only[List.length_cons,len_cut h2,getF,h3];split
   ·rename_i hs;rw[if_pos (by simpa using hs)];cases hr:r with
    |nil=>rw[hr]at hs;simp[getF]at hs
    |cons x s=>simp
   ·rename_i hs;rw[if_neg (by simpa using hs)]
theorem srt_parts{A B:Kv α}{a:List UInt8}{u:α}(h:Srt (A++(a,u)::B)):Srt A/\Srt B/\(∀x∈A,ltK x.1 a=true)/\(∀x∈B,ltK a x.1=true):=by obtain⟨h1,h2,h3⟩:=List.pairwise_append.1 h;obtain⟨h4,h5⟩:=List.pairwise_cons.1 h2;exact⟨h1,h5,fun x hx=>h3 x hx (a,u) (by simp),h4⟩
theorem srt_join{A B:Kv α}{a:List UInt8}{u:α}(h1:Srt A)(h2:Srt B)(h3:∀x∈A,ltK x.1 a=true)(h4:∀x∈B,ltK a x.1=true):Srt (A++(a,u)::B):=by
 refine List.pairwise_append.2 ⟨h1,List.pairwise_cons.2 ⟨h4,h2⟩,fun x hx y hy=>?_⟩;rcases List.mem_cons.1 hy with rfl|hy
 ·exact h3 x hx
 ·exact ltK_trans (h3 x hx) (h4 y hy)
theorem getF_append(k:List UInt8):∀(A B:Kv α),getF k (A++B)=match getF k A with
  |some v=>some v
  |none=>getF k B
 |[],B=>rfl
 |(a,u)::r,B=>by
  have ih:=getF_append k r B;show(if a==k then some u else getF k (r++B))=match (if a==k then some u else getF k r)with
   |some v=>some v
   |none=>getF k B
  by_cases h:(a==k)=true
  ·rw[if_pos h,if_pos h]
  ·rw[if_neg h,if_neg h];exact ih
theorem get_parts{A B:Kv α}{a k:List UInt8}{u:α}(h:Srt (A++(a,u)::B)):getF k (A++(a,u)::B)=if ltK k a then getF k A else if ltK a k then getF k B else some u:=by
 obtain⟨_,_,h3,h4⟩:=srt_parts h;rw[getF_append];cases h5:ltK k a
 ·have hA:getF k A=none:=getF_none fun x hx e=>by have:=h3 x hx;rw[e,h5]at this;cases this
  rw[hA];simp only[Bool.false_eq_true,if_false];cases h6:ltK a k
  ·have:=ltK_tri h5 h6;subst this;simp[getF]
  ·have:(a==k)=false:=by rw[beq_eq_false_iff_ne];exact ltK_ne h6
   simp[getF,this]
 ·have hB:getF k ((a,u)::B)=none:=getF_none fun x hx e=>by
   rcases List.mem_cons.1 hx with rfl|hx
   ·exact ltK_ne h5 e.symm
   ·exact ltK_ne (ltK_trans h5 (h4 x hx)) e.symm
  rw[hB];simp only[if_true];cases getF k A<;>rfl
theorem set_parts{A B:Kv α}{a k:List UInt8}{u v:α}(h:Srt (A++(a,u)::B)):setF k v (A++(a,u)::B)=if ltK k a then setF k v A++(a,u)::B else if ltK a k then A++(a,u)::setF k v B else A++(k,v)::B:=by
 obtain⟨h1,h2,h3,h4⟩:=srt_parts h;have hl:∀(k:List UInt8),ltK k a=true->Srt (setF k v A++(a,u)::B):=fun k hk=>srt_join (setF_srt h1) h2 (fun x hx=>by
  rcases setF_keys hx with rfl|hx
  ·exact hk
  ·exact h3 x hx) h4
 refine srt_ext (setF_srt h) ?_ fun q=>?_
 ·split
  ·rename_i h5;exact hl k h5
  ·split
   ·rename_i h6;exact srt_join h1 (setF_srt h2) h3 fun x hx=>by
     rcases setF_keys hx with rfl|hx
     ·exact h6
     ·exact h4 x hx
   ·rename_i h5 h6;have:=ltK_tri (by simpa using h5) (by simpa using h6);subst this;exact srt_join h1 h2 h3 h4
 ·rw[get_set h,get_parts h];by_cases h5:ltK k a=true
  ·rw[if_pos h5,get_parts (hl k h5),get_set h1];by_cases hq:(k==q)=true
   ·have e:k=q:=by simpa using hq
    subst e;simp[h5]
   ·simp[hq]
  ·rw[if_neg h5];by_cases h6:ltK a k=true
   ·rw[if_pos h6,get_parts (srt_join h1 (setF_srt h2) h3 fun x hx=>by
     rcases setF_keys hx with rfl|hx
     ·exact h6
     ·exact h4 x hx),get_set h2]
    by_cases hq:(k==q)=true
    ·have e:k=q:=by simpa using hq
     subst e;simp[h6,ltK_asymm h6]
    ·simp[hq]
   ·rw[if_neg h6];have e:=ltK_tri (by simpa using h5) (by simpa using h6);subst e;rw[get_parts (srt_join h1 h2 h3 h4)];by_cases hq:(k==q)=true
    ·have e:k=q:=by simpa using hq
     subst e;simp[ltK_irrefl]
    ·have hne:k≠q:=by simpa using hq
     cases h7:ltK q k
     ·cases h8:ltK k q
      ·exact absurd (ltK_tri h8 h7) hne
      ·simp[hq]
     ·simp[hq]
theorem cut_parts{A B:Kv α}{a k:List UInt8}{u:α}(h:Srt (A++(a,u)::B)):cutF k (A++(a,u)::B)=if ltK k a then cutF k A++(a,u)::B else if ltK a k then A++(a,u)::cutF k B else A++B:=by
 obtain⟨h1,h2,h3,h4⟩:=srt_parts h;have hAB:Srt (A++B):=List.pairwise_append.2 ⟨h1,h2,fun x hx y hy=>ltK_trans (h3 x hx) (h4 y hy)⟩;have hl:Srt (cutF k A++(a,u)::B):=srt_join (cutF_srt h1) h2 (fun x hx=>h3 x (cutF_sub hx)) h4;have hr:Srt (A++(a,u)::cutF k B):=srt_join h1 (cutF_srt h2) h3 (fun x hx=>h4 x (cutF_sub hx));refine srt_ext (cutF_srt h) ?_ fun q=>?_
 ·split
  ·exact hl
  ·split
   ·exact hr
   ·exact hAB
 ·rw[get_cut h,get_parts h];by_cases h5:ltK k a=true
  ·rw[if_pos h5,get_parts hl,get_cut h1];by_cases hq:(k==q)=true
   ·have e:k=q:=by simpa using hq
    subst e;simp[h5]
   ·simp[hq]
  ·rw[if_neg h5];by_cases h6:ltK a k=true
   ·rw[if_pos h6,get_parts hr,get_cut h2];by_cases hq:(k==q)=true
    ·have e:k=q:=by simpa using hq
     subst e;simp[h6,ltK_asymm h6]
    ·simp[hq]
   ·rw[if_neg h6];have e:=ltK_tri (by simpa using h5) (by simpa using h6);subst e;rw[getF_append];by_cases hq:(k==q)=true
    ·have e:k=q:=by simpa using hq
     subst e;rw[getF_none fun x hx=>ltK_ne (h3 x hx),getF_none fun x hx=>(ltK_ne (h4 x hx)).symm];simp
    ·have hne:k≠q:=by simpa using hq
     rw[if_neg hq];cases h7:ltK q k
     ·cases h8:ltK k q
      ·exact absurd (ltK_tri h8 h7) hne
      ·rw[getF_none (k:=q) (L:=A) fun x hx e=>by have:=ltK_trans (h3 x hx) h8;rw[e,ltK_irrefl]at this;cases this]
       simp
     ·rw[getF_none (k:=q) (L:=B) fun x hx e=>by have:=ltK_trans h7 (h4 x hx);rw[e,ltK_irrefl]at this;cases this]
      simp;cases getF q A<;>rfl
theorem range_append(lo hi:List UInt8)(A B:Kv α):rangeF lo hi (A++B)=rangeF lo hi A++rangeF lo hi B:=by simp[rangeF]
theorem range_cons(lo hi:List UInt8)(a:List UInt8)(u:α)(B:Kv α):rangeF lo hi ((a,u)::B)=if inR lo hi a then a::rangeF lo hi B else rangeF lo hi B:=by simp only[rangeF,List.map_cons,List.filter_cons]
theorem range_none{lo hi:List UInt8}{L:Kv α}(h:∀x∈L,inR lo hi x.1=false):rangeF lo hi L=[]:=by unfold rangeF;rw[List.filter_eq_nil_iff];intro k hk;obtain⟨x,hx,rfl⟩:=List.mem_map.1 hk;simp[h x hx]
theorem range_all(L:Kv α):rangeF [] [] L=L.map (·.1):=by
 unfold rangeF;rw[List.filter_eq_self];intro k _;have:ltK k []=false:=by cases k<;>rfl
 simp[inR,this]
theorem srt_nodup{L:Kv α}(h:Srt L):(L.map (·.1)).Nodup:=by unfold List.Nodup;rw[List.pairwise_map];exact h.imp fun hab=>ltK_ne hab
theorem keys_get{L:Kv α}(h:Srt L)(k:List UInt8):k∈L.map (·.1)↔(getF k L).isSome=true:=by
 constructor
 ·intro hk;obtain⟨x,hx,rfl⟩:=List.mem_map.1 hk;rw[(getF_mem (v:=x.2) h).2 hx];rfl
 ·intro hk;cases hg:getF k L with
  |none=>rw[hg]at hk;cases hk
  |some v=>exact List.mem_map.2 ⟨(k,v),(getF_mem h).1 hg,rfl⟩
structure Wr where
 key:List UInt8
 val:List UInt8
 dead:Bool
def kOk(k:List UInt8):Bool:=decide (1<=k.length)&&decide (k.length<=32)
def wOk(x:Wr):Bool:=kOk x.key&&decide (x.val.length<=256)&& !(x.dead&& !x.val.isEmpty)
def rightW(l:List Wr):Bool:=l.all wOk&&decide ((l.map (·.key)).Nodup)&&decide (1<=l.length)&&decide (l.length<=16)
end Go.Proofs.YtdplfgcoaddbdaaGreat
