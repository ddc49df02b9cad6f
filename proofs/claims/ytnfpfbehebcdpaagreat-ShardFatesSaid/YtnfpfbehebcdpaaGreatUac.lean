import Derived.WalkSpells
import Derived.Test.YtnfpfbehebcdpaaGreatUzy
import Derived.WalkLawsBesides
import Derived.BigQuiet
import Derived.Deep.QuietTactic
import Derived.Lib.QuietBelow
import Derived.Lib.Strings
import Derived.Maps.AppendAt
import Derived.OwnWalk
import Derived.Deep.RegionHeld3
import Derived.Deep.DeepCutAuto
import Derived.Deep.CutBlock
import Derived.Test.YtnfpfbehebcdpaaGreatUzAa
set_option maxHeartbeats 0
set_option maxRecDepth 99999
set_option linter.all false
namespace Go.Proofs.YtnfpfbehebcdpaaGreat
open Go.RowKit
def Fe{W w1:World}(hb:Bw W w1):(∀b o,b<W.heap.size->w1.cell? ⟨b,o,none⟩=W.cell? ⟨b,o,none⟩)/\(∀b o,b<W.heap.size->w1.frozen? ⟨b,o,none⟩=W.frozen? ⟨b,o,none⟩):=
 ⟨λb o h=>hb.cell (p:=⟨b,o,none⟩) h,λb o h=>hb.frozen (p:=⟨b,o,none⟩) h⟩
def below_drewN{B:Nat}{a w:World}(h:Below B a w)(n:Nat):Below B a (w.drewN n):=⟨h.os,h.tape,h.output,h.size,h.block⟩
def Gq(s:ByteArray):s.toList=s.data.toList:=ByteArray.toList_eq s
def I9(a:Bi):(bs a).toList=a:=by rw[ByteArray.toList_eq,D6]
def Ol(a b:Bi):((bs a).toList==(bs b).toList)=(a==b):=by rw[I9,I9]
structure Kept(F:Nat->Prop)(w w':World):Prop where
 os:w'.os=w.os
 tape:w'.tape=w.tape
 output:w'.output=w.output
 size:w.heap.size<=w'.heap.size
 block:∀k,k<w.heap.size->¬F k->w'.heap[k]?=w.heap[k]?
def Kept.refl(F:Nat->Prop)(w:World):Kept F w w:=⟨rfl,rfl,rfl,ai _,λ_ _ _=>rfl⟩
def Kept.of_below{F:Nat->Prop}{w w':World}(h:Bw w w'):Kept F w w':=⟨h.os,h.tape,h.output,h.size,λk hk _=>h.block k hk⟩
def Kept.below{F:Nat->Prop}{B:Nat}{w w':World}(h:Kept F w w')(hB:B<=w.heap.size)(hF:∀k,F k->B<=k):Below B w w':=
 ⟨h.os,h.tape,h.output,h.size,λk hk=>h.block k (iy hk hB) (λhf=>absurd (hF k hf) (by omega))⟩
def Kept.trans{F G:Nat->Prop}{a b c:World}(h:Kept F a b)(k:Kept G b c)(hG:∀i,G i->F i\/a.heap.size<=i):Kept F a c:=
 ⟨k.os.trans h.os,k.tape.trans h.tape,k.output.trans h.output,ak h.size k.size,λi hi hF=>(k.block i (iy hi h.size) (λhg=>by rcases hG i hg with h1|h1;exact hF h1;omega)).trans (h.block i hi hF)⟩
def Kept.cell{F:Nat->Prop}{w w':World}(h:Kept F w w'){b o:Nat}{v:Value}(hc:w.cell? ⟨b,o,none⟩=some v)(hb:¬F b):w'.cell? ⟨b,o,none⟩=some v:=by have hl:b<w.heap.size:=ed _ _ hc;unfold World.cell? at hc|-;rw[h.block b hl hb];exact hc
def Kept.drew{F:Nat->Prop}{w w':World}(h:Kept F w w'):Kept F w w'.drew:=⟨h.os,h.tape,h.output,h.size,h.block⟩
def Kept.mono{F G:Nat->Prop}{w w':World}(h:Kept F w w')(hF:∀i,F i->G i):Kept G w w':=⟨h.os,h.tape,h.output,h.size,λk hk hn=>h.block k hk (λhf=>hn (hF k hf))⟩
def Kept.Xa{B:Nat}{w w':World}(h:Below B w w'):Kept (λi=>B<=i) w w':=⟨h.os,h.tape,h.output,h.size,λk _ hn=>h.block k (by omega)⟩
def RwAt(B size:Nat)(v:Value)(n:Nat)(cs:List Value)(w:World):Prop:=
 ∃ao cap,v=.slice ao n cap/\cs.length=n*size/\n<=cap/\cap<=9223372036854775807/\(0<cap->∃b off,ao=some ⟨b,off,none⟩/\(0<n->b<B)/\∀j u,cs[j]?=some u->w.cell? ⟨b,off+j,none⟩=some u)
def RwAt.kept{B size:Nat}{v:Value}{n:Nat}{cs:List Value}{w w':World}{F:Nat->Prop}(h:RwAt B size v n cs w)(hk:Kept F w w')(hF:∀k,F k->B<=k):RwAt B size v n cs w':=by
 obtain⟨ao,cap,rfl,hl,hm,hc,h⟩:=h;refine⟨ao,cap,rfl,hl,hm,hc,λh0=>?_⟩;obtain⟨b,off,rfl,hb,hcell⟩:=h h0;refine⟨b,off,rfl,hb,λj u hj=>?_⟩;have hjl:j<cs.length:=(gu.1 hj).1;have hn:0<n:=by
  exact bce
 exact hk.cell (hcell j u hj) (λhf=>by have:=hF b hf;have:=hb hn;omega)
def RwAt.on{B size:Nat}{v:Value}{n:Nat}{cs:List Value}{w w':World}(h:RwAt B size v n cs w)(hb:Below B w w'):RwAt B size v n cs w':=by
 obtain⟨ao,cap,rfl,hl,hm,hc,h⟩:=h;refine⟨ao,cap,rfl,hl,hm,hc,λh0=>?_⟩;obtain⟨b,off,rfl,hbl,hcell⟩:=h h0;refine⟨b,off,rfl,hbl,λj u hj=>?_⟩;have hjl:j<cs.length:=(gu.1 hj).1;have hn:0<n:=by
  exact bce
 rw[hb.cell (p:=⟨b,off+j,none⟩) (hbl hn)];exact hcell j u hj
def RwAt.le{B B' size:Nat}{v:Value}{n:Nat}{cs:List Value}{w:World}(h:RwAt B size v n cs w)(hB:B<=B'):RwAt B' size v n cs w:=by obtain⟨ao,cap,rfl,hl,hm,hc,h⟩:=h;refine⟨ao,cap,rfl,hl,hm,hc,λh0=>?_⟩;obtain⟨b,off,rfl,hb,hcell⟩:=h h0;exact⟨b,off,rfl,λh1=>iy (hb h1) hB,hcell⟩
def RwAt.nil(B size:Nat)(w:World):RwAt B size sy 0 [] w:=⟨none,0,rfl,by simp,ai _,by omega,λh=>absurd h (by omega)⟩
def RwAt.cellAt{B size:Nat}{ao:Option Addr}{cap n:Nat}{cs:List Value}{w:World}(h:RwAt B size (.slice ao n cap) n cs w){j:Nat}(hj:j<cs.length):∃b off,ao=some ⟨b,off,none⟩/\b<B/\∀j u,cs[j]?=some u->w.cell? ⟨b,off+j,none⟩=some u:=by
 obtain⟨ao',cap',e,hl,hm,hc,h⟩:=h;simp only[ku]at e;obtain⟨rfl,_,rfl⟩:=e;have hn:0<n:=by
  exact bce
 obtain⟨b,off,rfl,hb,hcell⟩:=h (by omega);exact⟨b,off,rfl,hb hn,hcell⟩
def RwAt.take{B size:Nat}{ao:Option Addr}{cap n:Nat}{cs:List Value}{w:World}(h:RwAt B size (.slice ao n cap) n cs w){k:Nat}(hk:k<=n):RwAt B size (.slice ao k cap) k (cs.take (k*size)) w:=by
 obtain⟨ao',cap',e,hl,hm,hc,h⟩:=h;simp only[ku]at e;obtain⟨rfl,_,rfl⟩:=e;have hks:k*size<=n*size:=Nat.mul_le_mul_right _ hk;refine⟨ao,cap,rfl,by rw[ig];omega,by omega,hc,λh0=>?_⟩;obtain⟨b,off,rfl,hb,hcell⟩:=h h0;refine⟨b,off,rfl,λh1=>hb (by omega),λj u hj=>hcell j u ?_⟩;rw[List.getElem?_take]at hj;split at hj
 .exact hj
 .cases hj
def Bl{base e size:Nat}{v:Value}{n:Nat}{cs:List Value}{w:World}(h:w.ownsRow base e size v n cs):RwAt w.heap.size size v n cs w:=by
 rcases h.2 with⟨rfl,h0⟩|⟨g,cap,cur,rfl,hb,hg,hnc,hcm,hcs,ht⟩
 .subst h0;have:cs=[]:=lm (by simpa using h.1);subst this;exact RwAt.nil _ _ _
 .refine⟨_,cap,rfl,h.1,hnc,by unfold maxLen at hcm;omega,λ_=>⟨g,0,rfl,λ_=>(gsz hg),λj u hj=>?_⟩⟩;have:=World.ownsRow.cells h (g:=g) rfl j u hj;rw[uo]at this;exact this
def Jy{base e size:Nat}{v:Value}{n:Nat}{cs:List Value}{w w':World}(h:w.ownsRow base e size v n cs)(hb:Bw w w'):w'.ownsRow base e size v n cs:=by
 refine⟨h.1,?_⟩;rcases h.2 with h0|⟨g,cap,cur,e,hg,hh,h1,h2,h3,h4⟩
 .exact .inl h0
 .exact .inr ⟨g,cap,cur,e,hg,by rw[hb.block g (gsz hh)];exact hh,h1,h2,h3,h4⟩
def Gt{base e size:Nat}{v:Value}{n:Nat}{cs:List Value}{w w':World}{F:Nat->Prop}(h:w.ownsRow base e size v n cs)(hk:Kept F w w')(hF:∀k,v.ownBlock=some k->¬F k):w'.ownsRow base e size v n cs:=by
 refine⟨h.1,?_⟩;rcases h.2 with h0|⟨g,cap,cur,rfl,hg,hh,h1,h2,h3,h4⟩
 .exact .inl h0
 .exact .inr ⟨g,cap,cur,rfl,hg,by rw[hk.block g (gsz hh) (hF g rfl)];exact hh,h1,h2,h3,h4⟩
def Lj{base base' e size:Nat}{v:Value}{n:Nat}{cs:List Value}{w:World}(h:w.ownsRow base e size v n cs)(hb:base'<=base):w.ownsRow base' e size v n cs:=by
 refine⟨h.1,?_⟩;rcases h.2 with h0|⟨g,cap,cur,e,hg,r⟩
 .exact .inl h0
 .exact .inr ⟨g,cap,cur,e,ak hb hg,r⟩
def Ny{w w':World}{row:Option Nat}(h:w.grownBy w' row):Kept (λk=>row=some k) w w':=⟨h.os,h.tape,h.output,h.size,λk hk hn=>h.block k hk (λe=>hn e.symm)⟩
structure Ow(base e size:Nat)(v:Value)(n:Nat)(xs:List Value)(B:Nat)(vx:Value)(m:Nat)(cs:List Value)(w:World):Prop where
 own:w.ownsRow base e size v n xs
 new:RwAt B size vx m cs w
 one:∀u∈cs,u.oneCell'=true
 size:base<=w.heap.size
 len:n+m<=1048576
def Tn{P:Program}{base t ty e size bytes B n m:Nat}{v vx:Value}{xs cs:List Value}{i:TypeInfo}{z:Value}{w:World}(ht:P.underlying t=some (.slice e))(hi:P.info? e=some i)(hz:i.zero=some z)
  (hsize:i.size=size) (hby:i.bytes=bytes) (hzs:z.cells.size=size) (hsz:0<size) (hb:bytes<=1000) (H:Ow base e size v n xs B vx m cs w):
  ∃v' w',(Builtin.append_ #[t,t] ty #[v,vx]).run P w=.ok v' w'/\w'.ownsRow base e size v' (n+m) (xs++cs)/\w.grownBy w' v.ownBlock/\(v'.ownBlock=v.ownBlock\/v'.ownBlock=some w.heap.size):=by
 obtain⟨ax,cx,rfl,hl,hm,hc,hx⟩:=H.new;have hlen:=H.len;have hbb:(n+m)*bytes<=140737488355328:=by have:(n+m)*bytes<=1048576*1000:=Nat.mul_le_mul hlen hb;omega
 have hm0:ax=none->m=0:=λh=>by
  subst h;rcases oq m with h1|h1
  .exact h1
  .obtain⟨b,o,e,_⟩:=hx (by omega);cases e
 cases ax with
 |none=>
  have h0:=hm0 rfl;subst h0;have hcs:cs=[]:=lm (by simpa using hl);subst hcs;refine⟨v,w,?_,by simpa using H.own,⟨rfl,rfl,rfl,ai _,λ_ _ _=>rfl⟩,.inl rfl⟩;rcases H.own.2 with⟨rfl,_⟩|⟨g,cap,cur,rfl,_,_,hnc,_⟩
  .simp[Builtin.append_,jw ht,sizeOf,typeInfo,hi,Builtin.lenOf,Builtin.firstCells]
  .simp[Builtin.append_,jw ht,sizeOf,typeInfo,hi,Builtin.lenOf,Builtin.firstCells,hnc,storeCells]
 |some ad=>
  have hnews:∀j u,cs[j]?=some u->w.cell? (ad.add j)=some u:=by
   intro j u hj;have hjl:j<cs.length:=(gu.1 hj).1;have hn:0<m:=by
    rcases oq m with h1|h1
    .subst h1;omega
    .exact h1
   obtain⟨b,off,e,_,hcell⟩:=hx (by omega);injection e with e;subst e;rw[uo];exact hcell j u hj
  obtain⟨v',w',h1,h2,h3,_,h5⟩:=run_append_own_at (P:=P) w base t ty e i z size bytes ht hi hz hsize hby hzs hsz v n xs H.own ad m cx cs hl hnews H.one (by unfold maxLen;omega) hbb H.size;exact⟨v',w',h1,h2,h3,h5⟩
def Ea{P:Program}{base t e size bytes B n m:Nat}{v vx:Value}{xs cs:List Value}{i:TypeInfo}{z:Value}{ops:Array Oper}{rest:List Oper}{o:Oper}{a:Act}{Q:Exit->Act->World->Prop}{w:World}(H:Ow base e size v n xs B vx m cs w)
  (ht:P.underlying t=some (.slice e)) (hi:P.info? e=some i) (hz:i.zero=some z) (hsize:i.size=size) (hby:i.bytes=bytes) (hzs:z.cells.size=size) (hsz:0<size) (hb:bytes<=1000)
  (s x:Operand) (ho:o.op=.call {callee:=.builtin .append,args:=#[s,x],argTypes:=#[t,t]}) (hw:Region.wanted o (yielded ops a.tmps)=true) (hs:a.eval s=v) (hx:a.eval x=vx)
  (h:∀v' w',w'.ownsRow base e size v' (n+m) (xs++cs)->w.grownBy w' v.ownBlock->(v'.ownBlock=v.ownBlock\/v'.ownBlock=some w.heap.size)->wpList P ops Q rest (a.put o.dst v') w'):wpList P ops Q (o::rest) a w:=
 wpList_step λK hK=>by rw[ah hw];obtain⟨v',w',hr,h2,h3,h4⟩:=Tn (ty:=o.type) ht hi hz hsize hby hzs hsz hb H;unfold Oper.wp execOp;simp only[ho,resolve,invoke,builtin,Sem.run_bind,Sem.run_pure,Result.andThen_ok,List.map_toArray,jd,List.map_nil,hs,hx,hr];exact hK _ _ (h v' w' h2 h3 h4)
section
variable {α:Type}(vc:α->List Value)
def rowC(L:List α):List Value:=L.flatMap vc
def ae4(x:α):rowC vc [x]=vc x:=by simp[rowC]
def Oq(x:α)(L:List α):rowC vc (x::L)=vc x++rowC vc L:=by simp[rowC]
def Ku(L R:List α):rowC vc (L++R)=rowC vc L++rowC vc R:=by simp[rowC]
def O7(h:∀a,∀u∈vc a,u.oneCell'=true)(L:List α):∀u∈rowC vc L,u.oneCell'=true:=λu hu=>by obtain⟨a,_,ha⟩:=List.mem_flatMap.1 hu;exact h a u ha
variable {vc}{sz:Nat}
def Kt(hsz:∀a,(vc a).length=sz)(L:List α):(rowC vc L).length=L.length*sz:=by
 induction L with
 |nil=>simp[rowC]
 |cons a L ih=>rw[Oq,af,ih,hsz,bg,Nat.succ_mul];omega
def Zn(hsz:∀a,(vc a).length=sz)(d:α):∀(L:List α) (i j:Nat),i<L.length->j<sz->(rowC vc L)[i*sz+j]?=(vc (L.getD i d))[j]?
 |[],_,_,h,_=>absurd h (by simp)
 |a::r,0,j,_,hj=>by rw[Oq,Nat.zero_mul,ni,List.getElem?_append_left (by rw[hsz];exact hj)];rfl
 |a::r,i+1,j,h,hj=>by rw[Oq,List.getElem?_append_right (by rw[hsz,Nat.succ_mul];omega),hsz,show(i+1)*sz+j-sz=i*sz+j from by rw[Nat.succ_mul];omega,Zn hsz d r i j (by simpa using h) hj];rfl
def Wl(hsz:∀a,(vc a).length=sz):∀(L:List α) (k:Nat),(rowC vc L).take (k*sz)=rowC vc (L.take k)
 |[],k=>by simp[rowC]
 |a::r,0=>by simp[rowC]
 |a::r,k+1=>by rw[Oq,ou,Oq,List.take_append,hsz,ay (by rw[hsz,Nat.succ_mul];omega),show(k+1)*sz-sz=k*sz from by rw[Nat.succ_mul];omega,Wl hsz r k]
def O6(hsz:∀a,(vc a).length=sz)(d:α)(h0:0<sz){B:Nat}{ao:Option Addr}{cap n:Nat}{L:List α}{w:World}(hn:n=L.length)(h:RwAt B sz (.slice ao n cap) n (rowC vc L) w){i:Nat}(hi:i<n):∃b off,ao=some ⟨b,off,none⟩/\∀j u,j<sz->(vc (L.getD i d))[j]?=some u->ce w b (off+i*sz+j) u:=by
 subst hn;have hlt:i*sz<(rowC vc L).length:=by rw[Kt hsz];exact Nat.mul_lt_mul_of_pos_right hi h0
 obtain⟨b,off,e,_,hc⟩:=RwAt.cellAt h (j:=i*sz) hlt;refine⟨b,off,e,λj u hj hu=>?_⟩;rw[Nat.add_assoc];exact hc _ _ (by rw[Zn hsz d L i j hi hj];exact hu)
end
def row_one{α:Type}(vc:α->List Value)(sz:Nat)(hsz:∀a,(vc a).length=sz)(x:α)(ty:TypeId)(w:World)(hc:∀j u,(vc x)[j]?=some u->(w.alloc (.cells (vc x).toArray ty)).cell? ⟨w.heap.size,j,none⟩=some u):RwAt (w.heap.size+1) sz (.slice (some ⟨w.heap.size,0,none⟩) 1 1) 1 (rowC vc [x]) (w.alloc (.cells (vc x).toArray ty)):=by rw[ae4];refine⟨_,1,rfl,by rw[hsz,Nat.one_mul],ai _,by omega,λ_=>⟨w.heap.size,0,rfl,λ_=>kw _,λj u hj=>?_⟩⟩;rw[ni];exact hc j u hj
def ltK(a b:Bi):Bool:=Op.bytesLess a b
def Ey:∀a:Bi,ltK a a=false
 |[]=>rfl
 |a::r=>by have:=Ey r;unfold ltK at this|-;simp[Op.bytesLess,this]
def Ew:∀{a b c:Bi},ltK a b=true->ltK b c=true->ltK a c=true
 |_,[],_,h,_=>by simp[ltK,Op.bytesLess]at h
 |_,_::_,[],_,h=>by simp[ltK,Op.bytesLess]at h
 |[],_::_,_::_,_,_=>by simp[ltK,Op.bytesLess]
 |a::r,b::s,c::t,h1,h2=>by
  have ih:=@Ew r s t;unfold ltK at*;simp only[Op.bytesLess,Bool.or_eq_true,cu,jc,uq]at*;rcases h1 with h1|⟨rfl,h1⟩
  .rcases h2 with h2|⟨rfl,_⟩
   .exact .inl (UInt8.lt_trans h1 h2)
   .exact .inl h1
  .rcases h2 with h2|⟨rfl,h2⟩
   .exact .inl h2
   .exact .inr ⟨rfl,ih h1 h2⟩
def Gu:∀{a b:Bi},ltK a b=false->ltK b a=false->a=b
 |[],[],_,_=>rfl
 |[],_::_,h,_=>by simp[ltK,Op.bytesLess]at h
 |_::_,[],_,h=>by simp[ltK,Op.bytesLess]at h
 |a::r,b::s,h1,h2=>by
  have ih:=@Gu r s;unfold ltK at*;simp only[Op.bytesLess,Bool.or_eq_false_iff,Bool.and_eq_false_iff,uh,jb]at h1 h2;have hab:a=b:=by have h3:=h1.1;have h4:=h2.1;rw[UInt8.not_lt]at h3 h4;exact UInt8.le_antisymm h4 h3
  subst hab;have e1:=h1.2.resolve_left (by simp);have e2:=h2.2.resolve_left (by simp);rw[ih e1 e2]
def Ot{a b:Bi}(h:ltK a b=true):ltK b a=false:=by
 cases h2:ltK b a
 .rfl
 .have:=Ew h h2;rw[Ey]at this;cases this
def Iy{a b:Bi}(h:ltK a b=true):a≠b:=λe=>by subst e;rw[Ey]at h;cases h
def ajy{a b c:Bi}(h1:ltK a b=true)(h2:ltK c b=false):ltK a c=true:=by
 cases h:ltK b c
 .have:=Gu h h2;subst this;exact h1
 .exact Ew h1 h
abbrev Kv(α:Type):=List (Bi×α)
variable {α:Type}
def Srt(L:Kv α):Prop:=L.Pairwise (λa b=>ltK a.1 b.1=true)
def getF(k:Bi):Kv α->Option α
 |[]=>none
 |(a,v)::r=>if a==k then some v else getF k r
def setF(k:Bi)(v:α):Kv α->Kv α
 |[]=>[(k,v)]
 |(a,u)::r=>if ltK a k then(a,u)::setF k v r else if a==k then(k,v)::r else(k,v)::(a,u)::r
def cutF(k:Bi):Kv α->Kv α
 |[]=>[]
 |(a,u)::r=>if a==k then r else(a,u)::cutF k r
def inR(lo hi:Bi)(k:Bi):Bool:= !ltK k lo&&(hi.isEmpty||ltK k hi)
def Aw(lo hi:Bi)(L:Kv α):List Bi:=(L.map (·.1)).filter (inR lo hi)
def Ho(lo hi:Bi)(limit:Int)(L:Kv α):List Bi:=(Aw lo hi L).take limit.toNat
def F5{k:Bi}{v:α}:∀{L:Kv α} {x:Bi×α},x∈setF k v L->x=(k,v)\/x∈L
 |[],x,h=>by simp only[setF,jy]at h;exact .inl h
 |(a,u)::r,x,h=>by
  unfold setF at h;by_cases h1:ltK a k=true
  .rw[ah h1]at h;rcases au.1 h with h|h
   .exact .inr (by simp[h])
   .rcases F5 h with h|h
    .exact .inl h
    .exact .inr (by simp[h])
  .rw[ag h1]at h;by_cases h2:(a==k)=true
   .rw[ah h2]at h;rcases au.1 h with h|h
    .exact .inl h
    .exact .inr (by simp[h])
   .rw[ag h2]at h;rcases au.1 h with h|h
    .exact .inl h
    .exact .inr h
def Es{k:Bi}{v:α}:∀{L:Kv α},Srt L->Srt (setF k v L)
 |[],_=>by simp[setF,Srt]
 |(a,u)::r,h=>by
  obtain⟨h1,h2⟩:=dh.1 h;unfold setF;by_cases h3:ltK a k=true
  .rw[ah h3];refine dh.2 ⟨λx hx=>?_,Es h2⟩;rcases F5 hx with rfl|hx
   .exact h3
   .exact h1 x hx
  .rw[ag h3];by_cases h4:(a==k)=true
   .rw[ah h4];have:a=k:=by simpa using h4
    subst this;exact dh.2 ⟨h1,h2⟩
   .rw[ag h4];have hka:ltK k a=true:=by
     exact bck
    refine dh.2 ⟨λx hx=>?_,h⟩;rcases au.1 hx with rfl|hx
    .exact hka
    .exact Ew hka (h1 x hx)
def Rj{k:Bi}:∀{L:Kv α} {x:Bi×α},x∈cutF k L->x∈L
 |[],x,h=>by simp[cutF]at h
 |(a,u)::r,x,h=>by
  unfold cutF at h;split at h
  .exact gy _ h
  .rcases au.1 h with h|h
   .simp[h]
   .exact gy _ (Rj h)
def Jn{k:Bi}:∀{L:Kv α},Srt L->Srt (cutF k L)
 |[],_=>by simp[cutF,Srt]
 |(a,u)::r,h=>by
  obtain⟨h1,h2⟩:=dh.1 h;unfold cutF;split
  .exact h2
  .exact dh.2 ⟨λx hx=>h1 x (Rj hx),Jn h2⟩
def Gp{k:Bi}:∀{L:Kv α},(∀x∈L,x.1≠k)->getF k L=none
 |[],_=>rfl
 |(a,u)::r,h=>by unfold getF;rw[ag (by simpa using h (a,u) (by simp))];exact Gp λx hx=>h x (by simp[hx])
def Dy{k:Bi}{v:α}:∀{L:Kv α},Srt L->(getF k L=some v↔(k,v)∈L)
 |[],_=>by simp[getF]
 |(a,u)::r,h=>by
  obtain⟨h1,h2⟩:=dh.1 h;unfold getF;by_cases h3:(a==k)=true
  .rw[ah h3];have e:a=k:=by simpa using h3
   subst e;constructor
   .intro e;injection e with e;subst e;simp
   .intro hm;rcases au.1 hm with e|hm
    .injection e with _ e;rw[e]
    .have h5:=h1 _ hm;dsimp only at h5;rw[Ey]at h5;cases h5
  .rw[ag h3,Dy h2];have e:a≠k:=by simpa using h3
   constructor
   .intro hm;simp[hm]
   .intro hm;rcases au.1 hm with e2|hm
    .injection e2 with e2 _;exact absurd e2.symm e
    .exact hm
def Ls:∀{A B:Kv α},Srt A->Srt B->(∀k,getF k A=getF k B)->A=B
 |[],[],_,_,_=>rfl
 |[],(b,v)::s,_,_,h=>by have:=h b;simp[getF]at this
 |(a,u)::r,[],_,_,h=>by have:=h a;simp[getF]at this
 |(a,u)::r,(b,v)::s,ha,hb,h=>by
  obtain⟨ha1,ha2⟩:=dh.1 ha;obtain⟨hb1,hb2⟩:=dh.1 hb;have ma:(a,u)∈(b,v)::s:=(Dy hb).1 ((h a).symm.trans ((Dy ha).2 (by simp)));have mb:(b,v)∈(a,u)::r:=(Dy ha).1 ((h b).trans ((Dy hb).2 (by simp)));have e:(a,u)=(b,v):=by
   rcases au.1 ma with e|ma
   .exact e
   .rcases au.1 mb with e|mb
    .exact e.symm
    .have h1:=hb1 _ ma;have h2:=ha1 _ mb;rw[Ot h1]at h2;cases h2
  injection e with e1 e2;subst e1 e2;congr 1;refine Ls ha2 hb2 λk=>?_;by_cases hk:k=a
  .subst hk;rw[Gp λx hx=>(Iy (ha1 x hx)).symm,Gp λx hx=>(Iy (hb1 x hx)).symm]
  .have:=h k;unfold getF at this;rw[ag (by simpa usingλe=>hk e.symm),ag (by simpa usingλe=>hk e.symm)]at this;exact this
def Qc{k q:Bi}{v:α}:∀{L:Kv α},Srt L->getF q (setF k v L)=if k==q then some v else getF q L
 |[],_=>by simp[setF,getF]
 |(a,u)::r,h=>by
  obtain⟨h1,h2⟩:=dh.1 h;unfold setF;by_cases h3:ltK a k=true
  .rw[ah h3];show(if a==q then some u else getF q (setF k v r))=_;rw[Qc h2];by_cases h4:(a==q)=true
   .have e:a=q:=by simpa using h4
    subst e;have hk:(k==a)=false:=by rw[jb];exact(Iy h3).symm
    simp[hk,getF]
   .simp[getF,h4]
  .rw[ag h3];by_cases h4:(a==k)=true
   .rw[ah h4];have e:a=k:=by simpa using h4
    subst e;by_cases h5:(a==q)=true
    .simp[getF,h5]
    .simp[getF,h5]
   .rw[ag h4];show(if k==q then some v else getF q ((a,u)::r))=_;rfl
def Vm{k q:Bi}:∀{L:Kv α},Srt L->getF q (cutF k L)=if k==q then none else getF q L
 |[],_=>by simp[cutF,getF]
 |(a,u)::r,h=>by
  obtain⟨h1,h2⟩:=dh.1 h;unfold cutF;by_cases h3:(a==k)=true
  .rw[ah h3];have e:a=k:=by simpa using h3
   subst e;by_cases h4:(a==q)=true
   .have e:a=q:=by simpa using h4
    subst e;simp[Gp λx hx=>(Iy (h1 x hx)).symm]
   .simp[getF,h4]
  .rw[ag h3];show(if a==q then some u else getF q (cutF k r))=_;rw[Vm h2];by_cases h4:(a==q)=true
   .have e:a=q:=by simpa using h4
    subst e;have hk:(k==a)=false:=by rw[jb];exactλe=>h3 (by simp[e])
    simp[getF,hk]
   .simp[getF,h4]
def J7{k:Bi}{v:α}:∀{L:Kv α},Srt L->(setF k v L).length=if(getF k L).isSome then L.length else L.length+1
 |[],_=>by simp[setF,getF]
 |(a,u)::r,h=>by
  obtain⟨h1,h2⟩:=dh.1 h;unfold setF;by_cases h3:ltK a k=true
  .rw[ah h3];have hk:(a==k)=false:=by rw[jb];exact Iy h3
   simp only[bg,J7 h2,getF,hk,o7,if_false];split<;>rfl
  .rw[ag h3];by_cases h4:(a==k)=true
   .rw[ah h4];simp[getF,h4]
   .rw[ag h4];have hka:ltK k a=true:=by
     exact bck
    have:getF k r=none:=Gp λx hx=>(Iy (Ew hka (h1 x hx))).symm;simp[getF,h4,this]
def L6{k:Bi}:∀{L:Kv α},Srt L->(cutF k L).length=if(getF k L).isSome then L.length-1 else L.length
 |[],_=>by simp[cutF,getF]
 |(a,u)::r,h=>by
  obtain⟨_,h2⟩:=dh.1 h;unfold cutF;by_cases h3:(a==k)=true
  .rw[ah h3];simp[getF,h3]
  .rw[ag h3];simp only[bg,L6 h2,getF,h3];split
   .rename_i hs;rw[ah (by simpa using hs)];cases hr:r with
    |nil=>rw[hr]at hs;simp[getF]at hs
    |cons x s=>simp
   .rename_i hs;rw[ag (by simpa using hs)]
def Dp{A B:Kv α}{a:Bi}{u:α}(h:Srt (A++(a,u)::B)):Srt A/\Srt B/\(∀x∈A,ltK x.1 a=true)/\(∀x∈B,ltK a x.1=true):=by obtain⟨h1,h2,h3⟩:=List.pairwise_append.1 h;obtain⟨h4,h5⟩:=dh.1 h2;exact⟨h1,h5,λx hx=>h3 x hx (a,u) (by simp),h4⟩
def Kq{A B:Kv α}{a:Bi}{u:α}(h1:Srt A)(h2:Srt B)(h3:∀x∈A,ltK x.1 a=true)(h4:∀x∈B,ltK a x.1=true):Srt (A++(a,u)::B):=by
 refine List.pairwise_append.2 ⟨h1,dh.2 ⟨h4,h2⟩,λx hx y hy=>?_⟩;rcases au.1 hy with rfl|hy
 .exact h3 x hx
 .exact Ew (h3 x hx) (h4 y hy)
def Rf(k:Bi):∀(A B:Kv α),getF k (A++B)=match getF k A with
  |some v=>some v
  |none=>getF k B
 |[],B=>rfl
 |(a,u)::r,B=>by
  have ih:=Rf k r B;show(if a==k then some u else getF k (r++B))=match (if a==k then some u else getF k r)with
   |some v=>some v
   |none=>getF k B
  by_cases h:(a==k)=true
  .rw[ah h,ah h]
  .rw[ag h,ag h];exact ih
def Ez{A B:Kv α}{a k:Bi}{u:α}(h:Srt (A++(a,u)::B)):getF k (A++(a,u)::B)=if ltK k a then getF k A else if ltK a k then getF k B else some u:=by
 obtain⟨_,_,h3,h4⟩:=Dp h;rw[Rf];cases h5:ltK k a
 .have hA:getF k A=none:=Gp λx hx e=>by have:=h3 x hx;rw[e,h5]at this;cases this
  rw[hA];simp only[o7,if_false];cases h6:ltK a k
  .have:=Gu h5 h6;subst this;simp[getF]
  .have:(a==k)=false:=by rw[jb];exact Iy h6
   simp[getF,this]
 .have hB:getF k ((a,u)::B)=none:=Gp λx hx e=>by
   rcases au.1 hx with rfl|hx
   .exact Iy h5 e.symm
   .exact Iy (Ew h5 (h4 x hx)) e.symm
  rw[hB];simp only[if_true];cases getF k A<;>rfl
def Ju{A B:Kv α}{a k:Bi}{u v:α}(h:Srt (A++(a,u)::B)):setF k v (A++(a,u)::B)=if ltK k a then setF k v A++(a,u)::B else if ltK a k then A++(a,u)::setF k v B else A++(k,v)::B:=by
 obtain⟨h1,h2,h3,h4⟩:=Dp h;have hl:∀(k:Bi),ltK k a=true->Srt (setF k v A++(a,u)::B):=λk hk=>Kq (Es h1) h2 (λx hx=>by
  rcases F5 hx with rfl|hx
  .exact hk
  .exact h3 x hx) h4
 refine Ls (Es h) ?_ λq=>?_
 .split
  .rename_i h5;exact hl k h5
  .split
   .rename_i h6;exact Kq h1 (Es h2) h3 λx hx=>by
     rcases F5 hx with rfl|hx
     .exact h6
     .exact h4 x hx
   .rename_i h5 h6;have:=Gu (by simpa using h5) (by simpa using h6);subst this;exact Kq h1 h2 h3 h4
 .rw[Qc h,Ez h];by_cases h5:ltK k a=true
  .rw[ah h5,Ez (hl k h5),Qc h1];exact bcl
  .rw[ag h5];by_cases h6:ltK a k=true
   .rw[ah h6,Ez (Kq h1 (Es h2) h3 λx hx=>by
     rcases F5 hx with rfl|hx
     .exact h6
     .exact h4 x hx),Qc h2]
    exact bcg
   .rw[ag h6];have e:=Gu (by simpa using h5) (by simpa using h6);subst e;rw[Ez (Kq h1 h2 h3 h4)];by_cases hq:(k==q)=true
    .have e:k=q:=by simpa using hq
     subst e;simp[Ey]
    .have hne:k≠q:=by simpa using hq
     cases h7:ltK q k
     .cases h8:ltK k q
      .exact absurd (Gu h8 h7) hne
      .simp[hq]
     .simp[hq]
def J3{A B:Kv α}{a k:Bi}{u:α}(h:Srt (A++(a,u)::B)):cutF k (A++(a,u)::B)=if ltK k a then cutF k A++(a,u)::B else if ltK a k then A++(a,u)::cutF k B else A++B:=by
 obtain⟨h1,h2,h3,h4⟩:=Dp h;have hAB:Srt (A++B):=List.pairwise_append.2 ⟨h1,h2,λx hx y hy=>Ew (h3 x hx) (h4 y hy)⟩;have hl:Srt (cutF k A++(a,u)::B):=Kq (Jn h1) h2 (λx hx=>h3 x (Rj hx)) h4;have hr:Srt (A++(a,u)::cutF k B):=Kq h1 (Jn h2) h3 (λx hx=>h4 x (Rj hx));refine Ls (Jn h) ?_ λq=>?_
 .split
  .exact hl
  .split
   .exact hr
   .exact hAB
 .rw[Vm h,Ez h];by_cases h5:ltK k a=true
  .rw[ah h5,Ez hl,Vm h1];exact bcl
  .rw[ag h5];by_cases h6:ltK a k=true
   .rw[ah h6,Ez hr,Vm h2];exact bcg
   .rw[ag h6];have e:=Gu (by simpa using h5) (by simpa using h6);subst e;rw[Rf];by_cases hq:(k==q)=true
    .have e:k=q:=by simpa using hq
     subst e;rw[Gp λx hx=>Iy (h3 x hx),Gp λx hx=>(Iy (h4 x hx)).symm];simp
    .have hne:k≠q:=by simpa using hq
     rw[ag hq];cases h7:ltK q k
     .cases h8:ltK k q
      .exact absurd (Gu h8 h7) hne
      .rw[Gp (k:=q) (L:=A) λx hx e=>by have:=Ew (h3 x hx) h8;rw[e,Ey]at this;cases this]
       simp
     .rw[Gp (k:=q) (L:=B) λx hx e=>by have:=Ew h7 (h4 x hx);rw[e,Ey]at this;cases this]
      simp;cases getF q A<;>rfl
def Lu(lo hi:Bi)(A B:Kv α):Aw lo hi (A++B)=Aw lo hi A++Aw lo hi B:=by simp[Aw]
def Zw(lo hi:Bi)(a:Bi)(u:α)(B:Kv α):Aw lo hi ((a,u)::B)=if inR lo hi a then a::Aw lo hi B else Aw lo hi B:=by simp only[Aw,jd,yf]
def O9{lo hi:Bi}{L:Kv α}(h:∀x∈L,inR lo hi x.1=false):Aw lo hi L=[]:=by unfold Aw;rw[xx];intro k hk;obtain⟨x,hx,rfl⟩:=je.1 hk;simp[h x hx]
def abq(L:Kv α):Aw [] [] L=L.map (·.1):=by
 unfold Aw;rw[o5];intro k _;have:ltK k []=false:=by cases k<;>rfl
 simp[inR,this]
def ap7{L:Kv α}(h:Srt L)(k:Bi):k∈L.map (·.1)↔(getF k L).isSome=true:=by
 constructor
 .intro hk;obtain⟨x,hx,rfl⟩:=je.1 hk;rw[(Dy (v:=x.2) h).2 hx];rfl
 .intro hk;cases hg:getF k L with
  |none=>rw[hg]at hk;cases hk
  |some v=>exact je.2 ⟨(k,v),(Dy h).1 hg,rfl⟩
structure Wr where
 key:Bi
 val:Bi
 dead:Bool
def kOk(k:Bi):Bool:=decide (1<=k.length)&&decide (k.length<=32)
def wOk(x:Wr):Bool:=kOk x.key&&decide (x.val.length<=256)&& !(x.dead&& !x.val.isEmpty)
def Bf(l:List Wr):Bool:=l.all wOk&&decide ((l.map (·.key)).Nodup)&&decide (1<=l.length)&&decide (l.length<=16)
