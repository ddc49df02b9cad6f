import Derived.Laws.BitsAllLaws
import Derived.Test.YtnfpfbehebcdpaaGreatUzy
import Derived.WalkSpells
import Derived.WalkLawsBesides
import Derived.Deep.RegionLaw
import Derived.Laws.BytesArg
import Derived.BigQuiet
import Derived.Deep.QuietTactic
import Derived.Shelf.Abstract
import Derived.Test.YtnfpfbehebcdpaaGreatUzAa
set_option maxHeartbeats 0
set_option maxRecDepth 99999
set_option linter.all false
namespace Go.Proofs.YtnfpfbehebcdpaaGreat.Lgs
def Uu(x:Nat):Nat:=if x%2=1 then x/2 ^^^ 2197175160 else x/2
def turns:Nat->Nat->Nat
 |0,x=>x
 |k+1,x=>turns k (Uu x)
def aiu(x:Nat)(c:UInt8):Nat:=turns 8 (x ^^^ c.toNat)
def crcF(x:Nat)(l:Bi):Nat:=l.foldl aiu x
def crc(l:Bi):Nat:=crcF 4294967295 l ^^^ 4294967295
def anm{x:Nat}(h:x<4294967296):Uu x<4294967296:=by
 unfold Uu;split
 .exact Nat.xor_lt_two_pow (n:=32) (by omega) (by omega)
 .omega
def aet(k:Nat):∀{x:Nat},x<4294967296->turns k x<4294967296:=by
 induction k with
 |zero=>intro x h;exact h
 |succ k ih=>intro x h;exact ih (anm h)
def agq(k:Nat):∀x,turns (k+1) x=Uu (turns k x):=by
 induction k with
 |zero=>intro x;rfl
 |succ k ih=>intro x;rw[turns,ih,turns]
def aik{x:Nat}(c:UInt8)(h:x<4294967296):x ^^^ c.toNat<4294967296:=Nat.xor_lt_two_pow (n:=32) (by omega) (by have:=c.toNat_lt;omega)
def anl{x:Nat}(c:UInt8)(h:x<4294967296):aiu x c<4294967296:=aet 8 (aik c h)
def aed(l:Bi):∀{x:Nat},x<4294967296->crcF x l<4294967296:=by
 induction l with
 |nil=>intro x h;exact h
 |cons c r ih=>intro x h;exact ih (anl c h)
def azj(l:Bi):crc l<4294967296:=Nat.xor_lt_two_pow (n:=32) (by have:=aed l (x:=4294967295) (by omega);omega) (by omega)
def amo(x:Nat)(l:Bi)(c:UInt8):crcF x (l++[c])=aiu (crcF x l) c:=by simp[crcF]
end Go.Proofs.YtnfpfbehebcdpaaGreat.Lgs
namespace Go.Proofs.YtnfpfbehebcdpaaGreat.Drm
structure Pt where
 there:Bool
 l:Bi
 sure:Nat
structure Dr where
 p:Nat->Pt
 room:Int
 fuel:Int
 down:Bool
def Pt.none:Pt:=⟨false,[],0⟩
def Pt.settle(q:Pt)(n:Nat):Pt:=⟨q.there,q.l.take n,min n q.l.length⟩
def Dr.set(D:Dr)(a:Nat)(q:Pt):Dr:={D with p:=λi=>if i=a then q else D.p i}
def Dr.used(D:Dr):Nat:=(D.p 0).l.length+(D.p 1).l.length+(D.p 2).l.length+(D.p 3).l.length
def Dr.burn(D:Dr):Dr:={D with fuel:=if 0<D.fuel then D.fuel-1 else D.fuel}
def Dr.new(room:Int):Dr:=⟨λ_=>Pt.none,room,-1,false⟩
def Dr.step(D:Dr)(a:Int)(refuse:Pt->Int)(act:Pt->Pt):Int×Dr:=
 if D.down=true then(11,D)
 else if¬(0<=a/\a<4)then(1,D)
 else if refuse (D.p a.toNat)≠0 then(refuse (D.p a.toNat),D)
 else if D.fuel=0 then(11,{D with down:=true})
 else(0,D.burn.set a.toNat (act (D.p a.toNat)))
def missing(q:Pt):Int:=if q.there=true then 0 else 12
def Dr.lay(D:Dr)(a:Int):Int×Dr:=D.step a (λq=>if q.there=true then 1 else 0) (λq=>{q with there:=true})
def Dr.cut(D:Dr)(a:Int):Int×Dr:=D.step a missing (λ_=>Pt.none)
def Dr.trim(D:Dr)(a n:Int):Int×Dr:=D.step a (λq=>if q.there=true then(if n<0 then 1 else 0)else 12) (λq=>q.settle n.toNat)
def Dr.write(D:Dr)(a:Int)(s:Bi):Int×Dr:=D.step a (λq=>if q.there=true then(if D.room-D.used<s.length then 10 else 0)else 12) (λq=>{q with l:=q.l++s})
def Dr.sync(D:Dr)(a:Int):Int×Dr:=D.step a missing (λq=>q.settle q.l.length)
def Dr.left(D:Dr)(keep:List Int)(i:Nat):Nat:=
 (D.p i).sure+(min (max (keep.getD i 0) 0) (((D.p i).l.length:Int)-(D.p i).sure)).toNat
def Dr.fall(D:Dr)(keep:List Int):Dr:=⟨λi=>(D.p i).settle (D.left keep i),D.room,-1,false⟩
def Dr.Iz(D:Dr)(keep:List Int)(k:Nat):Dr:={D with p:=λi=>if i<k then(D.p i).settle (D.left keep i)else D.p i}
def Dr.read(D:Dr)(a:Int):Bi×Int:=
 if D.down=true then([],11)
 else if¬(0<=a/\a<4)then([],1)
 else if(D.p a.toNat).there=true then((D.p a.toNat).l,0)else([],12)
def Dr.has(D:Dr)(a:Int):Bool:=decide (0<=a)&&decide (a<4)&&(D.p a.toNat).there
structure Dr.Ok(D:Dr):Prop where
 room0:0<=D.room
 room1:D.room<=1048576
 fits:(D.used:Int)<=D.room
 sure:∀i,(D.p i).sure<=(D.p i).l.length
 gone:∀i,(D.p i).there=false->(D.p i).l=[]
 fuel0: -9223372036854775808<=D.fuel
 fuel1:D.fuel<=9223372036854775807
def Dr.Df(D:Dr)(a:Nat)(q:Pt):(D.set a q).p a=q:=by simp[Dr.set]
def Dr.Gn(D:Dr)(a i:Nat)(q:Pt)(h:i≠a):(D.set a q).p i=D.p i:=by simp[Dr.set,h]
def Dr.anh(D:Dr)(a:Nat)(q:Pt)(ha:a<4):(D.set a q).used+(D.p a).l.length=D.used+q.l.length:=by rcases(by omega:a=0\/a=1\/a=2\/a=3)with rfl|rfl|rfl|rfl<;>simp[Dr.used,Dr.set]<;>omega
def Dr.Q5(D:Dr)(a:Nat)(ha:a<4):(D.p a).l.length<=D.used:=by rcases(by omega:a=0\/a=1\/a=2\/a=3)with rfl|rfl|rfl|rfl<;>simp only[Dr.used]<;>omega
def Dr.Ok.new(room:Int)(h0:0<=room)(h1:room<=1048576):(Dr.new room).Ok:=
 ⟨h0,h1,by simp[Dr.new,Dr.used,Pt.none];exact h0,λ_=>by simp[Dr.new,Pt.none],λ_ _=>rfl,by simp[Dr.new],by simp[Dr.new]⟩
def Pt.Ub(q:Pt)(n:Nat):(q.settle n).l.length=min n q.l.length:=by simp[Pt.settle]
def Dr.Ok.burn{D:Dr}(h:D.Ok)(a:Nat)(ha:a<4)(q:Pt)(hs:q.sure<=q.l.length)(hg:q.there=false->q.l=[])(hf:((D.used+q.l.length:Nat):Int)<=D.room+(D.p a).l.length):(D.burn.set a q).Ok:=by
 have hu:=Dr.anh D.burn a q ha;have e1:D.burn.used=D.used:=rfl;have e2:D.burn.p=D.p:=rfl;rw[e1,e2]at hu;refine⟨h.room0,h.room1,?_,?_,?_,?_,?_⟩
 .show((D.burn.set a q).used:Int)<=D.room;omega
 .intro i;by_cases hi:i=a
  .subst hi;rw[Dr.Df];exact hs
  .rw[Dr.Gn _ _ _ _ hi];exact h.sure i
 .intro i;by_cases hi:i=a
  .subst hi;rw[Dr.Df];exact hg
  .rw[Dr.Gn _ _ _ _ hi];exact h.gone i
 .show-9223372036854775808<=(if 0<D.fuel then D.fuel-1 else D.fuel);have:=h.fuel0;split<;>omega
 .show(if 0<D.fuel then D.fuel-1 else D.fuel)<=9223372036854775807;have:=h.fuel1;split<;>omega
def Dr.Ok.down{D:Dr}(h:D.Ok)(b:Bool):({D with down:=b}:Dr).Ok:=⟨h.room0,h.room1,h.fits,h.sure,h.gone,h.fuel0,h.fuel1⟩
def Dr.Ok.Yz{D:Dr}(h:D.Ok)(n:Int)(h0: -9223372036854775808<=n)(h1:n<=9223372036854775807):({D with fuel:=n}:Dr).Ok:=⟨h.room0,h.room1,h.fits,h.sure,h.gone,h0,h1⟩
def Dr.Ok.step{D:Dr}(h:D.Ok)(a:Int)(refuse:Pt->Int)(act:Pt->Pt)
  (H:0<=a->a<4->refuse (D.p a.toNat)=0->(act (D.p a.toNat)).sure<=(act (D.p a.toNat)).l.length/\((act (D.p a.toNat)).there=false->(act (D.p a.toNat)).l=[])/\((D.used+(act (D.p a.toNat)).l.length:Nat):Int)<=D.room+(D.p a.toNat).l.length):(D.step a refuse act).2.Ok:=by
 unfold Dr.step;split
 .exact h
 split
 .exact h
 .next hn=>
  have hn:=qh.1 hn;split
  .exact h
  .next hr=>
   have hr:=qh.1 hr;split
   .exact h.down _
   .obtain⟨h1,h2,h3⟩:=H hn.1 hn.2 hr;exact h.burn _ (by omega) _ h1 h2 h3
def Dr.Ok.lay{D:Dr}(h:D.Ok)(a:Int):(D.lay a).2.Ok:=by refine h.step a _ _ λ_ _ _=>⟨h.sure _,by simp,?_⟩;have:=h.fits;simp only[Int.natCast_add];omega
def Dr.Ok.cut{D:Dr}(h:D.Ok)(a:Int):(D.cut a).2.Ok:=by refine h.step a _ _ λ_ _ _=>⟨by simp[Pt.none],λ_=>rfl,?_⟩;have:=h.fits;simp only[Int.natCast_add];simp[Pt.none];omega
def Dr.Ok.settled{D:Dr}(h:D.Ok)(q:Pt)(n:Nat)(hq:q.there=false->q.l=[]):(q.settle n).sure<=(q.settle n).l.length/\((q.settle n).there=false->(q.settle n).l=[])/\((D.used+(q.settle n).l.length:Nat):Int)<=D.room+q.l.length:=by
 refine⟨by rw[Pt.Ub];simp[Pt.settle],λhh=>?_,?_⟩
 .have:q.l=[]:=hq hh;simp[Pt.settle,this]
 .have:=h.fits;rw[Pt.Ub];omega
def Dr.Ok.trim{D:Dr}(h:D.Ok)(a n:Int):(D.trim a n).2.Ok:=
 h.step a _ _ λ_ _ _=>h.settled _ _ (h.gone _)
def Dr.Ok.sync{D:Dr}(h:D.Ok)(a:Int):(D.sync a).2.Ok:=
 h.step a _ _ λ_ _ _=>h.settled _ _ (h.gone _)
def Dr.Ok.write{D:Dr}(h:D.Ok)(a:Int)(s:Bi):(D.write a s).2.Ok:=by
 refine h.step a _ _ λ_ _ hr=>?_;have ht:(D.p a.toNat).there=true:=by
  cases ht:(D.p a.toNat).there with
  |true=>rfl
  |false=>simp[ht]at hr
 refine⟨?_,?_,?_⟩
 .have:=h.sure a.toNat;simp only[af];omega
 .intro hh;rw[ht]at hh;exact absurd hh (by decide)
 .simp only[ht,if_true]at hr;have hr:¬(D.room-D.used<s.length):=λhh=>by rw[ah hh]at hr;exact absurd hr (by decide)
  simp only[af,Int.natCast_add];omega
def Dr.aah{D:Dr}(h:D.Ok)(keep:List Int)(i:Nat):(D.p i).sure<=D.left keep i/\D.left keep i<=(D.p i).l.length:=by have:=h.sure i;unfold Dr.left;omega
def Dr.Ok.fall{D:Dr}(h:D.Ok)(keep:List Int):(D.fall keep).Ok:=by
 refine⟨h.room0,h.room1,?_,?_,?_,by simp[Dr.fall],by simp[Dr.fall]⟩
 .have:=h.fits;have e:(D.fall keep).used<=D.used:=by simp only[Dr.used,Dr.fall,Pt.Ub];omega
  show((D.fall keep).used:Int)<=D.room;omega
 .intro i;exact(h.settled (D.p i) _ (h.gone i)).1
 .intro i;exact(h.settled (D.p i) _ (h.gone i)).2.1
def Dr.af2(D:Dr)(keep:List Int):D.Iz keep 0=D:=by simp[Dr.Iz]
def Dr.af4(D:Dr)(keep:List Int)(k:Nat):(D.Iz keep k).set k ((D.p k).settle (D.left keep k))=D.Iz keep (k+1):=by
 simp only[Dr.Iz,Dr.set];congr 1;funext i;by_cases hi:i=k
 .subst hi;simp
 .by_cases h2:i<k
  .simp[hi,h2];intro h3;omega
  .have:¬i<k+1:=by omega
   simp[hi,h2,this]
open Go.RowKit
def avn(l:Bi)(k:Nat):(cl l).take k=cl (l.take k):=by simp[cl,List.map_take]
def info5:(Tryz.prog.info? 5).map (λi=>(i.zero,i.size,i.bytes))=some (some (ub 0),1,1):=by kernel_rfl
def Qi(D:Dr)(vs:Nat->Value):Array Value:=
 #[.bool (D.p 0).there,vs 0,iw (D.p 0).sure,.bool (D.p 1).there,vs 1,iw (D.p 1).sure,.bool (D.p 2).there,vs 2,iw (D.p 2).sure,.bool (D.p 3).there,vs 3,iw (D.p 3).sure,iw D.room,iw D.fuel,.bool D.down]
structure Bd(pb:Nat)(D:Dr)(vs:Nat->Value)(w:World):Prop where
 blk:w.heap[pb]?=some (.cells (Qi D vs) 78 (0,0))
 own:∀i,i<4->w.ownsRow (pb+1) 5 1 (vs i) (D.p i).l.length (cl (D.p i).l)
 apart:∀i j,i<4->j<4->i≠j->(vs i).ownBlock=none\/(vs i).ownBlock≠(vs j).ownBlock
def Ak(pb:Nat)(D:Dr)(w:World):Prop:=∃vs,Bd pb D vs w
structure Kept(pb:Nat)(w w':World):Prop where
 below:Below pb w w'
 other:∀k o,w.heap[k]?=some o->k≠pb->(∀cs fz,o≠ .cells cs 5 fz)->w'.heap[k]?=some o
def Kept.refl(pb:Nat)(w:World):Kept pb w w:=⟨aj _ _,λ_ _ h _ _=>h⟩
def Kept.trans{pb:Nat}{a b c:World}(h:Kept pb a b)(k:Kept pb b c):Kept pb a c:=
 ⟨h.below.trans k.below,λi o ho hne h5=>k.other i o (h.other i o ho hne h5) hne h5⟩
def Kept.alloc{pb:Nat}{w0 w:World}(h:Kept pb w0 w)(hp:pb<=w.heap.size)(o:Obj):Kept pb w0 (w.alloc o):=
 ⟨h.below.alloc hp o,λk o' ho hne h5=>by have:=h.other k o' ho hne h5;rw[uj w o k (gp this),this]⟩
def Kept.drew{pb:Nat}{w0 w:World}(h:Kept pb w0 w):Kept pb w0 w.drew:=⟨h.below.drew,h.other⟩
def Kept.set{pb:Nat}{w0 w:World}(h:Kept pb w0 w)(o:Nat)(v:Value):Kept pb w0 (w.setCell ⟨pb,o,none⟩ v):=
 ⟨h.below.setCell (ai _) _,λk o' ho hne h5=>by rw[jl _ _ _ _ hne];exact h.other k o' ho hne h5⟩
def Eu{w:World}{base:Nat}{v:Value}{n:Nat}{xs:List Value}(h:w.ownsRow base 5 1 v n xs):∃ao cp,v=.slice ao n cp/\n<=cp:=by
 rcases h.2 with⟨rfl,rfl⟩|⟨g,cap,cur,rfl,_,_,h,_⟩
 .exact⟨_,_,rfl,ai _⟩
 .exact⟨_,_,rfl,h⟩
def Aq{w:World}{b k:Nat}{cs:Array Value}{t:TypeId}{u:Value}(h:w.heap[b]?=some (.cells cs t (0,0))):(w.setCell ⟨b,k,none⟩ u).heap[b]?=some (.cells (cs.setIfInBounds k u) t (0,0)):=by
 exact baw
def Ae{w:World}{b k:Nat}{cs:Array Value}{t:TypeId}{u:Value}(h:w.heap[b]?=some (.cells cs t (0,0)))(hk:cs[k]?=some u):w.cell? ⟨b,k,none⟩=some u:=by simp[World.cell?,h,hk]
def Bg{w:World}{b k:Nat}{cs:Array Value}{t:TypeId}(h:w.heap[b]?=some (.cells cs t (0,0))):w.frozen? ⟨b,k,none⟩=false:=by simp[World.frozen?,h]
section
variable {pb:Nat}{D:Dr}{vs:Nat->Value}{w:World}
def four{a:Nat}(h:a<4):a=0\/a=1\/a=2\/a=3:=by omega
def Bd.lt(h:Bd pb D vs w):pb<w.heap.size:=gp h.blk
def Bd.free(h:Bd pb D vs w)(k:Nat):w.frozen? ⟨pb,k,none⟩=false:=Bg h.blk
def Bd.there(h:Bd pb D vs w)(a:Nat)(ha:a<4):w.cell? ⟨pb,a*3,none⟩=some (.bool (D.p a).there):=by refine Ae h.blk ?_;rcases four ha with rfl|rfl|rfl|rfl<;>rfl
def Bd.row(h:Bd pb D vs w)(a:Nat)(ha:a<4):w.cell? ⟨pb,a*3+1,none⟩=some (vs a):=by refine Ae h.blk ?_;rcases four ha with rfl|rfl|rfl|rfl<;>rfl
def Bd.sure(h:Bd pb D vs w)(a:Nat)(ha:a<4):w.cell? ⟨pb,a*3+2,none⟩=some (iw (D.p a).sure):=by refine Ae h.blk ?_;rcases four ha with rfl|rfl|rfl|rfl<;>rfl
def Bd.room(h:Bd pb D vs w):w.cell? ⟨pb,12,none⟩=some (iw D.room):=Ae h.blk rfl
def Bd.fuel(h:Bd pb D vs w):w.cell? ⟨pb,13,none⟩=some (iw D.fuel):=Ae h.blk rfl
def Bd.down(h:Bd pb D vs w):w.cell? ⟨pb,14,none⟩=some (.bool D.down):=Ae h.blk rfl
def Bd.Yu(h:Bd pb D vs w)(i:Nat)(hi:i<4):(vs i).ownBlock≠some pb:=by intro e;have:=(h.own i hi).lt pb e;omega
def Bd.turn(h:Bd pb D vs w)(k:Nat)(u:Value)(D':Dr)(hc:(Qi D vs).setIfInBounds k u=Qi D' vs)(hl:∀i,i<4->(D'.p i).l=(D.p i).l):Bd pb D' vs (w.setCell ⟨pb,k,none⟩ u):=
 ⟨by rw[Aq h.blk,hc],λi hi=>by rw[hl i hi];exact wz (h.own i hi) (h.Yu i hi) _,h.apart⟩
def Bd.abl(h:Bd pb D vs w)(a:Nat)(ha:a<4)(b:Bool):Bd pb (D.set a {D.p a with there:=b}) vs (w.setCell ⟨pb,a*3,none⟩ (.bool b)):=by
 exact bbi
def Bd.Zi(h:Bd pb D vs w)(a:Nat)(ha:a<4)(n:Nat):Bd pb (D.set a {D.p a with sure:=n}) vs (w.setCell ⟨pb,a*3+2,none⟩ (iw n)):=by
 exact bbi
def Bd.Nl(h:Bd pb D vs w)(n:Int):Bd pb {D with fuel:=n} vs (w.setCell ⟨pb,13,none⟩ (iw n)):=
 h.turn _ _ _ rfl λ_ _=>rfl
def Bd.U1(h:Bd pb D vs w)(b:Bool):Bd pb {D with down:=b} vs (w.setCell ⟨pb,14,none⟩ (.bool b)):=
 h.turn _ _ _ rfl λ_ _=>rfl
def Bd.ac4(h:Bd pb D vs w)(a:Nat)(ha:a<4){w1:World}{v':Value}{l':Bi}(hg:w.grownBy w1 (vs a).ownBlock)(ho:w1.ownsRow (pb+1) 5 1 v' l'.length (cl l'))
  (hn:∀k,v'.ownBlock=some k->(vs a).ownBlock=some k\/w.heap.size<=k):∃vs',vs' a=v'/\Bd pb (D.set a {D.p a with l:=l'}) vs' (w1.setCell ⟨pb,a*3+1,none⟩ v')/\Kept pb w (w1.setCell ⟨pb,a*3+1,none⟩ v'):=by
 have hlt:=h.lt;have hne:=h.Yu a ha;have hb1:w1.heap[pb]?=some (.cells (Qi D vs) 78 (0,0)):=by rw[hg.block pb hlt (λe=>hne e.symm),h.blk]
 have hv':v'.ownBlock≠some pb:=by intro e;have:=ho.lt pb e;omega
 refine⟨λi=>if i=a then v' else vs i,by simp,⟨?_,?_,?_⟩,⟨?_,?_⟩⟩
 .rw[Aq hb1];congr 2;rcases four ha with rfl|rfl|rfl|rfl<;>rfl
 .intro i hi;by_cases hia:i=a
  .subst hia;rw[Dr.Df];simp only[if_true];exact wz ho hv' _
  .rw[Dr.Gn _ _ _ _ hia];simp only[ag hia];exact wz ((h.own i hi).kept hg (h.apart i a hi ha hia)) (h.Yu i hi) _
 .intro i j hi hj hij;have key:∀i,i<4->i≠a->(vs i).ownBlock=none\/(vs i).ownBlock≠v'.ownBlock:=by
   intro i hi hia;cases hvi:(vs i).ownBlock with
   |none=>exact .inl rfl
   |some k=>
    refine .inr λe=>?_;rcases hn k e.symm with h2|h2
    .rcases h.apart i a hi ha hia with h3|h3
     .rw[hvi]at h3;cases h3
     .exact h3 (hvi.trans h2.symm)
    .have:=((h.own i hi).lt k hvi).2;omega
  by_cases hia:i=a
  .subst hia;have hja:j≠i:=λe=>hij e.symm;simp only[if_true,ag hja];rcases key j hj hja with h2|h2
   .cases hv2:v'.ownBlock with
    |none=>exact .inl rfl
    |some k=>exact .inr (by rw[h2];simp)
   .exact .inr (λe=>h2 e.symm)
  .simp only[ag hia];by_cases hja:j=a
   .simp only[ah hja];exact key i hi hia
   .simp only[ag hja];exact h.apart i j hi hj hij
 .have hb:Below pb w w1:=(aj pb w).grown hg (by omega) (λk hk=>by have:=(h.own a ha).lt k hk;omega);exact hb.setCell (ai _) _
 .intro k o hk hkp h5;rw[jl _ _ _ _ hkp,hg.block k (gp hk) ?_,hk];intro e;rcases(h.own a ha).2 with⟨hv,_⟩|⟨g,cap,cur,hv,_,hgg,_⟩
  .rw[hv]at e;simp[Value.ownBlock]at e
  .rw[hv]at e;simp only[Value.ownBlock,ja]at e;subst e;rw[hgg]at hk;injection hk with hk;exact h5 _ _ hk.symm
def Bd.on{w':World}(h:Bd pb D vs w)(hb:Bw w w'):Bd pb D vs w':=
 ⟨by rw[hb.block pb h.lt,h.blk],λi hi=>(h.own i hi).kept (row:=none) ⟨hb.os,hb.tape,hb.output,hb.size,λk hk _=>hb.block k hk⟩ (by cases(vs i).ownBlock<;>simp),h.apart⟩
def Ak.on{w':World}(h:Ak pb D w)(hb:Bw w w'):Ak pb D w':=by obtain⟨vs,h⟩:=h;exact⟨vs,h.on hb⟩
def Ak.drew(h:Ak pb D w):Ak pb D w.drew:=h.on (aj _ _).drew
def Ak.alloc(h:Ak pb D w)(o:Obj):Ak pb D (w.alloc o):=h.on ((aj _ _).alloc (ai _) o)
def Ak.lt(h:Ak pb D w):pb<w.heap.size:=by obtain⟨vs,h⟩:=h;exact h.lt
def Ak.store(h:Ak pb D w){b:Nat}{cs:Array Value}{t:TypeId}{fz:Nat×Nat}(hb:w.heap[b]?=some (.cells cs t fz))(hne:b≠pb)(ht:t≠5)(k:Nat)(u:Value):Ak pb D (w.setCell ⟨b,k,none⟩ u):=by
 obtain⟨vs,h⟩:=h;refine⟨vs,by rw[jl _ _ _ _ (λe=>hne e.symm),h.blk],λi hi=>wz (h.own i hi) ?_ _,h.apart⟩;intro e;rcases(h.own i hi).2 with⟨hv,_⟩|⟨g,cap,cur,hv,_,hgg,_⟩
 .rw[hv]at e;simp[Value.ownBlock]at e
 .rw[hv]at e;simp only[Value.ownBlock,ja]at e;subst e;rw[hgg]at hb;injection hb with hb;injection hb with _ h2 _;exact ht h2.symm
end
def ao1{w:World}{base:Nat}{v:Value}{l:Bi}(h:w.ownsRow base 5 1 v l.length (cl l))(k:Nat)(hk:k<=l.length){ao:Option Addr}{cp:Nat}(hv:v=.slice ao l.length cp):w.ownsRow base 5 1 (.slice ao k cp) (l.take k).length (cl (l.take k)):=by
 have hl:(l.take k).length=k:=by simp;omega
 rcases h.2 with⟨hv2,h0⟩|⟨g,cap,cur,hv2,hb,hg,h1,h2,h3,h4⟩
 .rw[hv]at hv2;injection hv2 with e1 e2 e3;subst e1 e3;have hk0:k=0:=by omega
  subst hk0;exact⟨by simp[cl],.inl ⟨rfl,by simp⟩⟩
 .rw[hv]at hv2;injection hv2 with e1 e2 e3;subst e1 e3;refine⟨by rw[Xp,hl];omega,.inr ⟨g,_,cur,by rw[hl],hb,hg,by omega,h2,h3,?_⟩⟩;rw[<-avn,<-h4,hl,List.take_take];congr 1;omega
def Zd(l:Bi):strOfNums (l.map λc=>(c.toNat:Int))=bs l:=by unfold strOfNums bs;congr 1;simp[List.map_map,Function.comp_def]
def Qw{w:World}{base:Nat}{v:Value}{l:Bi}(h:w.ownsRow base 5 1 v l.length (cl l)):(convert 73 9 v).run Tryz.prog w=.ok (sd l) w:=by
 exact axt
def N7(pb:Nat)(b:Bool)(w:World)(hc:ce w pb 14 (.bool b)):cpr 61 #[pz pb] w λe w'=>e=.returned (.bool b)/\w=w':=by go_enter Tryz.func61,Tryz.ntmps61;go_wp2;go_ret;exact⟨rfl,rfl⟩
def Jz(a:Int)(w:World)(h0:0<=a)(h1:a<4):cpr 163 #[iw a] w λe w'=>e=.returned (.bool true)/\w=w':=by go_enter Tryz.func163,Tryz.ntmps163;go_wp2;go_ret;exact⟨rfl,rfl⟩
def aae(a:Int)(w:World)(h:¬(0<=a/\a<4)):cpr 163 #[iw a] w λe w'=>e=.returned (.bool false)/\w=w':=by
 by_cases h0:0<=a
 .have h1:decide (a<4)=false:=by simp;omega
  clear h;go_enter Tryz.func163,Tryz.ntmps163;go_wp2;go_ret;exact⟨rfl,rfl⟩
 .have h1:a<0:=by omega
  clear h h0;go_enter Tryz.func163,Tryz.ntmps163;go_wp2;go_ret;exact⟨rfl,rfl⟩
def Hz(pb o:Nat)(b:Bool)(w:World)(hc:ce w pb o (.bool b)):cpr 93 #[.pointer (some ⟨pb,o,none⟩)] w λe w'=>e=.returned (iw (if b=true then 0 else 12))/\w=w':=by
 cases b
 all_goals
  go_enter Tryz.func93,Tryz.ntmps93;go_wp2;go_ret;exact⟨rfl,rfl⟩
def awx(pb:Nat)(D:Dr)(a:Int)(w:World)(hD:Ak pb D w):cpr 85 #[pz pb,iw a] w λe w'=>e=.returned (.bool (D.has a))/\w=w':=by
 obtain⟨vs,hD⟩:=hD;by_cases h:0<=a/\a<4
 .obtain⟨h0,h1⟩:=h;obtain⟨n,rfl⟩:=xm h0;have hc:=hD.there n (by omega);have he:D.has n=(D.p n).there:=by simp[Dr.has];omega
  rw[he];generalize (D.p n).there=b at*;clear he hD;go_enter Tryz.func85,Tryz.ntmps85;go_wp2_with (go_at_call 163;refine(Jz _ _ h0 h1).mono ?_;rintro e w1 ⟨rfl,rfl⟩);go_ret;exact⟨rfl,rfl⟩
 .have he:D.has a=false:=by simp[Dr.has];omega
  rw[he];clear he hD;go_enter Tryz.func85,Tryz.ntmps85;go_wp2_with (go_at_call 163;refine(aae _ _ h).mono ?_;rintro e w1 ⟨rfl,rfl⟩);go_ret;exact⟨rfl,rfl⟩
def auz(a b:Nat)(h:a+b<9223372036854775808):IntKind.i64.wrap ((a:Int)+b)=((a+b:Nat):Int):=by simp[IntKind.wrap,IntKind.bits,IntKind.signed];omega
def Le(D:Dr)(k:Nat):Nat:=((List.range k).map λi=>(D.p i).l.length).sum
def aes(D:Dr)(k:Nat):Le D (k+1)=Le D k+(D.p k).l.length:=by simp[Le,List.range_succ]
def X5(D:Dr):Le D 4=D.used:=by simp[Le,Dr.used,List.range_succ];omega
def abf(D:Dr)(k:Nat)(h:k<=4):Le D k<=D.used:=by rw[<-X5];rcases(by omega:k=0\/k=1\/k=2\/k=3\/k=4)with rfl|rfl|rfl|rfl|rfl<;>simp[Le,List.range_succ]<;>omega
def axb(pb:Nat)(D:Dr)(w:World)(hD:Ak pb D w)(hu:D.used<=1048576):cpr 208 #[pz pb] w λe w'=>e=.returned (iw D.used)/\w=w':=by
 obtain⟨vs,hD⟩:=hD;have HD:Hid (Bd pb D vs w):=hD;clear hD;go_enter Tryz.func208,Tryz.ntmps208;go_wp2;go_loop [3,7] (λu i=>∃k:Nat,k<=4/\i=iw k/\u=iw (Le D k)) (λ_ i=>4-(intOf i).toNat)
 case atStart=>exact⟨0,by omega,rfl,rfl⟩
 case round=>
  obtain⟨k,hk,rfl,rfl⟩:=hrel;have h1:=abf D k hk;by_cases hlt:k<4
  .have h2:=abf D (k+1) hlt;have HS:Hid (Le D (k+1)=Le D k+(D.p k).l.length):=aes D k;have h3:Le D k+(D.p k).l.length<=1048576:=by have:=HS.out;omega
   have hc:=HD.out.row k hlt;obtain⟨ao,cp,hv,_⟩:=Eu (HD.out.own k hlt);rw[hv]at hc;clear hv;generalize (D.p k).l.length=n at*;generalize Le D k=u at*;have hadd:=auz u n (by omega);go_wp2;go_round
   case rel=>exact⟨k+1,by omega,by go_num,by rw[HS.out];go_num⟩
   case measure=>simp[intOf];omega
  .have HE:Hid (k=4):=(by omega:k=4);go_wp2;go_ret;exact⟨by rw[HE.out,X5];rfl,rfl⟩
def aza(pb:Nat)(D:Dr)(n:Int)(w:World)(hD:Ak pb D w):cpr 11 #[pz pb,iw n] w λe w'=>e=.returned (.tuple #[])/\Ak pb {D with fuel:=n} w'/\Kept pb w w':=by
 obtain⟨vs,hD⟩:=hD;have HD:Hid (Bd pb D vs w):=hD;have hc:=hD.fuel;have hf:=hD.free;clear hD;go_enter Tryz.func11,Tryz.ntmps11;go_wp2;go_end0
 exact⟨rfl,⟨vs,HD.out.Nl n⟩,(Kept.refl _ _).set _ _⟩
def Yi(r:Int)(w:World)(h0:0<=r)(h1:r<=1048576):cpr 7 #[iw r] w λe w'=>e=.returned (.tuple #[pz w.heap.size,iw 0])/\Ak w.heap.size (Dr.new r) w'/\Bw w w':=by
 go_enter Tryz.func7,Tryz.ntmps7;go_wp2
 go_ret2
 refine⟨rfl,⟨λ_=>sy,?_,?_,?_⟩,al _⟩
 .exact ae w _
 .intro i _;exact qi _ _ _ _
 .intro i j _ _ _;exact .inl rfl
def ax2(pb:Nat)(D:Dr)(a:Int)(w:World)(hD:Ak pb D w):cpr 86 #[pz pb,iw a] w λe w'=>e=.returned (.tuple #[.string (bs (D.read a).1),iw (D.read a).2])/\w=w':=by
 obtain⟨vs,hD⟩:=hD;have HD:Hid (Bd pb D vs w):=hD;have hdn:=hD.down;clear hD;obtain⟨dn,hdn'⟩:=xj D.down;rw[hdn']at hdn;have HN:Hid (D.down=dn):=hdn';clear hdn';cases dn with
 |true=>
  go_enter Tryz.func86,Tryz.ntmps86;go_wp2_with (go_at_call 61;refine(N7 pb _ _ hdn).mono ?_;rintro e w1 ⟨rfl,rfl⟩)
  go_ret2
  exact⟨by simp[Dr.read,HN.out];rfl,rfl⟩
 |false=>
  by_cases h:0<=a/\a<4
  .obtain⟨h0,h1⟩:=h;obtain⟨n,rfl⟩:=xm h0;have ht:=HD.out.there n (by omega);obtain⟨b,hb⟩:=xj (D.p n).there;rw[hb]at ht;have HB:Hid ((D.p n).there=b):=hb;clear hb;cases b with
   |false=>
    go_enter Tryz.func86,Tryz.ntmps86;go_wp2_with (first|(go_at_call 61;refine(N7 pb _ _ hdn).mono ?_;rintro e w1 ⟨rfl,rfl⟩)|(go_at_call 163;refine(Jz _ _ h0 h1).mono ?_;rintro e w1 ⟨rfl,rfl⟩)|(go_at_call 93;refine(Hz pb _ _ _ ht).mono ?_;rintro e w1 ⟨rfl,rfl⟩))
    go_ret2
    exact⟨by simp[Dr.read,HN.out,HB.out,h1];rfl,rfl⟩
   |true=>
    have hr:=HD.out.row n (by omega);have hcv:=Qw (HD.out.own n (by omega));obtain⟨ao,cp,hv,_⟩:=Eu (HD.out.own n (by omega));rw[hv]at hr hcv;clear hv;go_enter Tryz.func86,Tryz.ntmps86;go_wp2_with (first|(go_at_call 61;refine(N7 pb _ _ hdn).mono ?_;rintro e w1 ⟨rfl,rfl⟩)|(go_at_call 163;refine(Jz _ _ h0 h1).mono ?_;rintro e w1 ⟨rfl,rfl⟩)|(go_at_call 93;refine(Hz pb _ _ _ ht).mono ?_;rintro e w1 ⟨rfl,rfl⟩))
    go_ret2
    exact⟨by simp[Dr.read,HN.out,HB.out,h1],rfl⟩
  .go_enter Tryz.func86,Tryz.ntmps86;go_wp2_with (first|(go_at_call 61;refine(N7 pb _ _ hdn).mono ?_;rintro e w1 ⟨rfl,rfl⟩)|(go_at_call 163;refine(aae _ _ h).mono ?_;rintro e w1 ⟨rfl,rfl⟩))
   go_ret2
   exact⟨by rw[Dr.read,HN.out,ag (by decide),ah h];rfl,rfl⟩
def ac3(D:Dr)(a:Nat)(q r:Pt):(D.set a q).set a r=D.set a r:=by simp only[Dr.set];congr 1;funext i;by_cases h:i=a<;>simp[h]
def Zg{pb:Nat}{D:Dr}{vs:Nat->Value}{w1:World}{a m:Nat}{ao:Option Addr}{cp:Nat}(hD:Bd pb (D.set a {D.p a with sure:=m}) vs w1)(ha:a<4)(hv:vs a=.slice ao (D.p a).l.length cp)(hm:m<=(D.p a).l.length):Ak pb (D.set a ⟨(D.p a).there,(D.p a).l.take m,m⟩) (w1.setCell ⟨pb,a*3+1,none⟩ (.slice ao m cp))/\Kept pb w1 (w1.setCell ⟨pb,a*3+1,none⟩ (.slice ao m cp)):=by have ho:=hD.own a ha;rw[Dr.Df]at ho;have hrow:=ao1 ho m hm hv;obtain⟨vs',hv',h1,h2⟩:=hD.ac4 a ha (w1:=w1) ⟨rfl,rfl,rfl,ai _,λ_ _ _=>rfl⟩ hrow (λk hk=>.inl (by rw[hv];cases ao<;>exact hk));rw[Dr.Df,ac3]at h1;exact⟨⟨vs',h1⟩,h2⟩
def Zh(pb:Nat)(D:Dr)(a n:Nat)(w:World)(hD:Ak pb D w)(ha:a<4):
  cpr 28 #[.pointer (some ⟨pb,a*3,none⟩),iw n] w λe w'=>e=.returned (.tuple #[])/\Ak pb (D.set a ((D.p a).settle n)) w'/\Kept pb w w':=by
 obtain⟨vs,hD⟩:=hD;have hr:=hD.row a ha;have hf:=hD.free;have hs:=hD.sure a ha;obtain⟨ao,cp,hv,hcp⟩:=Eu (hD.own a ha);rw[hv]at hr;have HD:Hid (Bd pb D vs w/\vs a=.slice ao (D.p a).l.length cp):=⟨hD,hv⟩;obtain⟨len,hlen⟩:=xj (D.p a).l.length;rw[hlen]at hr hcp;have HL:Hid ((D.p a).l.length=len):=hlen;clear hv hD hlen;by_cases hnl:n<=len
 .have hset:(D.p a).settle n=⟨(D.p a).there,(D.p a).l.take n,n⟩:=by have:=HL.out;simp only[Pt.settle,Pt.mk.injEq,true_and];omega
  rw[hset];clear hset;go_enter Tryz.func28,Tryz.ntmps28;go_wp2;have hD1:=HD.out.1.Zi a ha n;have K1:Hid (Kept pb w (w.setCell ⟨pb,a*3+2,none⟩ (iw n))):=(Kept.refl pb w).set _ _;generalize w.setCell ⟨pb,a*3+2,none⟩ (iw n)=w1 at*;have hr1:=hD1.row a ha;have hs1:=hD1.sure a ha;have hf1:=hD1.free;rw[Dr.Df]at hs1;rw[HD.out.2,HL.out]at hr1;have H1:Hid (Bd pb (D.set a {D.p a with sure:=n}) vs w1):=hD1;clear hD1 hs hr hf;go_region;go_end0
  have R:=Zg H1.out ha HD.out.2 (by rw[HL.out];exact hnl);exact⟨rfl,R.1.drew,(K1.out.trans R.2).drew⟩
 .have hset:(D.p a).settle n=⟨(D.p a).there,(D.p a).l.take len,len⟩:=by have:=HL.out;simp only[Pt.settle,Pt.mk.injEq,true_and];refine⟨?_,by omega⟩;rw[ay (by omega),ay (by omega)]
  rw[hset];clear hset;go_enter Tryz.func28,Tryz.ntmps28;go_wp2;have hD1:=HD.out.1.Zi a ha len;have K1:Hid (Kept pb w (w.setCell ⟨pb,a*3+2,none⟩ (iw len))):=(Kept.refl pb w).set _ _;generalize w.setCell ⟨pb,a*3+2,none⟩ (iw len)=w1 at*;have hr1:=hD1.row a ha;have hs1:=hD1.sure a ha;have hf1:=hD1.free;rw[Dr.Df]at hs1;rw[HD.out.2,HL.out]at hr1;have H1:Hid (Bd pb (D.set a {D.p a with sure:=len}) vs w1):=hD1;clear hD1 hs hr hf;go_region;go_end0
  have R:=Zg H1.out ha HD.out.2 (by rw[HL.out];exact ai _);exact⟨rfl,R.1.drew,(K1.out.trans R.2).drew⟩
def lay32(pb o:Nat)(b:Bool)(w:World)(hc:ce w pb o (.bool b)):cpr 166 #[.pointer (some ⟨pb,o,none⟩)] w λe w'=>e=.returned (iw (if b=true then 1 else 0))/\w=w':=by
 cases b
 all_goals
  go_enter Tryz.func166,Tryz.ntmps166;go_wp2;go_ret;exact⟨rfl,rfl⟩
def ap3(pb:Nat)(D:Dr)(a:Nat)(w:World)(hD:Ak pb D w)(ha:a<4):cpr 167 #[.pointer (some ⟨pb,a*3,none⟩)] w λe w'=>e=.returned (.tuple #[])/\Ak pb (D.set a {D.p a with there:=true}) w'/\Kept pb w w':=by
 obtain⟨vs,hD⟩:=hD;have HD:Hid (Bd pb D vs w):=hD;have hc:=hD.there a ha;have hf:=hD.free;clear hD;go_enter Tryz.func167,Tryz.ntmps167;go_wp2;go_end0
 exact⟨rfl,⟨vs,HD.out.abl a ha true⟩,(Kept.refl _ _).set _ _⟩
def axj(pb o:Nat)(b:Bool)(w:World)(hc:ce w pb o (.bool b)):cpr 210 #[.pointer (some ⟨pb,o,none⟩)] w λe w'=>e=.returned (iw (if b=true then 0 else 12))/\w=w':=by
 cases b
 all_goals
  go_enter Tryz.func210,Tryz.ntmps210;go_wp2_with (go_at_call 93;refine(Hz pb o _ _ hc).mono ?_;rintro e w1 ⟨rfl,rfl⟩);go_ret;exact⟨rfl,rfl⟩
def axi(pb:Nat)(D:Dr)(a:Nat)(w:World)(hD:Ak pb D w)(ha:a<4):cpr 211 #[.pointer (some ⟨pb,a*3,none⟩)] w λe w'=>e=.returned (.tuple #[])/\Ak pb (D.set a ((D.p a).settle (D.p a).l.length)) w'/\Kept pb w w':=by
 have HC:Hid (1=1->cpr 28 #[.pointer (some ⟨pb,a*3,none⟩),iw (D.p a).l.length] w λe w'=>e=.returned (.tuple #[])/\Ak pb (D.set a ((D.p a).settle (D.p a).l.length)) w'/\Kept pb w w'):=λ_=>Zh pb D a _ w hD ha;obtain⟨vs,hD⟩:=hD;have hr:=hD.row a ha;obtain⟨ao,cp,hv,hcp⟩:=Eu (hD.own a ha);rw[hv]at hr;clear hv hD;go_enter Tryz.func211,Tryz.ntmps211;go_wp2_with (go_at_call 28;refine(HC.out rfl).mono ?_;rintro e w1 ⟨rfl,h1,h2⟩;have H1:Hid _:=jq h1 h2;clear h1 h2);go_end0
 exact⟨rfl,H1.out⟩
def cut43(pb o:Nat)(b:Bool)(w:World)(hc:ce w pb o (.bool b)):cpr 158 #[.pointer (some ⟨pb,o,none⟩)] w λe w'=>e=.returned (iw (if b=true then 0 else 12))/\w=w':=by
 cases b
 all_goals
  go_enter Tryz.func158,Tryz.ntmps158;go_wp2_with (go_at_call 93;refine(Hz pb o _ _ hc).mono ?_;rintro e w1 ⟨rfl,rfl⟩);go_ret;exact⟨rfl,rfl⟩
def avi{pb:Nat}{D:Dr}{vs:Nat->Value}{w:World}{a:Nat}(h:Bd pb D vs w)(ha:a<4):
  Ak pb (D.set a Pt.none) (((w.setCell ⟨pb,a*3,none⟩ (.bool false)).setCell ⟨pb,a*3+1,none⟩ sy).setCell ⟨pb,a*3+2,none⟩ (iw 0))/\Kept pb w (((w.setCell ⟨pb,a*3,none⟩ (.bool false)).setCell ⟨pb,a*3+1,none⟩ sy).setCell ⟨pb,a*3+2,none⟩ (iw 0)):=by
 have h1:=h.abl a ha false;obtain⟨vs',_,h2,k2⟩:=h1.ac4 a ha (w1:=w.setCell ⟨pb,a*3,none⟩ (.bool false)) (v':=sy) (l':=[]) ⟨rfl,rfl,rfl,ai _,λ_ _ _=>rfl⟩ (qi _ _ _ _) (λk hk=>by simp[Value.ownBlock]at hk);rw[ac3,Dr.Df]at h2;have h3:=h2.Zi a ha 0;rw[ac3,Dr.Df]at h3;exact⟨⟨vs',h3⟩,((((Kept.refl pb w).set _ _).set _ _).set _ _)⟩
def cut44(pb:Nat)(D:Dr)(a:Nat)(w:World)(hD:Ak pb D w)(ha:a<4):cpr 159 #[.pointer (some ⟨pb,a*3,none⟩)] w λe w'=>e=.returned (.tuple #[])/\Ak pb (D.set a Pt.none) w'/\Kept pb w w':=by
 obtain⟨vs,hD⟩:=hD;have HD:Hid (Bd pb D vs w):=hD;have hc:=hD.there a ha;have hc1:=hD.row a ha;have hc2:=hD.sure a ha;have hf:=hD.free;clear hD;go_enter Tryz.func159,Tryz.ntmps159;go_wp2;go_end0
 exact⟨rfl,avi HD.out ha⟩
def axe(pb o nb:Nat)(b:Bool)(n:Int)(w:World)(hc:ce w pb o (.bool b))(hn:ce w nb 0 (iw n)):cpr 92 #[.pointer (some ⟨pb,o,none⟩),pz nb] w λe w'=>e=.returned (iw (if b=true then(if n<0 then 1 else 0)else 12))/\w=w':=by
 cases b
 .exact ba1
 .by_cases h:n<0
  .rw[ah h];exact ba1
  .rw[ag h];exact ba1
def axd(pb:Nat)(D:Dr)(a nb n:Nat)(w:World)(hD:Ak pb D w)(ha:a<4)(hn:ce w nb 0 (iw n)):cpr 94 #[.pointer (some ⟨pb,a*3,none⟩),pz nb] w λe w'=>e=.returned (.tuple #[])/\Ak pb (D.set a ((D.p a).settle n)) w'/\Kept pb w w':=by
 have HC:Hid (1=1->cpr 28 #[.pointer (some ⟨pb,a*3,none⟩),iw n] w λe w'=>e=.returned (.tuple #[])/\Ak pb (D.set a ((D.p a).settle n)) w'/\Kept pb w w'):=λ_=>Zh pb D a n w hD ha;clear hD;go_enter Tryz.func94,Tryz.ntmps94;go_wp2_with (go_at_call 28;refine(HC.out rfl).mono ?_;rintro e w1 ⟨rfl,h1,h2⟩;have H1:Hid _:=jq h1 h2;clear h1 h2);go_end0
 exact⟨rfl,H1.out⟩
def aig(w:World)(base:Nat)(ty:TypeId)(i:TypeInfo)(hi:Tryz.prog.info? 5=some i)(hz:i.zero=some (ub 0))(hsize:i.size=1)(hby:i.bytes=1)
  (v:Value) (l:Bi) (hown:w.ownsRow base 5 1 v l.length (cl l)) (s:Bi) (hl:l.length+s.length<=140737488355328) (hbase:base<=w.heap.size):
  ∃v' w',(Builtin.append_ #[73,9] ty #[v,sd s]).run Tryz.prog w=.ok v' w'/\w'.ownsRow base 5 1 v' (l++s).length (cl (l++s))/\w.grownBy w' v.ownBlock/\∀k,v'.ownBlock=some k->v.ownBlock=some k\/w.heap.size<=k:=by
 have hm:l.length+(bs s).size<=maxLen:=by rw[Bq];unfold maxLen;omega
 have hb:l.length+(bs s).size<=140737488355328:=by rw[Bq];exact hl
 obtain⟨v',w',hr,h1,h2,_⟩:=Lib.run_append_own_string (P:=Tryz.prog) w base 73 9 ty 5 i Tryz.underlying73 Tryz.underlying9 hi hz hsize hby v l.length (cl l) hown (bs s) hm hb hbase;refine⟨v',w',hr,?_,h2,?_⟩
 .rw[Bq,X6,D6,<-Xq,<-af]at h1;exact h1
 .intro k hk;rcases hown.2 with⟨rfl,h0⟩|⟨g,cap,cur,rfl,hbg,hg,hnc,hcm,hcs,htake⟩
  .have hn:w.ownsRow w.heap.size 5 1 sy l.length (cl l):=⟨hown.1,.inl ⟨rfl,h0⟩⟩;obtain⟨v2,w2,hr2,h12,_,_⟩:=Lib.run_append_own_string (P:=Tryz.prog) w w.heap.size 73 9 ty 5 i Tryz.underlying73 Tryz.underlying9 hi hz hsize hby _ l.length (cl l) hn (bs s) hm hb (ai _);rw[hr]at hr2;injection hr2 with e1 e2;subst e1;exact .inr (h12.lt k hk).1
  .by_cases hroom:l.length+(bs s).size<=cap
   .have hr2:=Lib.run_append_room_string (P:=Tryz.prog) w 73 9 ty 5 i Tryz.underlying73 Tryz.underlying9 hi hsize g l.length cap cur hg (bs s) hroom (by rw[hcs];omega);rw[hr]at hr2;injection hr2 with e1 e2;subst e1;exact .inl hk
   .have hr2:=Lib.run_append_grow_string (P:=Tryz.prog) w 73 9 ty 5 i (ub 0) Tryz.underlying73 Tryz.underlying9 hi hz ⟨g,0,none⟩ l.length cap (cl l) (by rw[hsize,Xp];omega) (hown.cells (g:=g) rfl) (bs s) (by omega) (by unfold maxLen at hm;omega) (by rw[hby];exact growslice_fits (by omega) (by omega));rw[hr]at hr2;injection hr2 with e1 e2;subst e1;simp only[Value.ownBlock,ja]at hk;exact .inr (by omega)
def Yg{ops:Array Oper}{o:Oper}{a:Act}{w:World}{K:Act->World->Prop}{Q:Exit->Act->World->Prop}{E:Prop}
  (hgd:o.guard=none) (sl x:Operand) (hop:o.op=.call {callee:=.builtin .append,args:=#[sl,x],argTypes:=#[73,9]})
  (base:Nat) (v:Value) (l s:Bi) (hs:a.eval sl=v) (hx:a.eval x=sd s) (hown:w.ownsRow base 5 1 v l.length (cl l))
  (hl:l.length+s.length<=140737488355328) (hbase:base<=w.heap.size)
  (h:∀v' w',w'.ownsRow base 5 1 v' (l++s).length (cl (l++s))->w.grownBy w' v.ownBlock->(∀k,v'.ownBlock=some k->v.ownBlock=some k\/w.heap.size<=k)->K (a.put o.dst v') w'):
  if Region.wanted o (yielded ops a.tmps)=true then Oper.wp Tryz.prog o a w K Q else E:=by
 obtain⟨i0,hi,hz0,hz1,hz2⟩:=qc info5;have hw:Region.wanted o (yielded ops a.tmps)=true:=by simp[Region.wanted,hgd]
 rw[ah hw];obtain⟨v',w',hr,h2,h3,h4⟩:=aig w base o.type i0 hi hz0 hz1 hz2 v l hown s hl hbase;unfold Oper.wp execOp;simp only[hop,resolve,invoke,builtin,Sem.run_bind,Sem.run_pure,Result.andThen_ok,List.map_toArray,jd,List.map_nil,hs,hx,hr];exact h v' w' h2 h3 h4
def ax0(D:Dr)(vs:Nat->Value)(a:Nat)(ha:a<4):(Qi D vs)[a*3+1]?=some (vs a):=by rcases four ha with rfl|rfl|rfl|rfl<;>rfl
def al6{pb:Nat}{D:Dr}{vs:Nat->Value}{w w1:World}{a:Nat}{v:Value}(h:Bd pb D vs w)(ha:a<4)(hv:vs a=v)(hg:w.drew.grownBy w1 v.ownBlock):w1.heap[pb]?=some (.cells (Qi D vs) 78 (0,0)):=by subst hv;rw[hg.block pb h.lt (λe=>h.Yu a ha e.symm)];exact h.blk
def ar4(pb:Nat)(D:Dr)(a sb:Nat)(s:Bi)(w:World)(hD:Ak pb D w)(ha:a<4)(hs:ce w sb 0 (sd s))(hl:(D.p a).l.length+s.length<=140737488355328):
  cpr 209 #[.pointer (some ⟨pb,a*3,none⟩),pz sb] w λe w'=>e=.returned (.tuple #[])/\Ak pb (D.set a {D.p a with l:=(D.p a).l++s}) w'/\Kept pb w w':=by
 obtain⟨vs,hD⟩:=hD;have hr:=hD.row a ha;have hf:=hD.free;have hlt:=hD.lt;obtain⟨ao,cp,hv,hcp⟩:=Eu (hD.own a ha);rw[hv]at hr;have HD:Hid (Bd pb D vs w/\vs a=.slice ao (D.p a).l.length cp):=⟨hD,hv⟩;have HO:Hid (w.drew.ownsRow (pb+1) 5 1 (.slice ao (D.p a).l.length cp) (D.p a).l.length (cl (D.p a).l)):=by have:=(hD.own a ha).drew;rw[hv]at this;exact this
 clear hv hD;go_enter Tryz.func209,Tryz.ntmps209;go_wp2_with fail
 go_region_law (refine Yg rfl (.tmp 7) (.tmp 8) rfl (pb+1) (.slice ao (D.p a).l.length cp) (D.p a).l s (by simp[Act.eval]) (by simp[Act.eval]) HO.out hl hlt ?_;intro v' w1 hown' hgrow hnew;obtain⟨ao',cp',hv',_⟩:=Eu hown';subst hv';have HG:Hid _:=jq hgrow (jq hown' hnew);have hD1:=al6 HD.out.1 ha HD.out.2 hgrow;have c1:=Ae (k:=a*3+1) hD1 (ax0 D vs a ha);have f1:=λk=>Bg (k:=k) hD1;clear hown' hgrow hnew hD1)
 all_goals
  go_end0
  rw[<-HD.out.2]at HG;obtain⟨vs',_,h1,h2⟩:=(HD.out.1.on (aj _ _).drew).ac4 a ha HG.out.1 HG.out.2.1 HG.out.2.2;rw[af]at h1 h2;exact⟨rfl,⟨vs',h1⟩,(Kept.refl _ _).drew.trans h2⟩
def ahb{f:Nat}{args:Array Value}{w:World}{v:Value}(h:cpr f args w λe w'=>e=.returned v/\w=w'):cpr f args w λe w'=>e=.returned v/\w'=w:=
 h.mono λ_ _ h=>⟨h.1,h.2.symm⟩
def ar5(pb:Nat)(D:Dr)(a sb db:Nat)(s:Bi)(w:World)(hD:Ak pb D w)(ha:a<4)(hOk:D.Ok)(hs:ce w sb 0 (sd s))(hd:ce w db 0 (pz pb)):
  cpr 207 #[.pointer (some ⟨pb,a*3,none⟩),pz sb,pz db] w λe w'=>e=.returned (iw (if(D.p a).there=true then(if D.room-D.used<s.length then 10 else 0)else 12))/\Bw w w':=by
 have hu:=hOk.fits;have h0:=hOk.room0;have h1:=hOk.room1;have HU:Hid (1=1->∀n,cpr 208 #[pz pb] (w.drewN n) λe w'=>e=.returned (iw D.used)/\w'=w.drewN n):=λ_ n=>ahb (axb pb D _ (hD.on (below_drewN (aj _ _) n)) (by omega));obtain⟨vs,hD⟩:=hD;have hc:=hD.there a ha;have hr:=hD.room;clear hD;generalize (D.p a).there=b at*;generalize D.room=room at*;generalize D.used=used at*;cases b with
 |false=>
  go_enter Tryz.func207,Tryz.ntmps207;go_wp2_with (go_at_call 93;refine(Hz pb _ _ _ hc).mono ?_;rintro e w1 ⟨rfl,rfl⟩);go_ret;exact⟨rfl,aj _ _⟩
 |true=>
  by_cases hfull:room-(used:Int)<s.length
  .rw[show(if true=true then(if room-(used:Int)<s.length then(10:Int)else 0)else 12)=10 from by simp[hfull]];exact ba6
  .rw[show(if true=true then(if room-(used:Int)<s.length then(10:Int)else 0)else 12)=0 from by simp[hfull]];exact ba6
def Zf(pb:Nat)(D:Dr)(a:Int)(f g:Nat)(cf cg:Array Value)(refuse:Pt->Int)(act:Pt->Pt)(w:World)(hD:Ak pb D w)(hOk:D.Ok)
  (ef:∀args w,(callFunc f args).run Tryz.prog w=.ok (.enter f args) w) (eg:∀args w,(callFunc g args).run Tryz.prog w=.ok (.enter g args) w)
  (HR:Hid (1=1->∀n:Nat,n<4->cpr f (#[.pointer (some ⟨pb,n*3,none⟩)]++cf) w λe w'=>e=.returned (iw (refuse (D.p n)))/\Bw w w'))
  (HA:Hid (1=1->∀n:Nat,n<4->refuse (D.p n)=0->∀w2 D2,Ak pb D2 w2->D2.p=D.p->(∀k o,k≠pb->w.heap[k]?=some o->w2.heap[k]?=some o)->cpr g (#[.pointer (some ⟨pb,n*3,none⟩)]++cg) w2 λe w'=>e=.returned (.tuple #[])/\Ak pb (D2.set n (act (D2.p n))) w'/\Kept pb w2 w')):
  cpr 91 #[pz pb,iw a,.func (.func f) #[] cf,.func (.func g) #[] cg] w λe w'=>e=.returned (iw (D.step a refuse act).1)/\Ak pb (D.step a refuse act).2 w'/\Kept pb w w':=by
 obtain⟨vs,hD⟩:=hD;have HD:Hid (Bd pb D vs w):=hD;have hdn:=hD.down;clear hD;obtain⟨dn,hdn'⟩:=xj D.down;rw[hdn']at hdn;have HN:Hid (D.down=dn):=hdn';clear hdn';cases dn with
 |true=>
  have hst:D.step a refuse act=(11,D):=by rw[Dr.step,ah HN.out]
  rw[hst];clear hst;go_enter Tryz.func91,Tryz.ntmps91;go_wp2_with (go_at_call 61;refine(N7 pb _ _ hdn).mono ?_;rintro e w1 ⟨rfl,rfl⟩);go_ret;exact⟨rfl,⟨vs,HD.out⟩,Kept.refl _ _⟩
 |false=>
  by_cases h:0<=a/\a<4
  .obtain⟨h0,h1⟩:=h;obtain⟨n,rfl⟩:=xm h0;have hn:n<4:=by omega
   have HC:Hid (1=1->cpr f (#[.pointer (some ⟨pb,n*3,none⟩)]++cf) w λe w'=>e=.returned (iw (refuse (D.p n)))/\Bw w w'):=λ_=>HR.out rfl n hn;obtain⟨r,hr⟩:=xj (refuse (D.p n));rw[hr]at HC;have HX:Hid (refuse (D.p n)=r):=hr;clear hr HR;by_cases hr0:r=0
   .subst hr0;obtain⟨fu,hfu⟩:=xj D.fuel;have hb0:=hOk.fuel0;have hb9:=hOk.fuel1;rw[hfu]at hb0 hb9;have HFU:Hid (D.fuel=fu):=hfu;clear hfu;by_cases hf0:fu=0
    .have hst:D.step n refuse act=(11,{D with down:=true}):=by have:=HX.out;simp only[Dr.step,HN.out,Int.toNat_natCast,this];rw[ag (by decide),ag (by omega),ag (by simp),ah (by rw[HFU.out];exact hf0)]
     rw[hst];subst hf0;clear hst;go_enter Tryz.func91,Tryz.ntmps91;go_wp2_with (first|(go_at_call 61;refine(N7 pb _ _ hdn).mono ?_;rintro e w1 ⟨rfl,rfl⟩)|(go_at_call 163;refine(Jz _ _ h0 h1).mono ?_;rintro e w1 ⟨rfl,rfl⟩));refine(HC.out (by trivial)).mono ?_;rintro e w1 ⟨rfl,hb1⟩;have H1:Hid (Bd pb D vs w1/\Bw w w1):=⟨HD.out.on hb1,hb1⟩;have hf1:=H1.out.1.fuel;have hd1:=H1.out.1.down;have hz1:=H1.out.1.free;rw[HFU.out]at hf1;clear hb1;go_wp2;go_ret;exact⟨rfl,⟨vs,H1.out.1.U1 true⟩,(⟨H1.out.2.mono (og HD.out.lt),λk o ho _ _=>by rw[H1.out.2.block k (gp ho),ho]⟩:Kept pb w w1).set _ _⟩
    .have hst:D.step n refuse act=(0,D.burn.set n (act (D.p n))):=by have:=HX.out;simp only[Dr.step,HN.out,Int.toNat_natCast,this];rw[ag (by decide),ag (by omega),ag (by simp),ag (by rw[HFU.out];exact hf0)]
     rw[hst];clear hst;by_cases hfp:0<fu
     .have HBU:Hid ({D with fuel:=fu-1}=D.burn):=by show _=_;simp[Dr.burn,HFU.out,hfp]
      have hfb:(fu==0)=false:=by simp[hf0]
      clear hf0;go_enter Tryz.func91,Tryz.ntmps91;go_wp2_with (first|(go_at_call 61;refine(N7 pb _ _ hdn).mono ?_;rintro e w1 ⟨rfl,rfl⟩)|(go_at_call 163;refine(Jz _ _ h0 h1).mono ?_;rintro e w1 ⟨rfl,rfl⟩));refine(HC.out (by trivial)).mono ?_;rintro e w1 ⟨rfl,hb1⟩;have H1:Hid (Bd pb D vs w1/\Bw w w1):=⟨HD.out.on hb1,hb1⟩;have hf1:=H1.out.1.fuel;have hd1:=H1.out.1.down;have hz1:=H1.out.1.free;rw[HFU.out]at hf1;clear hb1;go_wp2_with fail;have hD2:=H1.out.1.Nl (fu-1);rw[HBU.out]at hD2;have hk2:Kept pb w (w1.setCell ⟨pb,13,none⟩ (iw (fu-1))):=(⟨H1.out.2.mono (og HD.out.lt),λk o ho _ _=>by rw[H1.out.2.block k (gp ho),ho]⟩:Kept pb w w1).set _ _;refine(HA.out (by trivial) n hn HX.out _ _ ⟨vs,hD2⟩ rfl (λk o hk ho=>by rw[jl _ _ _ _ hk,H1.out.2.block k (gp ho),ho])).mono ?_;rintro e w3 ⟨rfl,h3,hk3⟩;exact bbg
     .have HBU:Hid (D=D.burn):=by show _=_;unfold Dr.burn;rw[ag (by rw[HFU.out];exact hfp)]
      have hfb:(fu==0)=false:=by simp[hf0]
      clear hf0;go_enter Tryz.func91,Tryz.ntmps91;go_wp2_with (first|(go_at_call 61;refine(N7 pb _ _ hdn).mono ?_;rintro e w1 ⟨rfl,rfl⟩)|(go_at_call 163;refine(Jz _ _ h0 h1).mono ?_;rintro e w1 ⟨rfl,rfl⟩));refine(HC.out (by trivial)).mono ?_;rintro e w1 ⟨rfl,hb1⟩;have H1:Hid (Bd pb D vs w1/\Bw w w1):=⟨HD.out.on hb1,hb1⟩;have hf1:=H1.out.1.fuel;have hd1:=H1.out.1.down;have hz1:=H1.out.1.free;rw[HFU.out]at hf1;clear hb1;go_wp2_with fail;have hD2:Ak pb D.burn w1:=⟨vs,by rw[<-HBU.out];exact H1.out.1⟩;have hk2:Kept pb w w1:=⟨H1.out.2.mono (og HD.out.lt),λk o ho _ _=>by rw[H1.out.2.block k (gp ho),ho]⟩;refine(HA.out (by trivial) n hn HX.out _ _ hD2 rfl (λk o hk ho=>by rw[H1.out.2.block k (gp ho),ho])).mono ?_;rintro e w3 ⟨rfl,h3,hk3⟩;exact bbg
   .have hst:D.step n refuse act=(r,D):=by have:=HX.out;simp only[Dr.step,HN.out,Int.toNat_natCast,this];rw[ag (by decide),ag (by omega),ah hr0]
    rw[hst];have hrb:(r==0)=false:=by simp[hr0]
    clear hst hr0;go_enter Tryz.func91,Tryz.ntmps91;go_wp2_with (first|(go_at_call 61;refine(N7 pb _ _ hdn).mono ?_;rintro e w1 ⟨rfl,rfl⟩)|(go_at_call 163;refine(Jz _ _ h0 h1).mono ?_;rintro e w1 ⟨rfl,rfl⟩));refine(HC.out (by trivial)).mono ?_;rintro e w1 ⟨rfl,hb1⟩;go_wp2;go_ret;exact⟨rfl,Ak.on ⟨vs,HD.out⟩ hb1,⟨hb1.mono (og HD.out.lt),λk o ho _ _=>by rw[hb1.block k (gp ho),ho]⟩⟩
  .have hst:D.step a refuse act=(1,D):=by rw[Dr.step,HN.out,ag (by decide),ah h]
   rw[hst];clear hst;go_enter Tryz.func91,Tryz.ntmps91;go_wp2_with (first|(go_at_call 61;refine(N7 pb _ _ hdn).mono ?_;rintro e w1 ⟨rfl,rfl⟩)|(go_at_call 163;refine(aae _ _ h).mono ?_;rintro e w1 ⟨rfl,rfl⟩));go_ret;exact⟨rfl,⟨vs,HD.out⟩,Kept.refl _ _⟩
def ent32:Enters Tryz.prog 166:=enters_of Tryz.func166 (by kernel_rfl) rfl
def ent33:Enters Tryz.prog 167:=enters_of Tryz.func167 (by kernel_rfl) rfl
def ent34:Enters Tryz.prog 207:=enters_of Tryz.func207 (by kernel_rfl) rfl
def ent35:Enters Tryz.prog 209:=enters_of Tryz.func209 (by kernel_rfl) rfl
def ent41:Enters Tryz.prog 210:=enters_of Tryz.func210 (by kernel_rfl) rfl
def ent42:Enters Tryz.prog 211:=enters_of Tryz.func211 (by kernel_rfl) rfl
def ent43:Enters Tryz.prog 158:=enters_of Tryz.func158 (by kernel_rfl) rfl
def ent44:Enters Tryz.prog 159:=enters_of Tryz.func159 (by kernel_rfl) rfl
def ent45:Enters Tryz.prog 92:=enters_of Tryz.func92 (by kernel_rfl) rfl
def ent46:Enters Tryz.prog 94:=enters_of Tryz.func94 (by kernel_rfl) rfl
def lay11(pb:Nat)(D:Dr)(a:Int)(w:World)(hD:Ak pb D w)(hOk:D.Ok):cpr 88 #[pz pb,iw a] w λe w'=>e=.returned (iw (D.lay a).1)/\Ak pb (D.lay a).2 w'/\Kept pb w w':=by
 have HC:Hid (1=1->cpr 91 #[pz pb,iw a,.func (.func 166) #[] #[],.func (.func 167) #[] #[]] w λe w'=>e=.returned (iw (D.lay a).1)/\Ak pb (D.lay a).2 w'/\Kept pb w w'):=λ_=>by
  obtain⟨vs,hDi⟩:=id hD;refine Zf pb D a 166 167 #[] #[] _ _ w hD hOk ent32 ent33 ?_ ?_
  .exactλ_ n hn=>(lay32 pb (n*3) _ w (hDi.there n hn)).mono λe w' h=>⟨h.1,by rw[<-h.2];exact aj _ _⟩
  .exactλ_ n hn _ w2 D2 h2 _ _=>ap3 pb D2 n w2 h2 hn
 clear hD hOk;generalize D.lay a=r at*;go_enter Tryz.func88,Tryz.ntmps88;exact awl
def cut38(pb:Nat)(D:Dr)(a:Int)(w:World)(hD:Ak pb D w)(hOk:D.Ok):cpr 79 #[pz pb,iw a] w λe w'=>e=.returned (iw (D.cut a).1)/\Ak pb (D.cut a).2 w'/\Kept pb w w':=by
 have HC:Hid (1=1->cpr 91 #[pz pb,iw a,.func (.func 158) #[] #[],.func (.func 159) #[] #[]] w λe w'=>e=.returned (iw (D.cut a).1)/\Ak pb (D.cut a).2 w'/\Kept pb w w'):=λ_=>by
  obtain⟨vs,hDi⟩:=id hD;refine Zf pb D a 158 159 #[] #[] _ _ w hD hOk ent43 ent44 ?_ ?_
  .exactλ_ n hn=>(cut43 pb (n*3) _ w (hDi.there n hn)).mono λe w' h=>⟨h.1,by rw[<-h.2];exact aj _ _⟩
  .exactλ_ n hn _ w2 D2 h2 _ _=>cut44 pb D2 n w2 h2 hn
 clear hD hOk;generalize D.cut a=r at*;go_enter Tryz.func79,Tryz.ntmps79;exact awl
def axk(pb:Nat)(D:Dr)(a:Int)(w:World)(hD:Ak pb D w)(hOk:D.Ok):cpr 169 #[pz pb,iw a] w λe w'=>e=.returned (iw (D.sync a).1)/\Ak pb (D.sync a).2 w'/\Kept pb w w':=by
 have HC:Hid (1=1->cpr 91 #[pz pb,iw a,.func (.func 210) #[] #[],.func (.func 211) #[] #[]] w λe w'=>e=.returned (iw (D.sync a).1)/\Ak pb (D.sync a).2 w'/\Kept pb w w'):=λ_=>by
  obtain⟨vs,hDi⟩:=id hD;refine Zf pb D a 210 211 #[] #[] _ _ w hD hOk ent41 ent42 ?_ ?_
  .exactλ_ n hn=>(axj pb (n*3) _ w (hDi.there n hn)).mono λe w' h=>⟨h.1,by rw[<-h.2];exact aj _ _⟩
  .exactλ_ n hn _ w2 D2 h2 _ _=>axi pb D2 n w2 h2 hn
 clear hD hOk;generalize D.sync a=r at*;go_enter Tryz.func169,Tryz.ntmps169;exact awl
def aan{pb:Nat}{w w':World}{o:Obj}(hp:pb<w.heap.size)(h:Kept pb (w.alloc o) w'):Kept pb w w':=
 ((Kept.refl pb w).alloc (og hp) o).trans h
def axf(pb:Nat)(D:Dr)(a n:Int)(w:World)(hD:Ak pb D w)(hOk:D.Ok):cpr 38 #[pz pb,iw a,iw n] w λe w'=>e=.returned (iw (D.trim a n).1)/\Ak pb (D.trim a n).2 w'/\Kept pb w w':=by
 have hlt:=hD.lt;have HC:Hid (1=1->cpr 91 #[pz pb,iw a,.func (.func 92) #[] #[pz w.heap.size],.func (.func 94) #[] #[pz w.heap.size]] (w.alloc (.cells #[iw n] 3)) λe w'=>e=.returned (iw (D.trim a n).1)/\Ak pb (D.trim a n).2 w'/\Kept pb w w'):=λ_=>by
  have hD1:=hD.alloc (.cells #[iw n] 3);obtain⟨vs,hDi⟩:=id hD1;have hb:(w.alloc (.cells #[iw n] 3)).heap[w.heap.size]?=some (.cells #[iw n] 3 (0,0)):=ae w _;refine(Zf pb D a 92 94 _ _ _ _ _ hD1 hOk ent45 ent46 ?_ ?_).mono λe w' h=>⟨h.1,h.2.1,aan hlt h.2.2⟩
  .exactλ_ k hk=>(axe pb (k*3) w.heap.size _ n _ (hDi.there k hk) (qp hb)).mono λe w' h=>⟨h.1,by rw[<-h.2];exact aj _ _⟩
  .intro _ k hk hr w2 D2 h2 _ hw;have hn:0<=n:=by
    rcases Int.lt_or_le n 0 with h|h
    .simp only[h,if_true]at hr;split at hr<;>simp at hr
    .exact h
   obtain⟨m,rfl⟩:=xm hn;exact axd pb D2 k w.heap.size m w2 h2 hk (qp (hw _ _ (by omega) hb))
 clear hD hOk;generalize D.trim a n=r at*;go_enter Tryz.func38,Tryz.ntmps38;exact awl
def ar6(pb:Nat)(D:Dr)(a:Int)(s:Bi)(w:World)(hD:Ak pb D w)(hOk:D.Ok):cpr 168 #[pz pb,iw a,sd s] w λe w'=>e=.returned (iw (D.write a s).1)/\Ak pb (D.write a s).2 w'/\Kept pb w w':=by
 have hlt:=hD.lt;have HC:Hid (1=1->cpr 91 #[pz pb,iw a,.func (.func 207) #[] #[.pointer (some ⟨w.heap.size+1,0,none⟩),pz w.heap.size],.func (.func 209) #[] #[.pointer (some ⟨w.heap.size+1,0,none⟩)]] ((w.alloc (.cells #[pz pb] 24)).alloc (.cells #[sd s] 9)) λe w'=>e=.returned (iw (D.write a s).1)/\Ak pb (D.write a s).2 w'/\Kept pb w w'):=λ_=>by
  have hD1:=(hD.alloc (.cells #[pz pb] 24)).alloc (.cells #[sd s] 9);have hb:((w.alloc (.cells #[pz pb] 24)).alloc (.cells #[sd s] 9)).heap[w.heap.size]?=some (.cells #[pz pb] 24 (0,0)):=by rw[uj _ _ _ (by simp)];exact ae w _
  have hs:((w.alloc (.cells #[pz pb] 24)).alloc (.cells #[sd s] 9)).heap[w.heap.size+1]?=some (.cells #[sd s] 9 (0,0)):=by have:=ae (w.alloc (.cells #[pz pb] 24)) (.cells #[sd s] 9);simpa using this
  refine(Zf pb D a 207 209 _ _ _ _ _ hD1 hOk ent34 ent35 ?_ ?_).mono λe w' h=>⟨h.1,h.2.1,aan hlt (aan (by simp;omega) h.2.2)⟩
  .exactλ_ k hk=>ar5 pb D k (w.heap.size+1) w.heap.size s _ hD1 hk hOk (qp hs) (qp hb)
  .intro _ k hk hr w2 D2 h2 hp hw;have h1:=hOk.fits;have h3:=hOk.room1;have h4:=D.Q5 k hk;have h5:¬(D.room-D.used<s.length):=by intro h;rw[ah h]at hr;split at hr<;>simp at hr
   exact ar4 pb D2 k (w.heap.size+1) s w2 h2 hk (qp (hw _ _ (by omega) hs)) (by rw[hp];omega)
 clear hD hOk;generalize D.write a s=r at*;go_enter Tryz.func168,Tryz.ntmps168;exact awl
def Ru(pb:Nat)(kv:Value)(keep:List Int)(w:World):Prop:=
 ∃ao cap,kv=.slice ao keep.length cap/\(0<keep.length->∃kb ko,ao=some ⟨kb,ko,none⟩/\kb≠pb/\(∀i,i<keep.length->w.cell? ⟨kb,ko+i,none⟩=some (iw (keep.getD i 0)))/\(kb<pb\/∃cs fz,w.heap[kb]?=some (.cells cs 3 fz)))
def Ru.kept{pb:Nat}{kv:Value}{keep:List Int}{w w':World}(h:Ru pb kv keep w)(hk:Kept pb w w'):Ru pb kv keep w':=by
 obtain⟨ao,cap,rfl,h⟩:=h;refine⟨ao,cap,rfl,λh0=>?_⟩;obtain⟨kb,ko,rfl,hne,hc,hb⟩:=h h0;refine⟨kb,ko,rfl,hne,?_,?_⟩
 .intro i hi;rw[<-hc i hi];refine World.cell?_of_block ?_;rcases hb with hb|⟨cs,fz,hb⟩
  .exact hk.below.block kb hb
  .show w'.heap[kb]?=w.heap[kb]?;rw[hb,hk.other kb _ hb hne (by intro cs' fz' e;injection e with _ e _;exact absurd e (by decide))]
 .rcases hb with hb|⟨cs,fz,hb⟩
  .exact .inl hb
  .exact .inr ⟨cs,fz,hk.other kb _ hb hne (by intro cs' fz' e;injection e with _ e _;exact absurd e (by decide))⟩
def ak2(pb:Nat)(D:Dr)(a:Nat)(n:Int)(w:World)(hD:Ak pb D w)(ha:a<4)(hn:0<=n):
  cpr 28 #[.pointer (some ⟨pb,a*3,none⟩),iw n] w λe w'=>e=.returned (.tuple #[])/\Ak pb (D.set a ((D.p a).settle n.toNat)) w'/\Kept pb w w':=by
 obtain⟨m,rfl⟩:=xm hn;exact Zh pb D a m w hD ha
def Yd(D:Dr)(keep:List Int)(k:Nat):(D.Iz keep k).p k=D.p k:=by simp[Dr.Iz]
def Bd.same{pb:Nat}{D D':Dr}{vs:Nat->Value}{w:World}(h:Bd pb D vs w)(hp:∀i,i<4->D'.p i=D.p i)(h1:D'.room=D.room)(h2:D'.fuel=D.fuel)(h3:D'.down=D.down):Bd pb D' vs w:=by
 refine⟨?_,λi hi=>by rw[hp i hi];exact h.own i hi,h.apart⟩;have e:Qi D' vs=Qi D vs:=by unfold Qi;rw[hp 0 (by omega),hp 1 (by omega),hp 2 (by omega),hp 3 (by omega),h1,h2,h3]
 rw[e];exact h.blk
def Qe{pb:Nat}{D:Dr}{keep:List Int}{k:Nat}{n:Int}{w wr w1:World}(hl:n.toNat=D.left keep k)(h:Ak pb ((D.Iz keep k).set k (((D.Iz keep k).p k).settle n.toNat)) w1/\Kept pb wr w1)(hk:Kept pb w wr):Ak pb (D.Iz keep (k+1)) w1/\Kept pb w w1:=by rw[Yd,hl,Dr.af4]at h;exact⟨h.1,hk.trans h.2⟩
def azb(pb:Nat)(D:Dr)(kv:Value)(keep:List Int)(w:World)(hD:Ak pb D w)(hOk:D.Ok)(hK:Ru pb kv keep w)(hk0:∀i,-9223372036854775808<=keep.getD i 0/\keep.getD i 0<=9223372036854775807)(hkl:keep.length<=9223372036854775807):
  cpr 12 #[pz pb,kv] w λe w'=>e=.returned (.tuple #[])/\Ak pb (D.fall keep) w'/\Kept pb w w':=by
 have HS:Hid (Ak pb D w/\Ru pb kv keep w/\D.Ok):=⟨hD,hK,hOk⟩;obtain⟨ao,cap,rfl,hKx⟩:=hK;clear hKx;clear hD hOk;go_enter Tryz.func12,Tryz.ntmps12;go_wp2_with fail;go_loopw [9] (λi wr=>∃k:Nat,k<=4/\i=iw k/\Ak pb (D.Iz keep k) wr/\Kept pb w wr) (λi _=>4-(intOf i).toNat)
 case atStart=>exact⟨0,by omega,rfl,by rw[Dr.af2];exact HS.out.1,Kept.refl _ _⟩
 case round=>
  obtain⟨k,hk,rfl,hwr,hkept⟩:=hrel;have HW:Hid (Ak pb (D.Iz keep k) wr/\Kept pb w wr/\Ru pb (.slice ao keep.length cap) keep wr):=⟨hwr,hkept,HS.out.2.1.kept hkept⟩;clear hwr hkept;by_cases hlt:k<4
  .obtain⟨vs,hDi⟩:=HW.out.1;have hr:=hDi.row k hlt;have hsu:=hDi.sure k hlt;have hfz:=hDi.free;obtain⟨ar,cr,hv,hcr⟩:=Eu (hDi.own k hlt);rw[hv]at hr;clear hv hDi;rw[Yd]at hr hsu hcr;have hs1:=HS.out.2.2.sure k;have hs2:=D.Q5 k hlt;have hs3:=HS.out.2.2.fits;have hs4:=HS.out.2.2.room1;have hln:(D.p k).l.length<=1048576:=by omega
   have hle:∀x,keep.getD k 0=x->D.left keep k=(D.p k).sure+(min (max x 0) (((D.p k).l.length:Int)-(D.p k).sure)).toNat:=λx hx=>by rw[Dr.left,hx]
   have HC:Hid (1=1->∀(n:Int) (w0:World),Bw wr w0->0<=n->cpr 28 #[.pointer (some ⟨pb,k*3,none⟩),iw n] w0 λe w'=>e=.returned (.tuple #[])/\Ak pb ((D.Iz keep k).set k (((D.Iz keep k).p k).settle n.toNat)) w'/\Kept pb w0 w'):=λ_ n w0 hb hn=>ak2 pb _ k n w0 (HW.out.1.on hb) hlt hn;clear hs2 hs3 hs4;generalize (D.p k).l.length=len at*;generalize (D.p k).sure=su at*;by_cases hkk:k<keep.length
   .obtain⟨_,_,hsl,hKb⟩:=HW.out.2.2;injection hsl with e1 _ e3;subst e1;subst e3;obtain⟨kb,ko,hao,_,hcell,_⟩:=hKb (by omega);subst hao;have hck:=hcell k hkk;have hxb:=hk0 k;have hle:=hle _ rfl;clear hKb hcell;generalize keep.getD k 0=x at*;rcases(by omega:x<0\/(0<=x/\x<=(len:Int)-su)\/(0<=x/\(len:Int)-su<x))with hx|⟨hx0,hx1⟩|⟨hx0,hx1⟩
    .have HL:Hid (D.left keep k=su):=by show _=_;rw[hle];omega
     exact avx
    .have HL:Hid (D.left keep k=su+x.toNat):=by show _=_;rw[hle];omega
     exact avx
    .have HL:Hid (D.left keep k=len):=by show _=_;rw[hle];omega
     exact avx
   .have hx:keep.getD k 0=0:=by simp[List.getD,tu (by omega:keep.length<=k)]
    have HL:Hid (D.left keep k=su):=by show _=_;rw[hle 0 hx];omega
    clear hle hx;go_wp2_with (go_at_call 28;refine(HC.out (by trivial) _ _ (aj _ _) (by omega)).mono ?_;rintro e w1 ⟨rfl,h1,h2⟩;have H1:Hid _:=jq h1 h2;clear h1 h2);go_roundw
    case rel=>exact⟨k+1,by omega,by go_num,Qe (by rw[HL.out];omega) H1.out HW.out.2.1⟩
    case measure=>simp[intOf];omega
  .have HE:Hid (k=4):=(by omega:k=4);obtain⟨vs,hDi⟩:=HW.out.1;have HI:Hid (Bd pb (D.Iz keep k) vs wr):=hDi;have hdn:=hDi.down;have hfu:=hDi.fuel;have hfz:=hDi.free;have hfu2:=(hDi.U1 false).fuel;have hfz2:=(hDi.U1 false).free;clear hDi;go_wp2;go_end0
   have hR:=(HI.out.U1 false).Nl (-1);rw[HE.out]at hR;exact⟨rfl,⟨vs,hR.same (λi hi=>by simp[Dr.fall,Dr.Iz,hi]) rfl rfl rfl⟩,(HW.out.2.1.set _ _).set _ _⟩
def atj{D:Dr}{n:Nat}(hd:D.down=false)(hn:n<4)(ht:(D.p n).there=true):D.read n=((D.p n).l,0):=by rw[Dr.read,hd,ag (by decide),ag (by omega),Int.toNat_natCast,ah ht]
