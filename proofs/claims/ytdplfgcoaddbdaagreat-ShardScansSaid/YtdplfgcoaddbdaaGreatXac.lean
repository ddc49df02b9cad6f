import Derived.Laws.BitsAllLaws
import Derived.Test.YtdplfgcoaddbdaaGreatProg
import Derived.Deep.RegionLaw
import Derived.Laws.BytesArg
import Derived.Shelf.Abstract
import Derived.Test.YtdplfgcoaddbdaaGreatXaa
set_option maxHeartbeats 4000000
set_option maxRecDepth 100000
set_option linter.unusedVariables false
set_option linter.unusedSimpArgs false
namespace Go.Proofs.YtdplfgcoaddbdaaGreat.Lgs
def turn1(x:Nat):Nat:=if x%2=1 then x/2 ^^^ 2197175160 else x/2
def turns:Nat->Nat->Nat
 |0,x=>x
 |k+1,x=>turns k (turn1 x)
def turnB(x:Nat)(c:UInt8):Nat:=turns 8 (x ^^^ c.toNat)
def crcF(x:Nat)(l:List UInt8):Nat:=l.foldl turnB x
def crc(l:List UInt8):Nat:=crcF 4294967295 l ^^^ 4294967295
theorem turn1_lt{x:Nat}(h:x<4294967296):turn1 x<4294967296:=by
 unfold turn1;split
 ·exact Nat.xor_lt_two_pow (n:=32) (by omega) (by omega)
 ·omega
theorem turns_lt(k:Nat):∀{x:Nat},x<4294967296->turns k x<4294967296:=by
 induction k with
 |zero=>intro x h;exact h
 |succ k ih=>intro x h;exact ih (turn1_lt h)
theorem turns_succ(k:Nat):∀x,turns (k+1) x=turn1 (turns k x):=by
 induction k with
 |zero=>intro x;rfl
 |succ k ih=>intro x;rw[turns,ih,turns]
theorem xorB_lt{x:Nat}(c:UInt8)(h:x<4294967296):x ^^^ c.toNat<4294967296:=Nat.xor_lt_two_pow (n:=32) (by omega) (by have:=c.toNat_lt;omega)
theorem turnB_lt{x:Nat}(c:UInt8)(h:x<4294967296):turnB x c<4294967296:=turns_lt 8 (xorB_lt c h)
theorem crcF_lt(l:List UInt8):∀{x:Nat},x<4294967296->crcF x l<4294967296:=by
 induction l with
 |nil=>intro x h;exact h
 |cons c r ih=>intro x h;exact ih (turnB_lt c h)
theorem crc_lt(l:List UInt8):crc l<4294967296:=Nat.xor_lt_two_pow (n:=32) (by have:=crcF_lt l (x:=4294967295) (by omega);omega) (by omega)
theorem crcF_snoc(x:Nat)(l:List UInt8)(c:UInt8):crcF x (l++[c])=turnB (crcF x l) c:=by simp[crcF]
end Go.Proofs.YtdplfgcoaddbdaaGreat.Lgs
namespace Go.Proofs.YtdplfgcoaddbdaaGreat.Drm
structure Pt where
 there:Bool
 l:List UInt8
 sure:Nat
structure Dr where
 p:Nat->Pt
 room:Int
 fuel:Int
 down:Bool
def Pt.none:Pt:=⟨false,[],0⟩
def Pt.settle(q:Pt)(n:Nat):Pt:=⟨q.there,q.l.take n,min n q.l.length⟩
def Dr.set(D:Dr)(a:Nat)(q:Pt):Dr:={D with p:=fun i=>if i=a then q else D.p i}
def Dr.used(D:Dr):Nat:=(D.p 0).l.length+(D.p 1).l.length+(D.p 2).l.length+(D.p 3).l.length
def Dr.burn(D:Dr):Dr:={D with fuel:=if 0<D.fuel then D.fuel-1 else D.fuel}
def Dr.new(room:Int):Dr:=⟨fun _=>Pt.none,room,-1,false⟩
def Dr.step(D:Dr)(a:Int)(refuse:Pt->Int)(act:Pt->Pt):Int×Dr:=
 if D.down=true then(11,D)
 else if¬(0<=a/\a<4)then(1,D)
 else if refuse (D.p a.toNat)≠0 then(refuse (D.p a.toNat),D)
 else if D.fuel=0 then(11,{D with down:=true})
 else(0,D.burn.set a.toNat (act (D.p a.toNat)))
def missing(q:Pt):Int:=if q.there=true then 0 else 12
def Dr.lay(D:Dr)(a:Int):Int×Dr:=D.step a (fun q=>if q.there=true then 1 else 0) (fun q=>{q with there:=true})
def Dr.write(D:Dr)(a:Int)(s:List UInt8):Int×Dr:=D.step a (fun q=>if q.there=true then(if D.room-D.used<s.length then 10 else 0)else 12) (fun q=>{q with l:=q.l++s})
def Dr.sync(D:Dr)(a:Int):Int×Dr:=D.step a missing (fun q=>q.settle q.l.length)
def Dr.has(D:Dr)(a:Int):Bool:=decide (0<=a)&&decide (a<4)&&(D.p a.toNat).there
structure Dr.Ok(D:Dr):Prop where
 room0:0<=D.room
 room1:D.room<=1048576
 fits:(D.used:Int)<=D.room
 sure:∀i,(D.p i).sure<=(D.p i).l.length
 gone:∀i,(D.p i).there=false->(D.p i).l=[]
 fuel0: -9223372036854775808<=D.fuel
 fuel1:D.fuel<=9223372036854775807
theorem Dr.set_same(D:Dr)(a:Nat)(q:Pt):(D.set a q).p a=q:=by simp[Dr.set]
theorem Dr.set_other(D:Dr)(a i:Nat)(q:Pt)(h:i≠a):(D.set a q).p i=D.p i:=by simp[Dr.set,h]
theorem Dr.used_set(D:Dr)(a:Nat)(q:Pt)(ha:a<4):(D.set a q).used+(D.p a).l.length=D.used+q.l.length:=by rcases(by omega:a=0\/a=1\/a=2\/a=3)with rfl|rfl|rfl|rfl<;>simp[Dr.used,Dr.set]<;>omega
theorem Dr.len_le_used(D:Dr)(a:Nat)(ha:a<4):(D.p a).l.length<=D.used:=by rcases(by omega:a=0\/a=1\/a=2\/a=3)with rfl|rfl|rfl|rfl<;>simp only[Dr.used]<;>omega
theorem Dr.Ok.new(room:Int)(h0:0<=room)(h1:room<=1048576):(Dr.new room).Ok:=
 ⟨h0,h1,by simp[Dr.new,Dr.used,Pt.none];exact h0,fun _=>by simp[Dr.new,Pt.none],fun _ _=>rfl,by simp[Dr.new],by simp[Dr.new]⟩
theorem Pt.settle_len(q:Pt)(n:Nat):(q.settle n).l.length=min n q.l.length:=by simp[Pt.settle]
theorem Dr.Ok.burn{D:Dr}(h:D.Ok)(a:Nat)(ha:a<4)(q:Pt)(hs:q.sure<=q.l.length)(hg:q.there=false->q.l=[])(hf:((D.used+q.l.length:Nat):Int)<=D.room+(D.p a).l.length):(D.burn.set a q).Ok:=by
 have hu:=Dr.used_set D.burn a q ha;have e1:D.burn.used=D.used:=rfl;have e2:D.burn.p=D.p:=rfl;rw[e1,e2]at hu;refine⟨h.room0,h.room1,?_,?_,?_,?_,?_⟩
 ·show((D.burn.set a q).used:Int)<=D.room;omega
 ·intro i;by_cases hi:i=a
  ·subst hi;rw[Dr.set_same];exact hs
  ·rw[Dr.set_other _ _ _ _ hi];exact h.sure i
 ·intro i;by_cases hi:i=a
  ·subst hi;rw[Dr.set_same];exact hg
  ·rw[Dr.set_other _ _ _ _ hi];exact h.gone i
 ·show-9223372036854775808<=(if 0<D.fuel then D.fuel-1 else D.fuel);have:=h.fuel0;split<;>omega
 ·show(if 0<D.fuel then D.fuel-1 else D.fuel)<=9223372036854775807;have:=h.fuel1;split<;>omega
theorem Dr.Ok.down{D:Dr}(h:D.Ok)(b:Bool):({D with down:=b}:Dr).Ok:=⟨h.room0,h.room1,h.fits,h.sure,h.gone,h.fuel0,h.fuel1⟩
theorem Dr.Ok.step{D:Dr}(h:D.Ok)(a:Int)(refuse:Pt->Int)(act:Pt->Pt)
  (H:0<=a->a<4->refuse (D.p a.toNat)=0->(act (D.p a.toNat)).sure<=(act (D.p a.toNat)).l.length/\((act (D.p a.toNat)).there=false->(act (D.p a.toNat)).l=[])/\((D.used+(act (D.p a.toNat)).l.length:Nat):Int)<=D.room+(D.p a.toNat).l.length):(D.step a refuse act).2.Ok:=by
 unfold Dr.step;split
 ·exact h
 split
 ·exact h
 ·next hn=>
  have hn:=Decidable.not_not.1 hn;split
  ·exact h
  ·next hr=>
   have hr:=Decidable.not_not.1 hr;split
   ·exact h.down _
   ·obtain⟨h1,h2,h3⟩:=H hn.1 hn.2 hr;exact h.burn _ (by omega) _ h1 h2 h3
theorem Dr.Ok.lay{D:Dr}(h:D.Ok)(a:Int):(D.lay a).2.Ok:=by refine h.step a _ _ fun _ _ _=>⟨h.sure _,by simp,?_⟩;have:=h.fits;simp only[Int.natCast_add];omega
theorem Dr.Ok.settled{D:Dr}(h:D.Ok)(q:Pt)(n:Nat)(hq:q.there=false->q.l=[]):(q.settle n).sure<=(q.settle n).l.length/\((q.settle n).there=false->(q.settle n).l=[])/\((D.used+(q.settle n).l.length:Nat):Int)<=D.room+q.l.length:=by
 refine⟨by rw[Pt.settle_len];simp[Pt.settle],fun hh=>?_,?_⟩
 ·have:q.l=[]:=hq hh;simp[Pt.settle,this]
 ·have:=h.fits;rw[Pt.settle_len];omega
theorem Dr.Ok.sync{D:Dr}(h:D.Ok)(a:Int):(D.sync a).2.Ok:=
 h.step a _ _ fun _ _ _=>h.settled _ _ (h.gone _)
theorem Dr.Ok.write{D:Dr}(h:D.Ok)(a:Int)(s:List UInt8):(D.write a s).2.Ok:=by
 refine h.step a _ _ fun _ _ hr=>?_;have ht:(D.p a.toNat).there=true:=by
  cases ht:(D.p a.toNat).there with
  |true=>rfl
  |false=>simp[ht]at hr
 refine⟨?_,?_,?_⟩
 ·have:=h.sure a.toNat;simp only[List.length_append];omega
 ·intro hh;rw[ht]at hh;exact absurd hh (by decide)
 ·simp only[ht,if_true]at hr;have hr:¬(D.room-D.used<s.length):=fun hh=>by rw[if_pos hh]at hr;exact absurd hr (by decide)
  simp only[List.length_append,Int.natCast_add];omega
open Go.RowKit
theorem cl_take(l:List UInt8)(k:Nat):(cl l).take k=cl (l.take k):=by simp[cl,List.map_take]
theorem info5:(Tryz.prog.info? 5).map (fun i=>(i.zero,i.size,i.bytes))=some (some (ub 0),1,1):=by kernel_rfl
def dcells(D:Dr)(vs:Nat->Value):Array Value:=
 #[.bool (D.p 0).there,vs 0,iw (D.p 0).sure,.bool (D.p 1).there,vs 1,iw (D.p 1).sure,.bool (D.p 2).there,vs 2,iw (D.p 2).sure,.bool (D.p 3).there,vs 3,iw (D.p 3).sure,iw D.room,iw D.fuel,.bool D.down]
structure DrumIn(pb:Nat)(D:Dr)(vs:Nat->Value)(w:World):Prop where
 blk:w.heap[pb]?=some (.cells (dcells D vs) 100 (0,0))
 own:∀i,i<4->w.ownsRow (pb+1) 5 1 (vs i) (D.p i).l.length (cl (D.p i).l)
 apart:∀i j,i<4->j<4->i≠j->(vs i).ownBlock=none\/(vs i).ownBlock≠(vs j).ownBlock
def DrumAt(pb:Nat)(D:Dr)(w:World):Prop:=∃vs,DrumIn pb D vs w
structure Kept(pb:Nat)(w w':World):Prop where
 below:Below pb w w'
 other:∀k o,w.heap[k]?=some o->k≠pb->(∀cs fz,o≠ .cells cs 5 fz)->w'.heap[k]?=some o
theorem Kept.refl(pb:Nat)(w:World):Kept pb w w:=⟨Below.refl _ _,fun _ _ h _ _=>h⟩
theorem Kept.trans{pb:Nat}{a b c:World}(h:Kept pb a b)(k:Kept pb b c):Kept pb a c:=
 ⟨h.below.trans k.below,fun i o ho hne h5=>k.other i o (h.other i o ho hne h5) hne h5⟩
theorem Kept.alloc{pb:Nat}{w0 w:World}(h:Kept pb w0 w)(hp:pb<=w.heap.size)(o:Obj):Kept pb w0 (w.alloc o):=
 ⟨h.below.alloc hp o,fun k o' ho hne h5=>by have:=h.other k o' ho hne h5;rw[Below.heap_alloc w o k (lt_of_block this),this]⟩
theorem Kept.drew{pb:Nat}{w0 w:World}(h:Kept pb w0 w):Kept pb w0 w.drew:=⟨h.below.drew,h.other⟩
theorem Kept.set{pb:Nat}{w0 w:World}(h:Kept pb w0 w)(o:Nat)(v:Value):Kept pb w0 (w.setCell ⟨pb,o,none⟩ v):=
 ⟨h.below.setCell (Nat.le_refl _) _,fun k o' ho hne h5=>by rw[Below.heap_setCell _ _ _ _ hne];exact h.other k o' ho hne h5⟩
theorem own_shape{w:World}{base:Nat}{v:Value}{n:Nat}{xs:List Value}(h:w.ownsRow base 5 1 v n xs):∃ao cp,v=.slice ao n cp/\n<=cp:=by
 rcases h.2 with⟨rfl,rfl⟩|⟨g,cap,cur,rfl,_,_,h,_⟩
 ·exact⟨_,_,rfl,Nat.le_refl _⟩
 ·exact⟨_,_,rfl,h⟩
theorem blk_setCell{w:World}{b k:Nat}{cs:Array Value}{t:TypeId}{u:Value}(h:w.heap[b]?=some (.cells cs t (0,0))):(w.setCell ⟨b,k,none⟩ u).heap[b]?=some (.cells (cs.setIfInBounds k u) t (0,0)):=by
 have hlt:=lt_of_block h;have h':w.heap[b]=.cells cs t (0,0):=by simpa[Array.getElem?_eq_getElem hlt]using h
 show(w.heap.modify b _)[b]?=_;rw[Array.getElem?_eq_getElem (by simpa using hlt),Array.getElem_modify_self,h'];rfl
theorem blk_cell{w:World}{b k:Nat}{cs:Array Value}{t:TypeId}{u:Value}(h:w.heap[b]?=some (.cells cs t (0,0)))(hk:cs[k]?=some u):w.cell? ⟨b,k,none⟩=some u:=by simp[World.cell?,h,hk]
theorem blk_free{w:World}{b k:Nat}{cs:Array Value}{t:TypeId}(h:w.heap[b]?=some (.cells cs t (0,0))):w.frozen? ⟨b,k,none⟩=false:=by simp[World.frozen?,h]
section
variable {pb:Nat}{D:Dr}{vs:Nat->Value}{w:World}
theorem four{a:Nat}(h:a<4):a=0\/a=1\/a=2\/a=3:=by omega
theorem DrumIn.lt(h:DrumIn pb D vs w):pb<w.heap.size:=lt_of_block h.blk
theorem DrumIn.free(h:DrumIn pb D vs w)(k:Nat):w.frozen? ⟨pb,k,none⟩=false:=blk_free h.blk
theorem DrumIn.there(h:DrumIn pb D vs w)(a:Nat)(ha:a<4):w.cell? ⟨pb,a*3,none⟩=some (.bool (D.p a).there):=by refine blk_cell h.blk ?_;rcases four ha with rfl|rfl|rfl|rfl<;>rfl
theorem DrumIn.row(h:DrumIn pb D vs w)(a:Nat)(ha:a<4):w.cell? ⟨pb,a*3+1,none⟩=some (vs a):=by refine blk_cell h.blk ?_;rcases four ha with rfl|rfl|rfl|rfl<;>rfl
theorem DrumIn.sure(h:DrumIn pb D vs w)(a:Nat)(ha:a<4):w.cell? ⟨pb,a*3+2,none⟩=some (iw (D.p a).sure):=by refine blk_cell h.blk ?_;rcases four ha with rfl|rfl|rfl|rfl<;>rfl
theorem DrumIn.room(h:DrumIn pb D vs w):w.cell? ⟨pb,12,none⟩=some (iw D.room):=blk_cell h.blk rfl
theorem DrumIn.fuel(h:DrumIn pb D vs w):w.cell? ⟨pb,13,none⟩=some (iw D.fuel):=blk_cell h.blk rfl
theorem DrumIn.down(h:DrumIn pb D vs w):w.cell? ⟨pb,14,none⟩=some (.bool D.down):=blk_cell h.blk rfl
theorem DrumIn.not_own(h:DrumIn pb D vs w)(i:Nat)(hi:i<4):(vs i).ownBlock≠some pb:=by intro e;have:=(h.own i hi).lt pb e;omega
theorem DrumIn.turn(h:DrumIn pb D vs w)(k:Nat)(u:Value)(D':Dr)(hc:(dcells D vs).setIfInBounds k u=dcells D' vs)(hl:∀i,i<4->(D'.p i).l=(D.p i).l):DrumIn pb D' vs (w.setCell ⟨pb,k,none⟩ u):=
 ⟨by rw[blk_setCell h.blk,hc],fun i hi=>by rw[hl i hi];exact ownsRow_setCell_other (h.own i hi) (h.not_own i hi) _,h.apart⟩
theorem DrumIn.set_there(h:DrumIn pb D vs w)(a:Nat)(ha:a<4)(b:Bool):DrumIn pb (D.set a {D.p a with there:=b}) vs (w.setCell ⟨pb,a*3,none⟩ (.bool b)):=by
 refine h.turn _ _ _ ?_ ?_
 ·rcases four ha with rfl|rfl|rfl|rfl<;>rfl
 ·intro i _;by_cases hi:i=a
  ·subst hi;rw[Dr.set_same]
  ·rw[Dr.set_other _ _ _ _ hi]
theorem DrumIn.set_sure(h:DrumIn pb D vs w)(a:Nat)(ha:a<4)(n:Nat):DrumIn pb (D.set a {D.p a with sure:=n}) vs (w.setCell ⟨pb,a*3+2,none⟩ (iw n)):=by
 refine h.turn _ _ _ ?_ ?_
 ·rcases four ha with rfl|rfl|rfl|rfl<;>rfl
 ·intro i _;by_cases hi:i=a
  ·subst hi;rw[Dr.set_same]
  ·rw[Dr.set_other _ _ _ _ hi]
theorem DrumIn.set_fuel(h:DrumIn pb D vs w)(n:Int):DrumIn pb {D with fuel:=n} vs (w.setCell ⟨pb,13,none⟩ (iw n)):=
 h.turn _ _ _ rfl fun _ _=>rfl
theorem DrumIn.set_down(h:DrumIn pb D vs w)(b:Bool):DrumIn pb {D with down:=b} vs (w.setCell ⟨pb,14,none⟩ (.bool b)):=
 h.turn _ _ _ rfl fun _ _=>rfl
theorem DrumIn.set_row(h:DrumIn pb D vs w)(a:Nat)(ha:a<4){w1:World}{v':Value}{l':List UInt8}(hg:w.grownBy w1 (vs a).ownBlock)(ho:w1.ownsRow (pb+1) 5 1 v' l'.length (cl l'))
  (hn:∀k,v'.ownBlock=some k->(vs a).ownBlock=some k\/w.heap.size<=k):∃vs',vs' a=v'/\DrumIn pb (D.set a {D.p a with l:=l'}) vs' (w1.setCell ⟨pb,a*3+1,none⟩ v')/\Kept pb w (w1.setCell ⟨pb,a*3+1,none⟩ v'):=by
 have hlt:=h.lt;have hne:=h.not_own a ha;have hb1:w1.heap[pb]?=some (.cells (dcells D vs) 100 (0,0)):=by rw[hg.block pb hlt (fun e=>hne e.symm),h.blk]
 have hv':v'.ownBlock≠some pb:=by intro e;have:=ho.lt pb e;omega
 refine⟨fun i=>if i=a then v' else vs i,by simp,⟨?_,?_,?_⟩,⟨?_,?_⟩⟩
 ·rw[blk_setCell hb1];congr 2;rcases four ha with rfl|rfl|rfl|rfl<;>rfl
 ·intro i hi;by_cases hia:i=a
  ·subst hia;rw[Dr.set_same];simp only[if_true];exact ownsRow_setCell_other ho hv' _
  ·rw[Dr.set_other _ _ _ _ hia];simp only[if_neg hia];exact ownsRow_setCell_other ((h.own i hi).kept hg (h.apart i a hi ha hia)) (h.not_own i hi) _
 ·intro i j hi hj hij;have key:∀i,i<4->i≠a->(vs i).ownBlock=none\/(vs i).ownBlock≠v'.ownBlock:=by
   intro i hi hia;cases hvi:(vs i).ownBlock with
   |none=>exact .inl rfl
   |some k=>
    refine .inr fun e=>?_;rcases hn k e.symm with h2|h2
    ·rcases h.apart i a hi ha hia with h3|h3
     ·rw[hvi]at h3;cases h3
     ·exact h3 (hvi.trans h2.symm)
    ·have:=((h.own i hi).lt k hvi).2;omega
  by_cases hia:i=a
  ·subst hia;have hja:j≠i:=fun e=>hij e.symm;simp only[if_true,if_neg hja];rcases key j hj hja with h2|h2
   ·cases hv2:v'.ownBlock with
    |none=>exact .inl rfl
    |some k=>exact .inr (by rw[h2];simp)
   ·exact .inr (fun e=>h2 e.symm)
  ·simp only[if_neg hia];by_cases hja:j=a
   ·simp only[if_pos hja];exact key i hi hia
   ·simp only[if_neg hja];exact h.apart i j hi hj hij
 ·have hb:Below pb w w1:=(Below.refl pb w).grown hg (by omega) (fun k hk=>by have:=(h.own a ha).lt k hk;omega);exact hb.setCell (Nat.le_refl _) _
 ·intro k o hk hkp h5;rw[Below.heap_setCell _ _ _ _ hkp,hg.block k (lt_of_block hk) ?_,hk];intro e;rcases(h.own a ha).2 with⟨hv,_⟩|⟨g,cap,cur,hv,_,hgg,_⟩
  ·rw[hv]at e;simp[Value.ownBlock]at e
  ·rw[hv]at e;simp only[Value.ownBlock,Option.some.injEq]at e;subst e;rw[hgg]at hk;injection hk with hk;exact h5 _ _ hk.symm
theorem DrumIn.on{w':World}(h:DrumIn pb D vs w)(hb:Below w.heap.size w w'):DrumIn pb D vs w':=
 ⟨by rw[hb.block pb h.lt,h.blk],fun i hi=>(h.own i hi).kept (row:=none) ⟨hb.os,hb.tape,hb.output,hb.size,fun k hk _=>hb.block k hk⟩ (by cases(vs i).ownBlock<;>simp),h.apart⟩
theorem DrumAt.on{w':World}(h:DrumAt pb D w)(hb:Below w.heap.size w w'):DrumAt pb D w':=by obtain⟨vs,h⟩:=h;exact⟨vs,h.on hb⟩
theorem DrumAt.drew(h:DrumAt pb D w):DrumAt pb D w.drew:=h.on (Below.refl _ _).drew
theorem DrumAt.alloc(h:DrumAt pb D w)(o:Obj):DrumAt pb D (w.alloc o):=h.on ((Below.refl _ _).alloc (Nat.le_refl _) o)
theorem DrumAt.lt(h:DrumAt pb D w):pb<w.heap.size:=by obtain⟨vs,h⟩:=h;exact h.lt
theorem DrumAt.store(h:DrumAt pb D w){b:Nat}{cs:Array Value}{t:TypeId}{fz:Nat×Nat}(hb:w.heap[b]?=some (.cells cs t fz))(hne:b≠pb)(ht:t≠5)(k:Nat)(u:Value):DrumAt pb D (w.setCell ⟨b,k,none⟩ u):=by
 obtain⟨vs,h⟩:=h;refine⟨vs,by rw[Below.heap_setCell _ _ _ _ (fun e=>hne e.symm),h.blk],fun i hi=>ownsRow_setCell_other (h.own i hi) ?_ _,h.apart⟩;intro e;rcases(h.own i hi).2 with⟨hv,_⟩|⟨g,cap,cur,hv,_,hgg,_⟩
 ·rw[hv]at e;simp[Value.ownBlock]at e
 ·rw[hv]at e;simp only[Value.ownBlock,Option.some.injEq]at e;subst e;rw[hgg]at hb;injection hb with hb;injection hb with _ h2 _;exact ht h2.symm
end
theorem own_take{w:World}{base:Nat}{v:Value}{l:List UInt8}(h:w.ownsRow base 5 1 v l.length (cl l))(k:Nat)(hk:k<=l.length){ao:Option Addr}{cp:Nat}(hv:v=.slice ao l.length cp):w.ownsRow base 5 1 (.slice ao k cp) (l.take k).length (cl (l.take k)):=by
 have hl:(l.take k).length=k:=by simp;omega
 rcases h.2 with⟨hv2,h0⟩|⟨g,cap,cur,hv2,hb,hg,h1,h2,h3,h4⟩
 ·rw[hv]at hv2;injection hv2 with e1 e2 e3;subst e1 e3;have hk0:k=0:=by omega
  subst hk0;exact⟨by simp[cl],.inl ⟨rfl,by simp⟩⟩
 ·rw[hv]at hv2;injection hv2 with e1 e2 e3;subst e1 e3;refine⟨by rw[cl_length,hl];omega,.inr ⟨g,_,cur,by rw[hl],hb,hg,by omega,h2,h3,?_⟩⟩;rw[<-cl_take,<-h4,hl,List.take_take];congr 1;omega
theorem down13(pb:Nat)(b:Bool)(w:World)(hc:ce w pb 14 (.bool b)):Calls Tryz.prog 35 #[pz pb] w fun e w'=>e=.returned (.bool b)/\w=w':=by go_enter Tryz.func35,Tryz.ntmps35;go_wp2;go_ret;exact⟨rfl,rfl⟩
theorem num29_yes(a:Int)(w:World)(h0:0<=a)(h1:a<4):Calls Tryz.prog 176 #[iw a] w fun e w'=>e=.returned (.bool true)/\w=w':=by go_enter Tryz.func176,Tryz.ntmps176;go_wp2;go_ret;exact⟨rfl,rfl⟩
theorem num29_no(a:Int)(w:World)(h:¬(0<=a/\a<4)):Calls Tryz.prog 176 #[iw a] w fun e w'=>e=.returned (.bool false)/\w=w':=by
 by_cases h0:0<=a
 ·have h1:decide (a<4)=false:=by simp;omega
  clear h;go_enter Tryz.func176,Tryz.ntmps176;go_wp2;go_ret;exact⟨rfl,rfl⟩
 ·have h1:a<0:=by omega
  clear h h0;go_enter Tryz.func176,Tryz.ntmps176;go_wp2;go_ret;exact⟨rfl,rfl⟩
theorem missing30(pb o:Nat)(b:Bool)(w:World)(hc:ce w pb o (.bool b)):Calls Tryz.prog 120 #[.pointer (some ⟨pb,o,none⟩)] w fun e w'=>e=.returned (iw (if b=true then 0 else 12))/\w=w':=by
 cases b
 all_goals
  go_enter Tryz.func120,Tryz.ntmps120;go_wp2;go_ret;exact⟨rfl,rfl⟩
theorem has15(pb:Nat)(D:Dr)(a:Int)(w:World)(hD:DrumAt pb D w):Calls Tryz.prog 111 #[pz pb,iw a] w fun e w'=>e=.returned (.bool (D.has a))/\w=w':=by
 obtain⟨vs,hD⟩:=hD;by_cases h:0<=a/\a<4
 ·obtain⟨h0,h1⟩:=h;obtain⟨n,rfl⟩:=Int.eq_ofNat_of_zero_le h0;have hc:=hD.there n (by omega);have he:D.has n=(D.p n).there:=by simp[Dr.has];omega
  rw[he];generalize (D.p n).there=b at*;clear he hD;go_enter Tryz.func111,Tryz.ntmps111;go_wp2_with (go_at_call 176;refine(num29_yes _ _ h0 h1).mono ?_;rintro e w1 ⟨rfl,rfl⟩);go_ret;exact⟨rfl,rfl⟩
 ·have he:D.has a=false:=by simp[Dr.has];omega
  rw[he];clear he hD;go_enter Tryz.func111,Tryz.ntmps111;go_wp2_with (go_at_call 176;refine(num29_no _ _ h).mono ?_;rintro e w1 ⟨rfl,rfl⟩);go_ret;exact⟨rfl,rfl⟩
theorem i64_add(a b:Nat)(h:a+b<9223372036854775808):IntKind.i64.wrap ((a:Int)+b)=((a+b:Nat):Int):=by simp[IntKind.wrap,IntKind.bits,IntKind.signed];omega
def usedTo(D:Dr)(k:Nat):Nat:=((List.range k).map fun i=>(D.p i).l.length).sum
theorem usedTo_succ(D:Dr)(k:Nat):usedTo D (k+1)=usedTo D k+(D.p k).l.length:=by simp[usedTo,List.range_succ]
theorem usedTo_four(D:Dr):usedTo D 4=D.used:=by simp[usedTo,Dr.used,List.range_succ];omega
theorem usedTo_le(D:Dr)(k:Nat)(h:k<=4):usedTo D k<=D.used:=by rw[<-usedTo_four];rcases(by omega:k=0\/k=1\/k=2\/k=3\/k=4)with rfl|rfl|rfl|rfl|rfl<;>simp[usedTo,List.range_succ]<;>omega
theorem used14(pb:Nat)(D:Dr)(w:World)(hD:DrumAt pb D w)(hu:D.used<=1048576):Calls Tryz.prog 220 #[pz pb] w fun e w'=>e=.returned (iw D.used)/\w=w':=by
 obtain⟨vs,hD⟩:=hD;have HD:Hid (DrumIn pb D vs w):=hD;clear hD;go_enter Tryz.func220,Tryz.ntmps220;go_wp2;go_loop [3,7] (fun u i=>∃k:Nat,k<=4/\i=iw k/\u=iw (usedTo D k)) (fun _ i=>4-(intOf i).toNat)
 case atStart=>exact⟨0,by omega,rfl,rfl⟩
 case round=>
  obtain⟨k,hk,rfl,rfl⟩:=hrel;have h1:=usedTo_le D k hk;by_cases hlt:k<4
  ·have h2:=usedTo_le D (k+1) hlt;have HS:Hid (usedTo D (k+1)=usedTo D k+(D.p k).l.length):=usedTo_succ D k;have h3:usedTo D k+(D.p k).l.length<=1048576:=by have:=HS.out;omega
   have hc:=HD.out.row k hlt;obtain⟨ao,cp,hv,_⟩:=own_shape (HD.out.own k hlt);rw[hv]at hc;clear hv;generalize (D.p k).l.length=n at*;generalize usedTo D k=u at*;have hadd:=i64_add u n (by omega);go_wp2;go_round
   case rel=>exact⟨k+1,by omega,by go_num,by rw[HS.out];go_num⟩
   case measure=>simp[intOf];omega
  ·have HE:Hid (k=4):=(by omega:k=4);go_wp2;go_ret;exact⟨by rw[HE.out,usedTo_four];rfl,rfl⟩
theorem new8(r:Int)(w:World)(h0:0<=r)(h1:r<=1048576):Calls Tryz.prog 16 #[iw r] w fun e w'=>e=.returned (.tuple #[pz w.heap.size,iw 0])/\DrumAt w.heap.size (Dr.new r) w'/\Below w.heap.size w w':=by
 go_enter Tryz.func16,Tryz.ntmps16;go_wp2
 go_ret2
 refine⟨rfl,⟨fun _=>sy,?_,?_,?_⟩,(Below.refl _ _).alloc (Nat.le_refl _) _⟩
 ·exact heap_alloc_new w _
 ·intro i _;exact World.ownsRow_nil _ _ _ _
 ·intro i j _ _ _;exact .inl rfl
theorem set_set(D:Dr)(a:Nat)(q r:Pt):(D.set a q).set a r=D.set a r:=by simp only[Dr.set];congr 1;funext i;by_cases h:i=a<;>simp[h]
theorem settle_end{pb:Nat}{D:Dr}{vs:Nat->Value}{w1:World}{a m:Nat}{ao:Option Addr}{cp:Nat}(hD:DrumIn pb (D.set a {D.p a with sure:=m}) vs w1)(ha:a<4)(hv:vs a=.slice ao (D.p a).l.length cp)(hm:m<=(D.p a).l.length):DrumAt pb (D.set a ⟨(D.p a).there,(D.p a).l.take m,m⟩) (w1.setCell ⟨pb,a*3+1,none⟩ (.slice ao m cp))/\Kept pb w1 (w1.setCell ⟨pb,a*3+1,none⟩ (.slice ao m cp)):=by have ho:=hD.own a ha;rw[Dr.set_same]at ho;have hrow:=own_take ho m hm hv;obtain⟨vs',hv',h1,h2⟩:=hD.set_row a ha (w1:=w1) ⟨rfl,rfl,rfl,Nat.le_refl _,fun _ _ _=>rfl⟩ hrow (fun k hk=>.inl (by rw[hv];cases ao<;>exact hk));rw[Dr.set_same,set_set]at h1;exact⟨⟨vs',h1⟩,h2⟩
theorem settle40(pb:Nat)(D:Dr)(a n:Nat)(w:World)(hD:DrumAt pb D w)(ha:a<4):
  Calls Tryz.prog 122 #[.pointer (some ⟨pb,a*3,none⟩),iw n] w fun e w'=>e=.returned (.tuple #[])/\DrumAt pb (D.set a ((D.p a).settle n)) w'/\Kept pb w w':=by
 obtain⟨vs,hD⟩:=hD;have hr:=hD.row a ha;have hf:=hD.free;have hs:=hD.sure a ha;obtain⟨ao,cp,hv,hcp⟩:=own_shape (hD.own a ha);rw[hv]at hr;have HD:Hid (DrumIn pb D vs w/\vs a=.slice ao (D.p a).l.length cp):=⟨hD,hv⟩;obtain⟨len,hlen⟩:=xj (D.p a).l.length;rw[hlen]at hr hcp;have HL:Hid ((D.p a).l.length=len):=hlen;clear hv hD hlen;by_cases hnl:n<=len
 ·have hset:(D.p a).settle n=⟨(D.p a).there,(D.p a).l.take n,n⟩:=by have:=HL.out;simp only[Pt.settle,Pt.mk.injEq,true_and];omega
  rw[hset];clear hset;go_enter Tryz.func122,Tryz.ntmps122;go_wp2;have hD1:=HD.out.1.set_sure a ha n;have K1:Hid (Kept pb w (w.setCell ⟨pb,a*3+2,none⟩ (iw n))):=(Kept.refl pb w).set _ _;generalize w.setCell ⟨pb,a*3+2,none⟩ (iw n)=w1 at*;have hr1:=hD1.row a ha;have hs1:=hD1.sure a ha;have hf1:=hD1.free;rw[Dr.set_same]at hs1;rw[HD.out.2,HL.out]at hr1;have H1:Hid (DrumIn pb (D.set a {D.p a with sure:=n}) vs w1):=hD1;clear hD1 hs hr hf;go_region;go_end0
  have R:=settle_end H1.out ha HD.out.2 (by rw[HL.out];exact hnl);exact⟨rfl,R.1.drew,(K1.out.trans R.2).drew⟩
 ·have hset:(D.p a).settle n=⟨(D.p a).there,(D.p a).l.take len,len⟩:=by have:=HL.out;simp only[Pt.settle,Pt.mk.injEq,true_and];refine⟨?_,by omega⟩;rw[List.take_of_length_le (by omega),List.take_of_length_le (by omega)]
  rw[hset];clear hset;go_enter Tryz.func122,Tryz.ntmps122;go_wp2;have hD1:=HD.out.1.set_sure a ha len;have K1:Hid (Kept pb w (w.setCell ⟨pb,a*3+2,none⟩ (iw len))):=(Kept.refl pb w).set _ _;generalize w.setCell ⟨pb,a*3+2,none⟩ (iw len)=w1 at*;have hr1:=hD1.row a ha;have hs1:=hD1.sure a ha;have hf1:=hD1.free;rw[Dr.set_same]at hs1;rw[HD.out.2,HL.out]at hr1;have H1:Hid (DrumIn pb (D.set a {D.p a with sure:=len}) vs w1):=hD1;clear hD1 hs hr hf;go_region;go_end0
  have R:=settle_end H1.out ha HD.out.2 (by rw[HL.out];exact Nat.le_refl _);exact⟨rfl,R.1.drew,(K1.out.trans R.2).drew⟩
theorem lay32(pb o:Nat)(b:Bool)(w:World)(hc:ce w pb o (.bool b)):Calls Tryz.prog 181 #[.pointer (some ⟨pb,o,none⟩)] w fun e w'=>e=.returned (iw (if b=true then 1 else 0))/\w=w':=by
 cases b
 all_goals
  go_enter Tryz.func181,Tryz.ntmps181;go_wp2;go_ret;exact⟨rfl,rfl⟩
theorem lay33(pb:Nat)(D:Dr)(a:Nat)(w:World)(hD:DrumAt pb D w)(ha:a<4):Calls Tryz.prog 182 #[.pointer (some ⟨pb,a*3,none⟩)] w fun e w'=>e=.returned (.tuple #[])/\DrumAt pb (D.set a {D.p a with there:=true}) w'/\Kept pb w w':=by
 obtain⟨vs,hD⟩:=hD;have HD:Hid (DrumIn pb D vs w):=hD;have hc:=hD.there a ha;have hf:=hD.free;clear hD;go_enter Tryz.func182,Tryz.ntmps182;go_wp2;go_end0
 exact⟨rfl,⟨vs,HD.out.set_there a ha true⟩,(Kept.refl _ _).set _ _⟩
theorem sync41(pb o:Nat)(b:Bool)(w:World)(hc:ce w pb o (.bool b)):Calls Tryz.prog 222 #[.pointer (some ⟨pb,o,none⟩)] w fun e w'=>e=.returned (iw (if b=true then 0 else 12))/\w=w':=by
 cases b
 all_goals
  go_enter Tryz.func222,Tryz.ntmps222;go_wp2_with (go_at_call 120;refine(missing30 pb o _ _ hc).mono ?_;rintro e w1 ⟨rfl,rfl⟩);go_ret;exact⟨rfl,rfl⟩
theorem sync42(pb:Nat)(D:Dr)(a:Nat)(w:World)(hD:DrumAt pb D w)(ha:a<4):Calls Tryz.prog 223 #[.pointer (some ⟨pb,a*3,none⟩)] w fun e w'=>e=.returned (.tuple #[])/\DrumAt pb (D.set a ((D.p a).settle (D.p a).l.length)) w'/\Kept pb w w':=by
 have HC:Hid (1=1->Calls Tryz.prog 122 #[.pointer (some ⟨pb,a*3,none⟩),iw (D.p a).l.length] w fun e w'=>e=.returned (.tuple #[])/\DrumAt pb (D.set a ((D.p a).settle (D.p a).l.length)) w'/\Kept pb w w'):=fun _=>settle40 pb D a _ w hD ha;obtain⟨vs,hD⟩:=hD;have hr:=hD.row a ha;obtain⟨ao,cp,hv,hcp⟩:=own_shape (hD.own a ha);rw[hv]at hr;clear hv hD;go_enter Tryz.func223,Tryz.ntmps223;go_wp2_with (go_at_call 122;refine(HC.out rfl).mono ?_;rintro e w1 ⟨rfl,h1,h2⟩;have H1:Hid _:=And.intro h1 h2;clear h1 h2);go_end0
 exact⟨rfl,H1.out⟩
theorem append_str(w:World)(base:Nat)(ty:TypeId)(i:TypeInfo)(hi:Tryz.prog.info? 5=some i)(hz:i.zero=some (ub 0))(hsize:i.size=1)(hby:i.bytes=1)
  (v:Value) (l:List UInt8) (hown:w.ownsRow base 5 1 v l.length (cl l)) (s:List UInt8) (hl:l.length+s.length<=140737488355328) (hbase:base<=w.heap.size):
  ∃v' w',(Builtin.append_ #[95,9] ty #[v,sd s]).run Tryz.prog w=.ok v' w'/\w'.ownsRow base 5 1 v' (l++s).length (cl (l++s))/\w.grownBy w' v.ownBlock/\∀k,v'.ownBlock=some k->v.ownBlock=some k\/w.heap.size<=k:=by
 have hm:l.length+(bs s).size<=maxLen:=by rw[bs_size];unfold maxLen;omega
 have hb:l.length+(bs s).size<=140737488355328:=by rw[bs_size];exact hl
 obtain⟨v',w',hr,h1,h2,_⟩:=Lib.run_append_own_string (P:=Tryz.prog) w base 95 9 ty 5 i Tryz.underlying95 Tryz.underlying9 hi hz hsize hby v l.length (cl l) hown (bs s) hm hb hbase;refine⟨v',w',hr,?_,h2,?_⟩
 ·rw[bs_size,strCells_bs,bs_data,<-cl_append,<-List.length_append]at h1;exact h1
 ·intro k hk;rcases hown.2 with⟨rfl,h0⟩|⟨g,cap,cur,rfl,hbg,hg,hnc,hcm,hcs,htake⟩
  ·have hn:w.ownsRow w.heap.size 5 1 sy l.length (cl l):=⟨hown.1,.inl ⟨rfl,h0⟩⟩;obtain⟨v2,w2,hr2,h12,_,_⟩:=Lib.run_append_own_string (P:=Tryz.prog) w w.heap.size 95 9 ty 5 i Tryz.underlying95 Tryz.underlying9 hi hz hsize hby _ l.length (cl l) hn (bs s) hm hb (Nat.le_refl _);rw[hr]at hr2;injection hr2 with e1 e2;subst e1;exact .inr (h12.lt k hk).1
  ·by_cases hroom:l.length+(bs s).size<=cap
   ·have hr2:=Lib.run_append_room_string (P:=Tryz.prog) w 95 9 ty 5 i Tryz.underlying95 Tryz.underlying9 hi hsize g l.length cap cur hg (bs s) hroom (by rw[hcs];omega);rw[hr]at hr2;injection hr2 with e1 e2;subst e1;exact .inl hk
   ·have hr2:=Lib.run_append_grow_string (P:=Tryz.prog) w 95 9 ty 5 i (ub 0) Tryz.underlying95 Tryz.underlying9 hi hz ⟨g,0,none⟩ l.length cap (cl l) (by rw[hsize,cl_length];omega) (hown.cells (g:=g) rfl) (bs s) (by omega) (by unfold maxLen at hm;omega) (by rw[hby];exact growslice_fits (by omega) (by omega));rw[hr]at hr2;injection hr2 with e1 e2;subst e1;simp only[Value.ownBlock,Option.some.injEq]at hk;exact .inr (by omega)
theorem step_append_str{ops:Array Oper}{o:Oper}{a:Act}{w:World}{K:Act->World->Prop}{Q:Exit->Act->World->Prop}{E:Prop}
  (hgd:o.guard=none) (sl x:Operand) (hop:o.op=.call {callee:=.builtin .append,args:=#[sl,x],argTypes:=#[95,9]})
  (base:Nat) (v:Value) (l s:List UInt8) (hs:a.eval sl=v) (hx:a.eval x=sd s) (hown:w.ownsRow base 5 1 v l.length (cl l))
  (hl:l.length+s.length<=140737488355328) (hbase:base<=w.heap.size)
  (h:∀v' w',w'.ownsRow base 5 1 v' (l++s).length (cl (l++s))->w.grownBy w' v.ownBlock->(∀k,v'.ownBlock=some k->v.ownBlock=some k\/w.heap.size<=k)->K (a.put o.dst v') w'):
  if Region.wanted o (yielded ops a.tmps)=true then Oper.wp Tryz.prog o a w K Q else E:=by
 obtain⟨i0,hi,hz0,hz1,hz2⟩:=info_parts info5;have hw:Region.wanted o (yielded ops a.tmps)=true:=by simp[Region.wanted,hgd]
 rw[if_pos hw];obtain⟨v',w',hr,h2,h3,h4⟩:=append_str w base o.type i0 hi hz0 hz1 hz2 v l hown s hl hbase;unfold Oper.wp execOp;simp only[hop,resolve,invoke,builtin,Sem.run_bind,Sem.run_pure,Result.andThen_ok,List.map_toArray,List.map_cons,List.map_nil,hs,hx,hr];exact h v' w' h2 h3 h4
theorem row_at(D:Dr)(vs:Nat->Value)(a:Nat)(ha:a<4):(dcells D vs)[a*3+1]?=some (vs a):=by rcases four ha with rfl|rfl|rfl|rfl<;>rfl
theorem grown_blk{pb:Nat}{D:Dr}{vs:Nat->Value}{w w1:World}{a:Nat}{v:Value}(h:DrumIn pb D vs w)(ha:a<4)(hv:vs a=v)(hg:w.drew.grownBy w1 v.ownBlock):w1.heap[pb]?=some (.cells (dcells D vs) 100 (0,0)):=by subst hv;rw[hg.block pb h.lt (fun e=>h.not_own a ha e.symm)];exact h.blk
theorem write35(pb:Nat)(D:Dr)(a sb:Nat)(s:List UInt8)(w:World)(hD:DrumAt pb D w)(ha:a<4)(hs:ce w sb 0 (sd s))(hl:(D.p a).l.length+s.length<=140737488355328):
  Calls Tryz.prog 221 #[.pointer (some ⟨pb,a*3,none⟩),pz sb] w fun e w'=>e=.returned (.tuple #[])/\DrumAt pb (D.set a {D.p a with l:=(D.p a).l++s}) w'/\Kept pb w w':=by
 obtain⟨vs,hD⟩:=hD;have hr:=hD.row a ha;have hf:=hD.free;have hlt:=hD.lt;obtain⟨ao,cp,hv,hcp⟩:=own_shape (hD.own a ha);rw[hv]at hr;have HD:Hid (DrumIn pb D vs w/\vs a=.slice ao (D.p a).l.length cp):=⟨hD,hv⟩;have HO:Hid (w.drew.ownsRow (pb+1) 5 1 (.slice ao (D.p a).l.length cp) (D.p a).l.length (cl (D.p a).l)):=by have:=(hD.own a ha).drew;rw[hv]at this;exact this
 clear hv hD;go_enter Tryz.func221,Tryz.ntmps221;go_wp2_with fail
 go_region_law (refine step_append_str rfl (.tmp 7) (.tmp 8) rfl (pb+1) (.slice ao (D.p a).l.length cp) (D.p a).l s (by simp[Act.eval]) (by simp[Act.eval]) HO.out hl hlt ?_;intro v' w1 hown' hgrow hnew;obtain⟨ao',cp',hv',_⟩:=own_shape hown';subst hv';have HG:Hid _:=And.intro hgrow (And.intro hown' hnew);have hD1:=grown_blk HD.out.1 ha HD.out.2 hgrow;have c1:=blk_cell (k:=a*3+1) hD1 (row_at D vs a ha);have f1:=fun k=>blk_free (k:=k) hD1;clear hown' hgrow hnew hD1)
 all_goals
  go_end0
  rw[<-HD.out.2]at HG;obtain⟨vs',_,h1,h2⟩:=(HD.out.1.on (Below.refl _ _).drew).set_row a ha HG.out.1 HG.out.2.1 HG.out.2.2;rw[List.length_append]at h1 h2;exact⟨rfl,⟨vs',h1⟩,(Kept.refl _ _).drew.trans h2⟩
theorem quiet_same{f:Nat}{args:Array Value}{w:World}{v:Value}(h:Calls Tryz.prog f args w fun e w'=>e=.returned v/\w=w'):Calls Tryz.prog f args w fun e w'=>e=.returned v/\w'=w:=
 h.mono fun _ _ h=>⟨h.1,h.2.symm⟩
theorem write34(pb:Nat)(D:Dr)(a sb db:Nat)(s:List UInt8)(w:World)(hD:DrumAt pb D w)(ha:a<4)(hOk:D.Ok)(hs:ce w sb 0 (sd s))(hd:ce w db 0 (pz pb)):
  Calls Tryz.prog 219 #[.pointer (some ⟨pb,a*3,none⟩),pz sb,pz db] w fun e w'=>e=.returned (iw (if(D.p a).there=true then(if D.room-D.used<s.length then 10 else 0)else 12))/\Below w.heap.size w w':=by
 have hu:=hOk.fits;have h0:=hOk.room0;have h1:=hOk.room1;have HU:Hid (1=1->∀n,Calls Tryz.prog 220 #[pz pb] (w.drewN n) fun e w'=>e=.returned (iw D.used)/\w'=w.drewN n):=fun _ n=>quiet_same (used14 pb D _ (hD.on (below_drewN (Below.refl _ _) n)) (by omega));obtain⟨vs,hD⟩:=hD;have hc:=hD.there a ha;have hr:=hD.room;clear hD;generalize (D.p a).there=b at*;generalize D.room=room at*;generalize D.used=used at*;cases b with
 |false=>
  go_enter Tryz.func219,Tryz.ntmps219;go_wp2_with (go_at_call 120;refine(missing30 pb _ _ _ hc).mono ?_;rintro e w1 ⟨rfl,rfl⟩);go_ret;exact⟨rfl,Below.refl _ _⟩
 |true=>
  by_cases hfull:room-(used:Int)<s.length
  ·rw[show(if true=true then(if room-(used:Int)<s.length then(10:Int)else 0)else 12)=10 from by simp[hfull]];go_enter Tryz.func219,Tryz.ntmps219;go_wp2_with (go_at_call 120;refine(missing30 pb _ _ _ hc).mono ?_;rintro e w1 ⟨rfl,rfl⟩);have hsz:=bs_size s
   go_quiet ((go_at_call 220;exact Calls.quiet_of_same (HU.out (by trivial) _)))
   go_wp2;go_ret;exact⟨rfl,below_drewN (Below.refl _ _) _⟩
  ·rw[show(if true=true then(if room-(used:Int)<s.length then(10:Int)else 0)else 12)=0 from by simp[hfull]];go_enter Tryz.func219,Tryz.ntmps219;go_wp2_with (go_at_call 120;refine(missing30 pb _ _ _ hc).mono ?_;rintro e w1 ⟨rfl,rfl⟩);have hsz:=bs_size s
   go_quiet ((go_at_call 220;exact Calls.quiet_of_same (HU.out (by trivial) _)))
   go_wp2;go_ret;exact⟨rfl,below_drewN (Below.refl _ _) _⟩
theorem step31(pb:Nat)(D:Dr)(a:Int)(f g:Nat)(cf cg:Array Value)(refuse:Pt->Int)(act:Pt->Pt)(w:World)(hD:DrumAt pb D w)(hOk:D.Ok)
  (ef:∀args w,(callFunc f args).run Tryz.prog w=.ok (.enter f args) w) (eg:∀args w,(callFunc g args).run Tryz.prog w=.ok (.enter g args) w)
  (HR:Hid (1=1->∀n:Nat,n<4->Calls Tryz.prog f (#[.pointer (some ⟨pb,n*3,none⟩)]++cf) w fun e w'=>e=.returned (iw (refuse (D.p n)))/\Below w.heap.size w w'))
  (HA:Hid (1=1->∀n:Nat,n<4->refuse (D.p n)=0->∀w2 D2,DrumAt pb D2 w2->D2.p=D.p->(∀k o,k≠pb->w.heap[k]?=some o->w2.heap[k]?=some o)->Calls Tryz.prog g (#[.pointer (some ⟨pb,n*3,none⟩)]++cg) w2 fun e w'=>e=.returned (.tuple #[])/\DrumAt pb (D2.set n (act (D2.p n))) w'/\Kept pb w2 w')):
  Calls Tryz.prog 118 #[pz pb,iw a,.func (.func f) #[] cf,.func (.func g) #[] cg] w fun e w'=>e=.returned (iw (D.step a refuse act).1)/\DrumAt pb (D.step a refuse act).2 w'/\Kept pb w w':=by
 obtain⟨vs,hD⟩:=hD;have HD:Hid (DrumIn pb D vs w):=hD;have hdn:=hD.down;clear hD;obtain⟨dn,hdn'⟩:=xj D.down;rw[hdn']at hdn;have HN:Hid (D.down=dn):=hdn';clear hdn';cases dn with
 |true=>
  have hst:D.step a refuse act=(11,D):=by rw[Dr.step,if_pos HN.out]
  rw[hst];clear hst;go_enter Tryz.func118,Tryz.ntmps118;go_wp2_with (go_at_call 35;refine(down13 pb _ _ hdn).mono ?_;rintro e w1 ⟨rfl,rfl⟩);go_ret;exact⟨rfl,⟨vs,HD.out⟩,Kept.refl _ _⟩
 |false=>
  by_cases h:0<=a/\a<4
  ·obtain⟨h0,h1⟩:=h;obtain⟨n,rfl⟩:=Int.eq_ofNat_of_zero_le h0;have hn:n<4:=by omega
   have HC:Hid (1=1->Calls Tryz.prog f (#[.pointer (some ⟨pb,n*3,none⟩)]++cf) w fun e w'=>e=.returned (iw (refuse (D.p n)))/\Below w.heap.size w w'):=fun _=>HR.out rfl n hn;obtain⟨r,hr⟩:=xj (refuse (D.p n));rw[hr]at HC;have HX:Hid (refuse (D.p n)=r):=hr;clear hr HR;by_cases hr0:r=0
   ·subst hr0;obtain⟨fu,hfu⟩:=xj D.fuel;have hb0:=hOk.fuel0;have hb9:=hOk.fuel1;rw[hfu]at hb0 hb9;have HFU:Hid (D.fuel=fu):=hfu;clear hfu;by_cases hf0:fu=0
    ·have hst:D.step n refuse act=(11,{D with down:=true}):=by have:=HX.out;simp only[Dr.step,HN.out,Int.toNat_natCast,this];rw[if_neg (by decide),if_neg (by omega),if_neg (by simp),if_pos (by rw[HFU.out];exact hf0)]
     rw[hst];subst hf0;clear hst;go_enter Tryz.func118,Tryz.ntmps118;go_wp2_with (first|(go_at_call 35;refine(down13 pb _ _ hdn).mono ?_;rintro e w1 ⟨rfl,rfl⟩)|(go_at_call 176;refine(num29_yes _ _ h0 h1).mono ?_;rintro e w1 ⟨rfl,rfl⟩));refine(HC.out (by trivial)).mono ?_;rintro e w1 ⟨rfl,hb1⟩;have H1:Hid (DrumIn pb D vs w1/\Below w.heap.size w w1):=⟨HD.out.on hb1,hb1⟩;have hf1:=H1.out.1.fuel;have hd1:=H1.out.1.down;have hz1:=H1.out.1.free;rw[HFU.out]at hf1;clear hb1;go_wp2;go_ret;exact⟨rfl,⟨vs,H1.out.1.set_down true⟩,(⟨H1.out.2.mono (Nat.le_of_lt HD.out.lt),fun k o ho _ _=>by rw[H1.out.2.block k (lt_of_block ho),ho]⟩:Kept pb w w1).set _ _⟩
    ·have hst:D.step n refuse act=(0,D.burn.set n (act (D.p n))):=by have:=HX.out;simp only[Dr.step,HN.out,Int.toNat_natCast,this];rw[if_neg (by decide),if_neg (by omega),if_neg (by simp),if_neg (by rw[HFU.out];exact hf0)]
     rw[hst];clear hst;by_cases hfp:0<fu
     ·have HBU:Hid ({D with fuel:=fu-1}=D.burn):=by show _=_;simp[Dr.burn,HFU.out,hfp]
      have hfb:(fu==0)=false:=by simp[hf0]
      clear hf0;go_enter Tryz.func118,Tryz.ntmps118;go_wp2_with (first|(go_at_call 35;refine(down13 pb _ _ hdn).mono ?_;rintro e w1 ⟨rfl,rfl⟩)|(go_at_call 176;refine(num29_yes _ _ h0 h1).mono ?_;rintro e w1 ⟨rfl,rfl⟩));refine(HC.out (by trivial)).mono ?_;rintro e w1 ⟨rfl,hb1⟩;have H1:Hid (DrumIn pb D vs w1/\Below w.heap.size w w1):=⟨HD.out.on hb1,hb1⟩;have hf1:=H1.out.1.fuel;have hd1:=H1.out.1.down;have hz1:=H1.out.1.free;rw[HFU.out]at hf1;clear hb1;go_wp2_with fail;have hD2:=H1.out.1.set_fuel (fu-1);rw[HBU.out]at hD2;have hk2:Kept pb w (w1.setCell ⟨pb,13,none⟩ (iw (fu-1))):=(⟨H1.out.2.mono (Nat.le_of_lt HD.out.lt),fun k o ho _ _=>by rw[H1.out.2.block k (lt_of_block ho),ho]⟩:Kept pb w w1).set _ _;refine(HA.out (by trivial) n hn HX.out _ _ ⟨vs,hD2⟩ rfl (fun k o hk ho=>by rw[Below.heap_setCell _ _ _ _ hk,H1.out.2.block k (lt_of_block ho),ho])).mono ?_;rintro e w3 ⟨rfl,h3,hk3⟩;have H3:Hid (DrumAt pb (D.burn.set n (act (D.p n))) w3/\Kept pb w w3):=⟨h3,hk2.trans hk3⟩;clear h3 hk3 hk2 hD2;go_wp2;go_ret;exact⟨rfl,H3.out⟩
     ·have HBU:Hid (D=D.burn):=by show _=_;unfold Dr.burn;rw[if_neg (by rw[HFU.out];exact hfp)]
      have hfb:(fu==0)=false:=by simp[hf0]
      clear hf0;go_enter Tryz.func118,Tryz.ntmps118;go_wp2_with (first|(go_at_call 35;refine(down13 pb _ _ hdn).mono ?_;rintro e w1 ⟨rfl,rfl⟩)|(go_at_call 176;refine(num29_yes _ _ h0 h1).mono ?_;rintro e w1 ⟨rfl,rfl⟩));refine(HC.out (by trivial)).mono ?_;rintro e w1 ⟨rfl,hb1⟩;have H1:Hid (DrumIn pb D vs w1/\Below w.heap.size w w1):=⟨HD.out.on hb1,hb1⟩;have hf1:=H1.out.1.fuel;have hd1:=H1.out.1.down;have hz1:=H1.out.1.free;rw[HFU.out]at hf1;clear hb1;go_wp2_with fail;have hD2:DrumAt pb D.burn w1:=⟨vs,by rw[<-HBU.out];exact H1.out.1⟩;have hk2:Kept pb w w1:=⟨H1.out.2.mono (Nat.le_of_lt HD.out.lt),fun k o ho _ _=>by rw[H1.out.2.block k (lt_of_block ho),ho]⟩;refine(HA.out (by trivial) n hn HX.out _ _ hD2 rfl (fun k o hk ho=>by rw[H1.out.2.block k (lt_of_block ho),ho])).mono ?_;rintro e w3 ⟨rfl,h3,hk3⟩;have H3:Hid (DrumAt pb (D.burn.set n (act (D.p n))) w3/\Kept pb w w3):=⟨h3,hk2.trans hk3⟩;clear h3 hk3 hk2 hD2;go_wp2;go_ret;exact⟨rfl,H3.out⟩
   ·have hst:D.step n refuse act=(r,D):=by have:=HX.out;simp only[Dr.step,HN.out,Int.toNat_natCast,this];rw[if_neg (by decide),if_neg (by omega),if_pos hr0]
    rw[hst];have hrb:(r==0)=false:=by simp[hr0]
    clear hst hr0;go_enter Tryz.func118,Tryz.ntmps118;go_wp2_with (first|(go_at_call 35;refine(down13 pb _ _ hdn).mono ?_;rintro e w1 ⟨rfl,rfl⟩)|(go_at_call 176;refine(num29_yes _ _ h0 h1).mono ?_;rintro e w1 ⟨rfl,rfl⟩));refine(HC.out (by trivial)).mono ?_;rintro e w1 ⟨rfl,hb1⟩;go_wp2;go_ret;exact⟨rfl,DrumAt.on ⟨vs,HD.out⟩ hb1,⟨hb1.mono (Nat.le_of_lt HD.out.lt),fun k o ho _ _=>by rw[hb1.block k (lt_of_block ho),ho]⟩⟩
  ·have hst:D.step a refuse act=(1,D):=by rw[Dr.step,HN.out,if_neg (by decide),if_pos h]
   rw[hst];clear hst;go_enter Tryz.func118,Tryz.ntmps118;go_wp2_with (first|(go_at_call 35;refine(down13 pb _ _ hdn).mono ?_;rintro e w1 ⟨rfl,rfl⟩)|(go_at_call 176;refine(num29_no _ _ h).mono ?_;rintro e w1 ⟨rfl,rfl⟩));go_ret;exact⟨rfl,⟨vs,HD.out⟩,Kept.refl _ _⟩
theorem ent32:Enters Tryz.prog 181:=enters_of Tryz.func181 (by kernel_rfl) rfl
theorem ent33:Enters Tryz.prog 182:=enters_of Tryz.func182 (by kernel_rfl) rfl
theorem ent34:Enters Tryz.prog 219:=enters_of Tryz.func219 (by kernel_rfl) rfl
theorem ent35:Enters Tryz.prog 221:=enters_of Tryz.func221 (by kernel_rfl) rfl
theorem ent41:Enters Tryz.prog 222:=enters_of Tryz.func222 (by kernel_rfl) rfl
theorem ent42:Enters Tryz.prog 223:=enters_of Tryz.func223 (by kernel_rfl) rfl
theorem lay11(pb:Nat)(D:Dr)(a:Int)(w:World)(hD:DrumAt pb D w)(hOk:D.Ok):Calls Tryz.prog 115 #[pz pb,iw a] w fun e w'=>e=.returned (iw (D.lay a).1)/\DrumAt pb (D.lay a).2 w'/\Kept pb w w':=by
 have HC:Hid (1=1->Calls Tryz.prog 118 #[pz pb,iw a,.func (.func 181) #[] #[],.func (.func 182) #[] #[]] w fun e w'=>e=.returned (iw (D.lay a).1)/\DrumAt pb (D.lay a).2 w'/\Kept pb w w'):=fun _=>by
  obtain⟨vs,hDi⟩:=id hD;refine step31 pb D a 181 182 #[] #[] _ _ w hD hOk ent32 ent33 ?_ ?_
  ·exact fun _ n hn=>(lay32 pb (n*3) _ w (hDi.there n hn)).mono fun e w' h=>⟨h.1,by rw[<-h.2];exact Below.refl _ _⟩
  ·exact fun _ n hn _ w2 D2 h2 _ _=>lay33 pb D2 n w2 h2 hn
 clear hD hOk;generalize D.lay a=r at*;go_enter Tryz.func115,Tryz.ntmps115;go_wp2_with (go_at_call 118;refine(HC.out (by trivial)).mono ?_;rintro e w1 ⟨rfl,h1,h2⟩;have H1:Hid _:=And.intro h1 h2;clear h1 h2);go_ret;exact⟨rfl,H1.out⟩
theorem sync28(pb:Nat)(D:Dr)(a:Int)(w:World)(hD:DrumAt pb D w)(hOk:D.Ok):Calls Tryz.prog 184 #[pz pb,iw a] w fun e w'=>e=.returned (iw (D.sync a).1)/\DrumAt pb (D.sync a).2 w'/\Kept pb w w':=by
 have HC:Hid (1=1->Calls Tryz.prog 118 #[pz pb,iw a,.func (.func 222) #[] #[],.func (.func 223) #[] #[]] w fun e w'=>e=.returned (iw (D.sync a).1)/\DrumAt pb (D.sync a).2 w'/\Kept pb w w'):=fun _=>by
  obtain⟨vs,hDi⟩:=id hD;refine step31 pb D a 222 223 #[] #[] _ _ w hD hOk ent41 ent42 ?_ ?_
  ·exact fun _ n hn=>(sync41 pb (n*3) _ w (hDi.there n hn)).mono fun e w' h=>⟨h.1,by rw[<-h.2];exact Below.refl _ _⟩
  ·exact fun _ n hn _ w2 D2 h2 _ _=>sync42 pb D2 n w2 h2 hn
 clear hD hOk;generalize D.sync a=r at*;go_enter Tryz.func184,Tryz.ntmps184;go_wp2_with (go_at_call 118;refine(HC.out (by trivial)).mono ?_;rintro e w1 ⟨rfl,h1,h2⟩;have H1:Hid _:=And.intro h1 h2;clear h1 h2);go_ret;exact⟨rfl,H1.out⟩
theorem kept_new{pb:Nat}{w w':World}{o:Obj}(hp:pb<w.heap.size)(h:Kept pb (w.alloc o) w'):Kept pb w w':=
 ((Kept.refl pb w).alloc (Nat.le_of_lt hp) o).trans h
theorem write12(pb:Nat)(D:Dr)(a:Int)(s:List UInt8)(w:World)(hD:DrumAt pb D w)(hOk:D.Ok):Calls Tryz.prog 183 #[pz pb,iw a,sd s] w fun e w'=>e=.returned (iw (D.write a s).1)/\DrumAt pb (D.write a s).2 w'/\Kept pb w w':=by
 have hlt:=hD.lt;have HC:Hid (1=1->Calls Tryz.prog 118 #[pz pb,iw a,.func (.func 219) #[] #[.pointer (some ⟨w.heap.size+1,0,none⟩),pz w.heap.size],.func (.func 221) #[] #[.pointer (some ⟨w.heap.size+1,0,none⟩)]] ((w.alloc (.cells #[pz pb] 72)).alloc (.cells #[sd s] 9)) fun e w'=>e=.returned (iw (D.write a s).1)/\DrumAt pb (D.write a s).2 w'/\Kept pb w w'):=fun _=>by
  have hD1:=(hD.alloc (.cells #[pz pb] 72)).alloc (.cells #[sd s] 9);have hb:((w.alloc (.cells #[pz pb] 72)).alloc (.cells #[sd s] 9)).heap[w.heap.size]?=some (.cells #[pz pb] 72 (0,0)):=by rw[Below.heap_alloc _ _ _ (by simp)];exact heap_alloc_new w _
  have hs:((w.alloc (.cells #[pz pb] 72)).alloc (.cells #[sd s] 9)).heap[w.heap.size+1]?=some (.cells #[sd s] 9 (0,0)):=by have:=heap_alloc_new (w.alloc (.cells #[pz pb] 72)) (.cells #[sd s] 9);simpa using this
  refine(step31 pb D a 219 221 _ _ _ _ _ hD1 hOk ent34 ent35 ?_ ?_).mono fun e w' h=>⟨h.1,h.2.1,kept_new hlt (kept_new (by simp;omega) h.2.2)⟩
  ·exact fun _ k hk=>write34 pb D k (w.heap.size+1) w.heap.size s _ hD1 hk hOk (cell_of_one hs) (cell_of_one hb)
  ·intro _ k hk hr w2 D2 h2 hp hw;have h1:=hOk.fits;have h3:=hOk.room1;have h4:=D.len_le_used k hk;have h5:¬(D.room-D.used<s.length):=by intro h;rw[if_pos h]at hr;split at hr<;>simp at hr
   exact write35 pb D2 k (w.heap.size+1) s w2 h2 hk (cell_of_one (hw _ _ (by omega) hs)) (by rw[hp];omega)
 clear hD hOk;generalize D.write a s=r at*;go_enter Tryz.func183,Tryz.ntmps183;go_wp2_with (go_at_call 118;refine(HC.out (by trivial)).mono ?_;rintro e w1 ⟨rfl,h1,h2⟩;have H1:Hid _:=And.intro h1 h2;clear h1 h2);go_ret;exact⟨rfl,H1.out⟩
end Go.Proofs.YtdplfgcoaddbdaaGreat.Drm
