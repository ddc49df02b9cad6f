import Derived.ScopeJumps
import Derived.WalkMore
import Derived.Test.YtdplfgcoaddbdaaGreatWag
set_option maxHeartbeats 4000000
set_option maxRecDepth 100000
set_option linter.unusedVariables false
set_option linter.unusedSimpArgs false
namespace Go.Proofs.YtdplfgcoaddbdaaGreat.Sto
open Go.RowKit
theorem sdr_step{S:Sk}{m:Nat}(h:m<S.length):S.drop m=S.getD m ds::S.drop (m+1):=by rw[List.drop_eq_getElem_cons h];simp[List.getD,h]
theorem gone_snoc{p l:Int}{S:Sk}{m:Nat}(h:m<S.length):goneS p l (S.take (m+1))=goneS p l (S.take m)+((S.getD m ds).2.length-(pruneF (S.getD m ds).2 p l).length):=by unfold goneS;rw[stk_snoc h,List.map_append,List.sum_append];simp
theorem gone_le{p l:Int}:∀{S:Sk},goneS p l S<=totS S
 |[]=>Nat.le_refl _
 |x::r=>by have:=gone_le (p:=p) (l:=l) (S:=r);simp only[goneS,totS,List.map_cons,List.sum_cons]at this|-;omega
theorem tot_take(S:Sk)(m:Nat):totS (S.take m)<=totS S:=by
 have h:totS (S.take m++S.drop m)=totS (S.take m)+totS (S.drop m):=by unfold totS;rw[List.map_append,List.sum_append]
 rw[List.take_append_drop]at h;omega
def ItAt(v:Value)(L:Kv Sv)(S:Sk)(w:World):Prop:=RwAt w.heap.size 2 v L.length (itc L) w/\Chs w L S
theorem ItAt.on{v:Value}{L:Kv Sv}{S:Sk}{w w':World}(h:ItAt v L S w)(hb:Below w.heap.size w w'):ItAt v L S w':=⟨(RwAt.on h.1 hb).le hb.size,h.2.on hb⟩
theorem ItAt.shape{v:Value}{L:Kv Sv}{S:Sk}{w:World}(h:ItAt v L S w):∃ao cap,v=.slice ao S.length cap/\S.length<=cap/\cap<=9223372036854775807:=by obtain⟨ao,cap,e,_,h1,h2,_⟩:=h.1;rw[h.2.len]at e h1;exact⟨ao,cap,e,h1,h2⟩
theorem ItAt.el{ao:Option Addr}{cap:Nat}{L:Kv Sv}{S:Sk}{w:World}(h:ItAt (.slice ao S.length cap) L S w){i:Nat}(hi:i<S.length):∃b off ca cc,ao=some ⟨b,off,none⟩/\ce w b (off+i*2) (.string (bs (S.getD i ds).1))/\ce w b (off+i*2+1) (.slice ca (S.getD i ds).2.length cc)/\VsAt w.heap.size (.slice ca (S.getD i ds).2.length cc) (S.getD i ds).2 w:=by
 have hiL:i<L.length:=by rw[h.2.len];exact hi
 obtain⟨h1,h2⟩:=itc_key L i hiL;have hr:RwAt w.heap.size 2 (.slice ao L.length cap) L.length (itc L) w:=by rw[h.2.len];have:=h.1;rw[h.2.len]at this;exact this
 obtain⟨b,off,e,_,hc⟩:=RwAt.cellAt hr (j:=0) (by rw[itc_length];omega);obtain⟨k1,k2⟩:=h.2.at i hiL;have k1':(L.getD i dk).1=(S.getD i ds).1:=k1;have k2':VsAt w.heap.size (svV (L.getD i dk).2) (S.getD i ds).2 w:=k2;have k3:=k2';obtain⟨ca,cc,e2,_⟩:=k3;refine⟨b,off,ca,cc,e,by rw[<-k1'];exact hc _ _ h1,?_,by rw[<-e2];exact k2'⟩;rw[<-e2];exact hc _ _ h2
structure C4(w:World)(a b c d:Addr)(u v x y:Value)(W:World):Prop where
 c0:W.cell? a=some u
 c1:W.cell? b=some v
 c2:W.cell? c=some x
 c3:W.cell? d=some y
 bel:Below w.heap.size w W
theorem C4.on{w W W':World}{a b c d:Addr}{u v x y:Value}(h:C4 w a b c d u v x y W)(hb:Below W.heap.size W W'):C4 w a b c d u v x y W':=
 ⟨by rw[hb.cell (World.block_lt_of_cell? _ _ h.c0)];exact h.c0,by rw[hb.cell (World.block_lt_of_cell? _ _ h.c1)];exact h.c1,by rw[hb.cell (World.block_lt_of_cell? _ _ h.c2)];exact h.c2,by rw[hb.cell (World.block_lt_of_cell? _ _ h.c3)];exact h.c3,h.bel.trans (hb.mono h.bel.size)⟩
theorem C4.dr{w W:World}{a b c d:Addr}{u v x y:Value}(h:C4 w a b c d u v x y W):C4 w a b c d u v x y W.drew:=h.on (Below.refl _ _).drew
theorem C4.all{w W:World}{a b c d:Addr}{u v x y:Value}(h:C4 w a b c d u v x y W):W.cell? a=some u/\W.cell? b=some v/\W.cell? c=some x/\W.cell? d=some y/\C4 w a b c d u v x y W:=⟨h.c0,h.c1,h.c2,h.c3,h⟩
theorem same24(LA LB:Kv Sv)(S:Sk)(va vb:Value)(w:World)(ha:ItAt va LA S w)(hb:ItAt vb LB S w):
  Calls Tryz.prog 22 #[va,vb] w fun e w'=>e=.returned (.bool true)/\Below w.heap.size w w':=by
 obtain⟨ao,ca,rfl,hla,hma⟩:=ha.shape;obtain⟨bo,cb,rfl,hlb,hmb⟩:=hb.shape;have HA:Hid (∀W,Below w.heap.size w W->∀i,i<S.length->∃b off ca cc,ao=some ⟨b,off,none⟩/\ce W b (off+i*2) (.string (bs (S.getD i ds).1))/\ce W b (off+i*2+1) (.slice ca (S.getD i ds).2.length cc)/\VsAt W.heap.size (.slice ca (S.getD i ds).2.length cc) (S.getD i ds).2 W):=fun W hW i hi=>(ha.on hW).el hi;have HB:Hid (∀W,Below w.heap.size w W->∀i,i<S.length->∃b off ca cc,bo=some ⟨b,off,none⟩/\ce W b (off+i*2) (.string (bs (S.getD i ds).1))/\ce W b (off+i*2+1) (.slice ca (S.getD i ds).2.length cc)/\VsAt W.heap.size (.slice ca (S.getD i ds).2.length cc) (S.getD i ds).2 W):=fun W hW i hi=>(hb.on hW).el hi;have h63:S.length<=9223372036854775807:=Nat.le_trans hla hma;clear ha hb hla hlb hma hmb;go_enter Tryz.func22,Tryz.ntmps22;go_wp2_with fail;go_loopw [5] (fun i wr=>∃k:Nat,k<=S.length/\i=iw k/\Below w.heap.size w wr) (fun i _=>S.length-(intOf i).toNat)
 case atStart=>exact⟨0,Nat.zero_le _,rfl,Below.refl _ _⟩
 case round=>
  obtain⟨k,hk,rfl,hbr⟩:=hrel;have HBr:Hid _:=hbr;clear hbr;by_cases hkl:k<S.length
  ·obtain⟨b1,o1,a1,n1,rfl,c0,c1,v1⟩:=HA.out _ HBr.out k hkl;obtain⟨b2,o2,a2,n2,rfl,d0,d1,v2⟩:=HB.out _ HBr.out k hkl;have hkl':(k:Int)<S.length:=by omega
   generalize S.getD k ds=x at*;obtain⟨a,c⟩:=x;dsimp only at c0 c1 d0 d1 v1 v2;have CS:Hid (1=1->Calls Tryz.prog 45 #[.slice a1 c.length n1,.slice a2 c.length n2] wr.drew fun e w'=>e=.returned (.bool true)/\Below wr.drew.heap.size wr.drew w'):=fun _=>by have:=same14 wr.drew.heap.size wr.drew.heap.size c c _ _ wr.drew (VsAt.on v1 (Below.refl _ _).drew) (VsAt.on v2 (Below.refl _ _).drew);rw[sameB_self]at this;exact this
   have q0:=bs_beq a a;rw[show(a==a)=true from by simp]at q0;have H4:Hid (C4 wr ⟨b1,o1+k*2,none⟩ ⟨b1,o1+k*2+1,none⟩ ⟨b2,o2+k*2,none⟩ ⟨b2,o2+k*2+1,none⟩ (sd a) (.slice a1 c.length n1) (sd a) (.slice a2 c.length n2) wr):=⟨c0,c1,d0,d1,Below.refl _ _⟩;clear v1 v2 c0 c1 d0 d1;go_upto_region 6 with fail
   go_region_held3 (fun W=>ce W b1 (o1+k*2) (sd a)/\ce W b1 (o1+k*2+1) (.slice a1 c.length n1)/\ce W b2 (o2+k*2) (sd a)/\ce W b2 (o2+k*2+1) (.slice a2 c.length n2)/\C4 wr ⟨b1,o1+k*2,none⟩ ⟨b1,o1+k*2+1,none⟩ ⟨b2,o2+k*2,none⟩ ⟨b2,o2+k*2+1,none⟩ (sd a) (.slice a1 c.length n1) (sd a) (.slice a2 c.length n2) W) ((with_reducible refine C4.all ?_;with_reducible repeat (first|exact H4.out|exact H5.out|refine C4.dr ?_))) (first
    |(go_at_call 45;refine(CS.out (by trivial)).mono ?_;rintro e w2 ⟨rfl,hb2⟩;have H5:Hid (C4 wr ⟨b1,o1+k*2,none⟩ ⟨b1,o1+k*2+1,none⟩ ⟨b2,o2+k*2,none⟩ ⟨b2,o2+k*2+1,none⟩ (sd a) (.slice a1 c.length n1) (sd a) (.slice a2 c.length n2) w2):=H4.out.dr.on hb2;clear hb2))
   rename_i hHeld;clear hHeld CS H4;have HB2:Hid (Below w.heap.size w w2):=HBr.out.trans (H5.out.bel.mono HBr.out.size);clear H5;go_wp2_with fail;go_roundw
   case rel=>exact⟨k+1,by omega,by go_num,HB2.out⟩
   case measure=>simp[intOf];omega
  ·have hkl':¬(k:Int)<S.length:=by omega
   go_wp2_with fail;go_ret;exact⟨rfl,HBr.out⟩
structure Ifs(SA:Nat->Nat->(Nat->Prop)->Sk->World->Prop):Prop where
 lt:∀{B p:Nat} {M:Nat->Prop} {S:Sk} {w:World},SA B p M S w->∀k,M k->B<=k/\k<w.heap.size
 nov:∀{B p:Nat} {M:Nat->Prop} {S:Sk} {w:World},SA B p M S w->∀k,M k->NoVe w k
 keep:∀{B p:Nat} {M G:Nat->Prop} {S:Sk} {w w':World},SA B p M S w->Kept G w w'->(∀k,M k->¬G k)->(∀k,G k->NoVe w k)->SA B p M S w'
 sok:∀{B p:Nat} {M:Nat->Prop} {S:Sk} {w:World},SA B p M S w->SOk S
 new:∀w:World,Calls Tryz.prog 28 #[] w fun e w'=>∃p M,e=.returned (pz p)/\SA w.heap.size p M [] w'/\Below w.heap.size w w'
 put:∀{B p:Nat} {M:Nat->Prop} {S:Sk} {w:World} (k:List UInt8) (x:Ve),SA B p M S w->totS S<10000->Calls Tryz.prog 154 #[pz p,sd k,veV x] w fun e w'=>e=.returned (iw (putS k x S).2)/\∃M',SA B p M' (putS k x S).1 w'/\Kept M w w'/\∀i,M' i->M i\/w.heap.size<=i
 prune:∀{B p:Nat} {M:Nat->Prop} {S:Sk} {w:World} (t u:Int),SA B p M S w->totS S<10000->Calls Tryz.prog 74 #[pz p,.agg #[uw t,ui u]] w fun e w'=>e=.returned (iw (goneS t u S))/\∃M',SA B p M' (pruneS t u S) w'/\Kept M w w'/\∀i,M' i->M i\/w.heap.size<=i
 get:∀{B p:Nat} {M:Nat->Prop} {S:Sk} {w:World} (k:List UInt8) (t u:Int),SA B p M S w->totS S<10000->Calls Tryz.prog 85 #[pz p,sd k,.agg #[uw t,ui u]] w fun e w'=>e=.returned (.tuple #[.string (bs (getV (seeF (chainF k S) t u)).1),.bool (getV (seeF (chainF k S) t u)).2])/\Below w.heap.size w w'
 newest:∀{B p:Nat} {M:Nat->Prop} {S:Sk} {w:World} (k:List UInt8),SA B p M S w->totS S<10000->Calls Tryz.prog 163 #[pz p,sd k] w fun e w'=>e=.returned (.agg #[uw (newF (chainF k S)).1,ui (newF (chainF k S)).2])/\Below w.heap.size w w'
 count:∀{B p:Nat} {M:Nat->Prop} {S:Sk} {w:World} (k:List UInt8),SA B p M S w->totS S<10000->Calls Tryz.prog 164 #[pz p,sd k] w fun e w'=>e=.returned (iw (chainF k S).length)/\Below w.heap.size w w'
 scan:∀{B p:Nat} {M:Nat->Prop} {S:Sk} {w:World} (lo hi:List UInt8) (t u limit:Int),SA B p M S w->totS S<10000->Calls Tryz.prog 86 #[pz p,sd lo,sd hi,.agg #[uw t,ui u],iw limit] w fun e w'=>∃v',e=.returned v'/\w'.ownsRow w.heap.size 71 2 v' (scanS lo hi t u limit S).length (prc (scanS lo hi t u limit S))/\Below w.heap.size w w'
 items:∀{B p:Nat} {M:Nat->Prop} {S:Sk} {w:World},SA B p M S w->totS S<10000->Calls Tryz.prog 24 #[pz p] w fun e w'=>∃v' L,e=.returned v'/\ItAt v' L S w'/\(∀k,v'.ownBlock=some k->w.heap.size<=k/\∃cs,w'.heap[k]?=some (.cells cs 65 (0,0)))/\Below w.heap.size w w'
variable {SA:Nat->Nat->(Nat->Prop)->Sk->World->Prop}
def Tr.hn:Tr->Nat
 |Go.Deep.BT.nil=>0
 |Go.Deep.BT.node _ x _ _ _=>x
def Tr.hi:Tr->Int
 |Go.Deep.BT.nil=>0
 |Go.Deep.BT.node _ x _ _ _=>(x:Int)
theorem Tr.hi_hn(t:Tr):t.hi=t.hn:=by
 cases t using Tr.cas with
 |nil=>rfl
 |node b l k v x r=>rfl
theorem max_hn(l r:Tr):((1+max l.hn r.hn:Nat):Int)=1+max l.hi r.hi:=by rw[l.hi_hn,r.hi_hn];omega
def Hk:Tr->Prop
 |Go.Deep.BT.nil=>True
 |Go.Deep.BT.node _ x _ l r=>x=1+max (Tr.hn l) (Tr.hn r)/\Hk l/\Hk r
theorem Hk.bounds{t:Tr}:Hk t->0<=t.hi/\t.hi<=t.toL.length:=by
 induction t using Tr.ind with
 |nil=>intro _;simp[Tr.hi,Tr.toL]
 |node b l k v x r ihl ihr=>
  intro h;obtain⟨h1,h2,h3⟩:=h;have i2:=ihl h2;have i3:=ihr h3;rw[l.hi_hn]at i2;rw[r.hi_hn]at i3;simp only[Tr.hi,Tr.toL,List.length_append,List.length_cons];omega
theorem Hk.node{t:Tr}(h0:0<t.hi):∃b l k v x r,t=.node b l k v x r:=by
 cases t using Tr.cas with
 |nil=>simp[Tr.hi]at h0
 |node b l k v x r=>exact⟨b,l,k,v,x,r,rfl⟩
def nl:Lay:=⟨269,fun k v x l r=>#[sd k,.slice v.1 v.2.1 v.2.2,l,r,iw (x:Int)]⟩
def findT(k:List UInt8):Tr->Option Nat
 |Go.Deep.BT.nil=>none
 |Go.Deep.BT.node b _ (q,_) l r=>if ltK k q then findT k l else if ltK q k then findT k r else some b
def putT(k:List UInt8)(v:Sv):Tr->Tr
 |Go.Deep.BT.nil=>.nil
 |Go.Deep.BT.node b x (q,u) l r=>if ltK k q then .node b (putT k v l) q u x r else if ltK q k then .node b l q u x (putT k v r)else .node b l q v x r
theorem find_node(k:List UInt8)(b:Nat)(l:Tr)(q:List UInt8)(u:Sv)(x:Nat)(r:Tr):findT k (.node b l q u x r)=if ltK k q then findT k l else if ltK q k then findT k r else some b:=rfl
theorem put_node(k:List UInt8)(v:Sv)(b:Nat)(l:Tr)(q:List UInt8)(u:Sv)(x:Nat)(r:Tr):putT k v (.node b l q u x r)=if ltK k q then .node b (putT k v l) q u x r else if ltK q k then .node b l q u x (putT k v r)else .node b l q v x r:=rfl
theorem find_in{k:List UInt8}{t:Tr}:∀{b:Nat},findT k t=some b->b∈t.blocks:=by
 induction t using Tr.ind with
 |nil=>intro b h;cases h
 |node c l q u x r ihl ihr=>
  intro b h;rw[find_node]at h;simp only[Tr.blocks,List.mem_cons,List.mem_append];split at h
  ·exact .inr (.inl (ihl h))
  ·split at h
   ·exact .inr (.inr (ihr h))
   ·injection h with h;exact .inl h.symm
theorem find_get{k:List UInt8}{t:Tr}:Srt t.toL->(findT k t).isSome=(getF k t.toL).isSome:=by
 induction t using Tr.ind with
 |nil=>intro _;rfl
 |node c l q u x r ihl ihr=>
  intro h;obtain⟨h1,h2,_,_⟩:=srt_parts h;rw[find_node];simp only[Tr.toL];rw[get_parts h];split
  ·exact ihl h1
  ·split
   ·exact ihr h2
   ·rfl
theorem find_at{w:World}{k:List UInt8}{t:Tr}:∀{b:Nat},Srt t.toL->TrAt nl t w->findT k t=some b->∃q v x l r,w.heap[b]?=some (.cells (nl.cells q v x l r) nl.ty (0,0))/\getF k t.toL=some v:=by
 induction t using Tr.ind with
 |nil=>intro b _ _ h;cases h
 |node c l q u x r ihl ihr=>
  intro b hs ha h;obtain⟨h1,h2,_,_⟩:=srt_parts hs;obtain⟨a1,a2,a3⟩:=ha;rw[find_node]at h;simp only[Tr.toL];rw[get_parts hs];split at h
  ·rename_i e;rw[if_pos e];exact ihl h1 a2 h
  ·rename_i e;rw[if_neg e];split at h
   ·rename_i e2;rw[if_pos e2];exact ihr h2 a3 h
   ·rename_i e2;rw[if_neg e2];injection h with h;subst h;exact⟨q,u,x,_,_,a1,rfl⟩
theorem put_ptr(k:List UInt8)(v:Sv)(t:Tr):(putT k v t).ptr=t.ptr:=by
 cases t using Tr.cas with
 |nil=>rfl
 |node b l q u x r=>rw[put_node];split;rfl;split<;>rfl
theorem put_hn(k:List UInt8)(v:Sv)(t:Tr):(putT k v t).hn=t.hn:=by
 cases t using Tr.cas with
 |nil=>rfl
 |node b l q u x r=>rw[put_node];split;rfl;split<;>rfl
theorem put_blocks(k:List UInt8)(v:Sv)(t:Tr):(putT k v t).blocks=t.blocks:=by
 induction t using Tr.ind with
 |nil=>rfl
 |node b l q u x r ihl ihr=>
  rw[put_node];split
  ·simp only[Tr.blocks,ihl]
  ·split
   ·simp only[Tr.blocks,ihr]
   ·rfl
theorem put_hk(k:List UInt8)(v:Sv){t:Tr}:Hk t->Hk (putT k v t):=by
 induction t using Tr.ind with
 |nil=>exact fun _=>trivial
 |node b l q u x r ihl ihr=>
  intro h;obtain⟨h1,h2,h3⟩:=h;rw[put_node];split
  ·exact⟨by rw[put_hn];exact h1,ihl h2,h3⟩
  ·split
   ·exact⟨by rw[put_hn];exact h1,h2,ihr h3⟩
   ·exact⟨h1,h2,h3⟩
theorem put_toL{k:List UInt8}{v:Sv}{t:Tr}:Srt t.toL->(findT k t).isSome=true->(putT k v t).toL=setF k v t.toL:=by
 induction t using Tr.ind with
 |nil=>intro _ h;cases h
 |node b l q u x r ihl ihr=>
  intro hs h;obtain⟨h1,h2,_,_⟩:=srt_parts hs;rw[find_node]at h;rw[put_node];simp only[Tr.toL];rw[set_parts hs];split
  ·rename_i e;rw[if_pos e]at h;simp only[Tr.toL];rw[ihl h1 h]
  ·rename_i e;rw[if_neg e]at h;split
   ·rename_i e2;rw[if_pos e2]at h;simp only[Tr.toL];rw[ihr h2 h]
   ·rename_i e2;have:q=k:=ltK_tri (by simpa using e2) (by simpa using e);subst this;rfl
theorem put_at{w:World}{k:List UInt8}{v:Sv}{t:Tr}:∀{b:Nat},TrAt nl t w->t.blocks.Nodup->findT k t=some b->TrAt nl (putT k v t) (w.setCell ⟨b,1,none⟩ (.slice v.1 v.2.1 v.2.2)):=by
 induction t using Tr.ind with
 |nil=>intro b _ _ h;cases h
 |node c l q u x r ihl ihr=>
  intro b ha hn h;obtain⟨a1,a2,a3⟩:=ha;simp only[Tr.blocks,List.nodup_cons,List.mem_append,not_or,List.nodup_append]at hn;obtain⟨⟨n1,n2⟩,n3,n4,n5⟩:=hn;have hk:=set_kept' w b 1 (.slice v.1 v.2.1 v.2.2);rw[find_node]at h;rw[put_node];split
  ·rename_i e;rw[if_pos e]at h;have hb:=find_in h;refine⟨?_,ihl a2 n3 h,TrAt.kept hk a3 (fun i hi e=>n5 b hb i hi e.symm)⟩;rw[put_ptr,hk.block c (gsz a1) (fun e=>n1 (e▸hb))];exact a1
  ·rename_i e;rw[if_neg e]at h;split
   ·rename_i e2;rw[if_pos e2]at h;have hb:=find_in h;refine⟨?_,TrAt.kept hk a2 (fun i hi e=>n5 i hi b hb e),ihr a3 n4 h⟩;rw[put_ptr,hk.block c (gsz a1) (fun e=>n2 (e▸hb))];exact a1
   ·rename_i e2;rw[if_neg e2]at h;injection h with h;subst h;exact⟨block_set _ a1,TrAt.kept hk a2 (fun i hi e=>n1 (e▸hi)),TrAt.kept hk a3 (fun i hi e=>n2 (e▸hi))⟩
theorem nd_cells{w:World}{b:Nat}{k:List UInt8}{v:Sv}{x:Nat}{l r:Value}(h:w.heap[b]?=some (.cells (nl.cells k v x l r) nl.ty (0,0))):
  ce w b 0 (sd k)/\ce w b 1 (.slice v.1 v.2.1 v.2.2)/\ce w b 2 l/\ce w b 3 r/\ce w b 4 (iw (x:Int)):=
 ⟨block_cell h rfl,block_cell h rfl,block_cell h rfl,block_cell h rfl,block_cell h rfl⟩
structure Sw(w W:World):Prop where
 heap:W.heap=w.heap
 os:W.os=w.os
 tape:W.tape=w.tape
 output:W.output=w.output
theorem Sw.refl(w:World):Sw w w:=⟨rfl,rfl,rfl,rfl⟩
theorem Sw.drew{w W:World}(h:Sw w W):Sw w W.drew:=⟨h.heap,h.os,h.tape,h.output⟩
theorem Sw.drewN{w W:World}(h:Sw w W)(n:Nat):Sw w (W.drewN n):=⟨h.heap,h.os,h.tape,h.output⟩
theorem Sw.below{w W:World}(h:Sw w W)(B:Nat):Below B w W:=⟨h.os,h.tape,h.output,by rw[h.heap];exact Nat.le_refl _,fun k _=>by rw[h.heap]⟩
theorem TrAt.sw{Y:Lay}{t:Tr}{w W:World}(h:TrAt Y t w)(s:Sw w W):TrAt Y t W:=h.on (s.below _)
theorem high27(t:Tr)(w:World)(h:TrAt nl t w):Calls Tryz.prog 262 #[t.ptr] w fun e w'=>e=.returned (iw t.hi)/\w'=w:=by
 cases t using Tr.cas with
 |nil=>
  simp only[Tr.ptr,Tr.hi];go_enter Tryz.func262,Tryz.ntmps262;go_wp2_with fail;go_ret;exact⟨rfl,rfl⟩
 |node b l k v x r=>
  obtain⟨-,-,-,-,c4⟩:=nd_cells h.1;simp only[Tr.ptr,Tr.hi];clear h;generalize (x:Int)=xi at*;go_enter Tryz.func262,Tryz.ntmps262;go_wp2_with fail;go_ret;exact⟨rfl,rfl⟩
theorem measure30{b:Nat}{l r:Tr}{k:List UInt8}{v:Sv}{x:Nat}{w:World}(h:TrAt nl (.node b l k v x r) w)(hl:0<=l.hi/\l.hi<=1000000)(hr:0<=r.hi/\r.hi<=1000000):
  Calls Tryz.prog 265 #[pz b] w fun e w'=>e=.returned (.tuple #[])/\w'.heap[b]?=some (.cells (nl.cells k v (1+max l.hn r.hn) l.ptr r.ptr) nl.ty (0,0))/\Kept (fun i=>i=b) w w':=by
 have H:Hid (w.heap[b]?=some (.cells #[sd k,.slice v.1 v.2.1 v.2.2,l.ptr,r.ptr,iw (x:Int)] nl.ty (0,0))):=h.1;obtain⟨-,-,c2,c3,c4⟩:=nd_cells h.1;have f4:=block_frozen h.1 4;have CL:Hid (∀W,Sw w W->Calls Tryz.prog 262 #[l.ptr] W fun e w'=>e=.returned (iw l.hi)/\w'=W):=fun W hs=>high27 l W (h.2.1.sw hs);have CR:Hid (∀W,Sw w W->Calls Tryz.prog 262 #[r.ptr] W fun e w'=>e=.returned (iw r.hi)/\w'=W):=fun W hs=>high27 r W (h.2.2.sw hs);have HH:Hid (((1+max l.hn r.hn:Nat):Int)=1+max l.hi r.hi):=max_hn l r;clear h;generalize 1+max l.hn r.hn=hh at*;generalize l.ptr=lp at*;generalize r.ptr=rp at*;generalize l.hi=a at*;generalize r.hi=c at*;generalize (x:Int)=xi at*;obtain⟨m,hm⟩:=xj (if a<c then c else a);have HM:Hid (1+max a c=1+m):=by show _=_;rw[<-hm];split<;>omega
 have hmb:0<=m/\m<=1000000:=by rw[<-hm];split<;>omega
 obtain⟨hm0,hm1⟩:=hmb;have HW:Hid (IntKind.i64.wrap (1+m)=1+m):=by show _=_;simp[IntKind.wrap,IntKind.bits,IntKind.signed];omega
 clear hl hr hm0 hm1;go_enter Tryz.func265,Tryz.ntmps265;go_wp2_with fail;go_region_held3 (fun W=>ce W b 2 lp/\ce W b 3 rp/\W.frozen? ⟨b,4,none⟩=false) (first|exact⟨c2,c3,f4⟩|exact⟨block_cell (block_set _ H.out) rfl,block_cell (block_set _ H.out) rfl,block_frozen (block_set _ H.out) _⟩) (first
  |(go_at_call_of 262 (lp);refine(CL.out _ (Sw.drew (Sw.refl _))).mono ?_;rintro e W1 ⟨rfl,rfl⟩)
  |(go_at_call_of 262 (rp);refine(CR.out _ (Sw.drew (Sw.refl _))).mono ?_;rintro e W1 ⟨rfl,rfl⟩))
 rw[HW.out];refine bodyPost_end (results_none Tryz.results265 _ _ _) rfl ?_;exact⟨rfl,by show _=some (Obj.cells #[sd k,.slice v.1 v.2.1 v.2.2,lp,rp,iw (hh:Int)] nl.ty (0,0));rw[HH.out,HM.out];exact block_set _ H.out,(set_kept' w b 4 _).drew⟩
def Tr.size:Tr->Nat
 |Go.Deep.BT.nil=>0
 |Go.Deep.BT.node _ _ _ l r=>Tr.size l+Tr.size r+1
theorem trAt_unique{w:World}{s:Tr}:∀{t:Tr},TrAt nl s w->TrAt nl t w->s.ptr=t.ptr->s=t:=by
 induction s using Tr.ind with
 |nil=>
  intro t _ _ h;cases t using Tr.cas with
  |nil=>rfl
  |node b l k v x r=>simp[Tr.ptr]at h
 |node b l k v x r ihl ihr=>
  intro t ha hb h;cases t using Tr.cas with
  |nil=>simp[Tr.ptr]at h
  |node c m q u y s=>
   simp only[Tr.ptr,Value.pointer.injEq,Option.some.injEq,Addr.mk.injEq]at h;obtain⟨rfl,_⟩:=h;obtain⟨a1,a2,a3⟩:=ha;obtain⟨b1,b2,b3⟩:=hb;rw[a1]at b1;simp only[nl,Option.some.injEq,Obj.cells.injEq,Array.mk.injEq,List.cons.injEq,Value.string.injEq,Value.int.injEq,Value.slice.injEq]at b1;obtain⟨⟨e0,⟨e7,e8,e9⟩,e2,e3,⟨_,e4⟩,_⟩,_⟩:=b1;have e1:v=u:=Prod.ext e7 (Prod.ext e8 e9);have e5:k=q:=by rw[<-bs_data k,<-bs_data q,e0]
   have e6:x=y:=by omega
   rw[e5,e1,e6,ihl a2 b2 e2,ihr a3 b3 e3]
theorem szAt_ex:∃f:World->Value->Nat,∀{w:World} {s:Tr},TrAt nl s w->f w s.ptr=s.size:=by refine⟨fun w n=>@dite Nat (∃s:Tr,TrAt nl s w/\s.ptr=n) (Classical.propDecidable _) (fun h=>h.choose.size) (fun _=>0),fun{w s} h=>?_⟩;have hx:∃s':Tr,TrAt nl s' w/\s'.ptr=s.ptr:=⟨s,h,rfl⟩;show@dite Nat (∃s':Tr,TrAt nl s' w/\s'.ptr=s.ptr) (Classical.propDecidable _) (fun h=>h.choose.size) (fun _=>0)=s.size;rw[dif_pos hx,trAt_unique hx.choose_spec.1 h hx.choose_spec.2]
def onJump(J:Nat->Act->World->Prop)(Q:Exit->Act->World->Prop):Exit->Act->World->Prop
 |.goto l,a,w=>J l a w
 |e,a,w=>Q e a w
theorem scope_labels{P:Program}{a:Act}{w:World}{Q:Exit->Act->World->Prop}{c:Code}(J:Nat->Act->World->Prop)(μ:Nat->Act->World->Nat)
  (pass:∀l a w,J l a w->∃rest,findLabel c l=some (Code.skip.seq rest)/\rest.wp P (onJump (fun l' a' w'=>J l' a' w'/\μ l' a' w'<μ l a w) Q) a w)
  (first:(∀l a w rest,findLabel c l=some (Code.skip.seq rest)->J l a w->rest.wp P (onJump J Q) a w)->c.wp P (onJump J Q) a w):(Code.scope c).wp P Q a w:=by
 have first:=first (fun l a w rest hr hJ=>by
  obtain⟨r,hr',hwp⟩:=pass l a w hJ;rw[hr]at hr';injection hr' with hr';injection hr' with _ hr';subst hr';refine Code.wp_mono ?_ hwp;intro e a1 w1 hq;cases e with
  |goto l'=>exact hq.1
  |normal=>exact hq
  |exit id=>exact hq
  |ret=>exact hq
  |panic ch=>exact hq
  |outgrown=>exact hq)
 intro b k cs;have key:∀n l a w rest,findLabel c l=some rest->μ l a w=n->J l a w->∃e a' w',Q e a' w'/\Arrives P (lone (b.at a (.code rest:: .inScope c::k)) cs w) b k cs e a' w':=by
  intro n;induction n using Nat.strongRecOn with
  |ind n ih=>
   intro l a w rest hr hn hJ;obtain⟨rest',hr',hwp⟩:=pass l a w hJ;rw[hr]at hr';injection hr' with hr';subst hr';have hwp2:(Code.skip.seq rest').wp P (onJump (fun l' a' w'=>J l' a' w'/\μ l' a' w'<μ l a w) Q) a w:=wp_seq (wp_skip hwp);obtain⟨e,a1,w1,hq,harr⟩:=hwp2 b (.inScope c::k) cs;cases e with
   |normal=>exact⟨.normal,a1,w1,hq,Steps.trans harr (.one step_inScope)⟩
   |exit id=>exact⟨.exit id,a1,w1,hq,fun k' hk=>harr k' (by simp[exitTo,hk])⟩
   |goto l'=>
    obtain⟨hJ',hlt⟩:=hq;obtain⟨r2,hr2,_⟩:=pass l' a1 w1 hJ';obtain⟨e2,a2,w2,hq2,harr2⟩:=ih _ (by omega) l' a1 w1 _ hr2 rfl hJ';exact⟨e2,a2,w2,hq2,.of_steps (harr _ (by simp[gotoIn,hr2])) harr2⟩
   |ret=>exact⟨_,a1,w1,hq,harr⟩
   |panic ch=>exact⟨_,a1,w1,hq,harr⟩
   |outgrown=>exact⟨_,a1,w1,hq,harr⟩
 obtain⟨e,a1,w1,hq,harr⟩:=first b (.inScope c::k) cs
 cases e with
 |normal=>exact⟨.normal,a1,w1,hq,.head step_scope (Steps.trans harr (.one step_inScope))⟩
 |exit id=>exact⟨.exit id,a1,w1,hq,fun k' hk=>.head step_scope (harr k' (by simp[exitTo,hk]))⟩
 |goto l'=>
  obtain⟨r2,hr2,_⟩:=pass l' a1 w1 hq;obtain⟨e2,a2,w2,hq2,harr2⟩:=key _ l' a1 w1 _ hr2 rfl hq;exact⟨e2,a2,w2,hq2,.of_steps (.head step_scope (harr _ (by simp[gotoIn,hr2]))) harr2⟩
 |ret=>exact⟨_,a1,w1,hq,.of_steps (.one step_scope) harr⟩
 |panic ch=>exact⟨_,a1,w1,hq,.of_steps (.one step_scope) harr⟩
 |outgrown=>exact⟨_,a1,w1,hq,.of_steps (.one step_scope) harr⟩
def AtLook(p:Nat)(key:List UInt8)(o:Value)(a:Act):Prop:=
 ∃u6 u7 u8 u9 u10 u11 u12 u13 u14 u15 u16 u17 u18 u19 u20 u21 u22 u23 u24 u25 u26 u27 u28 u29 u30 u31 u32 u33 u34 u35 u36:Value,a={tmps:=#[pz p,sd key,undef,undef,.pointer none,o,u6,u7,u8,u9,u10,u11,u12,u13,u14,u15,u16,u17,u18,u19,u20,u21,u22,u23,u24,u25,u26,u27,u28,u29,u30,u31,u32,u33,u34,u35,u36],defers:=[]}
theorem atLook{p:Nat}{key:List UInt8}{o:Value}{u6 u7 u8 u9 u10 u11 u12 u13 u14 u15 u16 u17 u18 u19 u20 u21 u22 u23 u24 u25 u26 u27 u28 u29 u30 u31 u32 u33 u34 u35 u36:Value}:AtLook p key o {tmps:=#[pz p,sd key,undef,undef,.pointer none,o,u6,u7,u8,u9,u10,u11,u12,u13,u14,u15,u16,u17,u18,u19,u20,u21,u22,u23,u24,u25,u26,u27,u28,u29,u30,u31,u32,u33,u34,u35,u36],defers:=[]}:=
 ⟨u6,u7,u8,u9,u10,u11,u12,u13,u14,u15,u16,u17,u18,u19,u20,u21,u22,u23,u24,u25,u26,u27,u28,u29,u30,u31,u32,u33,u34,u35,u36,rfl⟩
def ptrO:Option Nat->Value
 |none=>.pointer none
 |some b=>.pointer (some ⟨b,0,none⟩)
theorem find20(p:Nat)(key:List UInt8)(t:Tr)(w:World)(h0:w.cell? ⟨p,0,none⟩=some t.ptr)(ht:TrAt nl t w):
  Calls Tryz.prog 171 #[pz p,sd key] w fun e w'=>e=.returned (ptrO (findT key t))/\w'=w:=by
 obtain⟨szAt,szAt_eq⟩:=szAt_ex;have HSz:Hid (∀{w:World} {s:Tr},TrAt nl s w->szAt w s.ptr=s.size):=szAt_eq;clear szAt_eq;have HT:Hid (TrAt nl t w):=ht;obtain⟨y,hy⟩:=xj (findT key t);rw[hy];have HY:Hid (findT key t=y):=hy;clear ht hy;go_enter Tryz.func171,Tryz.ntmps171;go_wp2;refine scope_labels (fun l a' w'=>w'=w/\l=0/\∃sp,AtLook p key sp a'/\∃s,TrAt nl s w/\findT key s=y/\s.ptr=sp) (fun _ a' _=>szAt w (a'.tmps.getD 5 undef)) ?_ ?_
 ·rintro l a' w' ⟨rfl,rfl,sp,hat,s,hs,hf,rfl⟩;obtain⟨u6,u7,u8,u9,u10,u11,u12,u13,u14,u15,u16,u17,u18,u19,u20,u21,u22,u23,u24,u25,u26,u27,u28,u29,u30,u31,u32,u33,u34,u35,u36,rfl⟩:=hat;refine⟨_,rfl,?_⟩;clear HT HY h0;cases s using Tr.cas with
  |nil=>
   have hy:none=y:=hf;subst hy;simp only[Tr.ptr];clear hs hf;go_wp2;simp only[onJump];go_ret;exact⟨rfl,rfl⟩
  |node c l q u x r=>
   obtain⟨c0,-,c2,c3,-⟩:=nd_cells hs.1;have q0:=bs_beq q key;have q1:=bl key q;simp only[Tr.ptr];by_cases hq:q=key
   ·have hy:some c=y:=by rw[<-hf];simp[findT,hq,ltK_irrefl]
    subst hy;have hq':(q==key)=true:=by simp[hq]
    rw[hq']at q0;clear hs hf hq hq' c2 c3 q1;go_wp2;simp only[onJump];go_ret;exact⟨rfl,rfl⟩
   ·have hq':(q==key)=false:=by simp[hq]
    rw[hq']at q0;by_cases h1:ltK key q=true
    ·rw[h1]at q1;have HN:Hid (TrAt nl l w'/\findT key l=y):=⟨hs.2.1,by rw[<-hf];simp[findT,h1]⟩;have HM:Hid (szAt w' l.ptr<szAt w' (pz c)):=by have e1:=HSz.out hs.2.1;have e2:szAt w' (pz c)=_:=HSz.out hs;show _<_;rw[e1,e2];simp only[Tr.size];omega
     obtain⟨sp,hsp⟩:=xj l.ptr;have HJ:Hid (∃s,TrAt nl s w'/\findT key s=y/\s.ptr=sp):=⟨l,HN.out.1,HN.out.2,hsp⟩;rw[hsp]at HM c2;clear hs hf HN hsp;go_wp2_with fail
     go_step3
     exact⟨⟨rfl,rfl,sp,atLook,HJ.out⟩,HM.out⟩
    ·have h1':ltK key q=false:=by simpa using h1
     have h2:ltK q key=true:=by
      cases e:ltK q key
      ·exact absurd (ltK_tri e h1') hq
      ·rfl
     rw[h1']at q1;have HN:Hid (TrAt nl r w'/\findT key r=y):=⟨hs.2.2,by rw[<-hf];simp[findT,h1',h2]⟩;have HM:Hid (szAt w' r.ptr<szAt w' (pz c)):=by have e1:=HSz.out hs.2.2;have e2:szAt w' (pz c)=_:=HSz.out hs;show _<_;rw[e1,e2];simp only[Tr.size];omega
     obtain⟨sp,hsp⟩:=xj r.ptr;have HJ:Hid (∃s,TrAt nl s w'/\findT key s=y/\s.ptr=sp):=⟨r,HN.out.1,HN.out.2,hsp⟩;rw[hsp]at HM c3;clear hs hf HN hsp;go_wp2_with fail
     go_step3
     exact⟨⟨rfl,rfl,sp,atLook,HJ.out⟩,HM.out⟩
 ·intro hp;obtain⟨tp,htp⟩:=xj t.ptr;have HX:Hid _:=hp;have HJ:Hid (∃s,TrAt nl s w/\findT key s=y/\s.ptr=tp):=⟨t,HT.out,HY.out,htp⟩;rw[htp]at h0;clear HT HY hp htp;go_wp2
  go_step3
  rename_i Z hZ;refine hZ _ _ ?_;exact HX.out 0 _ _ _ rfl ⟨rfl,rfl,tp,atLook,HJ.out⟩
theorem range_len(lo hi:List UInt8)(L:Kv Sv):(rangeF lo hi L).length<=L.length:=by unfold rangeF;exact Nat.le_trans (List.length_filter_le _ _) (by simp)
theorem cut_none{k:List UInt8}:∀{L:Kv Sv},getF k L=none->cutF k L=L
 |[],_=>rfl
 |(a,v)::r,h=>by
  unfold getF at h;split at h
  ·cases h
  ·rename_i e;unfold cutF;rw[if_neg e,cut_none h]
def gatF(lim:Nat)(K A:List (List UInt8)):List (List UInt8):=K++A.take (lim-K.length)
theorem gat_nil(lim:Nat)(K:List (List UInt8)):gatF lim K []=K:=by simp[gatF]
theorem gat_full{lim:Nat}{K:List (List UInt8)}(h:lim<=K.length)(A:List (List UInt8)):gatF lim K A=K:=by unfold gatF;rw[show lim-K.length=0 by omega];simp
theorem gat_append(lim:Nat)(K A C:List (List UInt8)):gatF lim K (A++C)=gatF lim (gatF lim K A) C:=by unfold gatF;rw[List.take_append,List.append_assoc,List.length_append,List.length_take];congr 3;omega
theorem gat_one(lim:Nat)(K:List (List UInt8))(k:List UInt8):gatF lim K [k]=if K.length<lim then K++[k]else K:=by
 by_cases h:K.length<lim
 ·rw[if_pos h];unfold gatF;obtain⟨n,hn⟩:∃n,lim-K.length=n+1:=⟨lim-K.length-1,by omega⟩;rw[hn];simp
 ·rw[if_neg h];exact gat_full (by omega) _
theorem gat_len(lim:Nat)(K A:List (List UInt8)):(gatF lim K A).length<=K.length+A.length:=by unfold gatF;rw[List.length_append,List.length_take];omega
theorem gat_start(lo hi:List UInt8)(limit:Int)(L:Kv Sv):gatF limit.toNat [] (rangeF lo hi L)=keysF lo hi limit L:=by simp[gatF,keysF]
theorem below_lo{lo hi:List UInt8}{A R:Kv Sv}{k:List UInt8}{u:Sv}(hs:Srt (A++(k,u)::R))(h:ltK lo k=false):rangeF lo hi A=[]:=by obtain⟨_,_,h1,_⟩:=srt_parts hs;refine range_none fun x hx=>?_;have:=ltK_le2 (h1 x hx) h;simp[inR,this]
theorem above_hi{lo hi:List UInt8}{A R:Kv Sv}{k:List UInt8}{u:Sv}(hs:Srt (A++(k,u)::R))(h0:hi.isEmpty=false)(h:ltK k hi=false):rangeF lo hi ((k,u)::R)=[]:=by
 obtain⟨_,_,_,h2⟩:=srt_parts hs;refine range_none fun x hx=>?_;have hx':ltK x.1 hi=false:=by
  rcases List.mem_cons.1 hx with rfl|hx
  ·exact h
  ·cases e:ltK x.1 hi
   ·rfl
   ·exact absurd (ltK_trans (h2 x hx) e) (by simp[h])
 simp only[inR,h0,hx',Bool.or_false,Bool.and_false]
theorem gat_stop{lo hi:List UInt8}{A R:Kv Sv}{k:List UInt8}{u:Sv}{lim:Nat}{K:List (List UInt8)}(hs:Srt (A++(k,u)::R))(h0:hi.isEmpty=false)(h:ltK k hi=false):gatF lim K (rangeF lo hi (A++(k,u)::R))=gatF lim K (rangeF lo hi A):=by rw[range_append,above_hi hs h0 h,List.append_nil]
theorem gat_on{lo hi:List UInt8}{A R:Kv Sv}{k:List UInt8}{u:Sv}{lim:Nat}{K:List (List UInt8)}(h:(hi.isEmpty||ltK k hi)=true):
  gatF lim K (rangeF lo hi (A++(k,u)::R))=gatF lim (if ltK k lo=false/\(gatF lim K (rangeF lo hi A)).length<lim then gatF lim K (rangeF lo hi A)++[k]else gatF lim K (rangeF lo hi A)) (rangeF lo hi R):=by
 rw[range_append,range_cons,gat_append];cases h1:ltK k lo
 ·rw[if_pos (by simp only[inR,h1,h];rfl),show k::rangeF lo hi R=[k]++rangeF lo hi R from rfl,gat_append,gat_one];simp
 ·rw[if_neg (by simp[inR,h1])];simp
theorem TrAt.below{Y:Lay}{t:Tr}{B:Nat}{w w':World}(h:TrAt Y t w)(hb:Below B w w')(hB:∀b∈t.blocks,b<B):TrAt Y t w':=TrAt.kept (Kept.of_below' hb) h (fun b hb' e=>by have:=hB b hb';omega)
theorem gather24(B:Nat)(lo hi:List UInt8)(limit:Int)(t:Tr):∀(K:List (List UInt8)) (vs:Value) (w:World),TrAt nl t w->(∀b∈t.blocks,b<B)->Srt t.toL->B<=w.heap.size->w.ownsRow B 9 1 vs K.length (kc K)->K.length+t.toL.length<1000000->
  Calls Tryz.prog 170 #[t.ptr,vs,sd lo,sd hi,iw limit] w fun e w'=>∃v',e=.returned v'/\w'.ownsRow B 9 1 v' (gatF limit.toNat K (rangeF lo hi t.toL)).length (kc (gatF limit.toNat K (rangeF lo hi t.toL)))/\Below B w w':=by
 obtain⟨i0,hin,hi0,hi1,hi2⟩:=info_parts info9;induction t using Tr.ind with
 |nil=>
  intro K vs w _ _ _ _ ho _;obtain⟨sa,sc,rfl,-,-,-,-⟩:=rw_own ho;have HO:Hid _:=ho;clear ho hin hi0 hi1 hi2;simp only[Tr.toL,rangeF,List.map_nil,List.filter_nil,gat_nil,Tr.ptr];go_enter Tryz.func170,Tryz.ntmps170;go_wp2_with fail;go_ret;exact⟨_,rfl,HO.out,Below.refl _ _⟩
 |node b l k u x r ihl ihr=>
  intro K vs w ha hB hs hBw ho hf;obtain⟨sa,sc,rfl,-,-,-,-⟩:=rw_own ho;by_cases hroom:limit<=K.length
  ·have HX:Hid (gatF limit.toNat K (rangeF lo hi (Tr.node b l k u x r).toL)=K):=gat_full (by omega) _;rw[HX.out];have HO:Hid _:=ho;clear ho HX ha hB hs hBw hf ihl ihr hin hi0 hi1 hi2;simp only[Tr.ptr];go_enter Tryz.func170,Tryz.ntmps170;go_wp2_with fail;go_ret;exact⟨_,rfl,HO.out,Below.refl _ _⟩
  ·obtain⟨hs1,hs2,_,_⟩:=srt_parts hs;have hf':=hf;simp only[Tr.toL,List.length_append,List.length_cons]at hf';have hr':¬limit<=(K.length:Int):=by omega
   obtain⟨c0,-,c2,-,-⟩:=nd_cells ha.1;have q1:=bl lo k;have q2:=bl k lo;have q3:=bl k hi;have q4:(bs hi).toList.isEmpty=hi.isEmpty:=by rw[bs_list]
   have HA:Hid (∀w',Below B w w'->TrAt nl (.node b l k u x r) w'):=fun w' hb=>ha.below hb hB;have CL:Hid (1=1->Calls Tryz.prog 170 #[l.ptr,.slice sa K.length sc,sd lo,sd hi,iw limit] w fun e w'=>∃v',e=.returned v'/\w'.ownsRow B 9 1 v' (gatF limit.toNat K (rangeF lo hi l.toL)).length (kc (gatF limit.toNat K (rangeF lo hi l.toL)))/\Below B w w'):=
    fun _=>ihl K _ w ha.2.1 (fun i hi=>hB i (by simp[Tr.blocks,hi])) hs1 hBw ho (by omega)
   have CR:Hid (∀(K2:List (List UInt8)) (v2:Value) (w2:World),Below B w w2->w2.ownsRow B 9 1 v2 K2.length (kc K2)->K2.length+r.toL.length<1000000->Calls Tryz.prog 170 #[r.ptr,v2,sd lo,sd hi,iw limit] w2 fun e w'=>∃v',e=.returned v'/\w'.ownsRow B 9 1 v' (gatF limit.toNat K2 (rangeF lo hi r.toL)).length (kc (gatF limit.toNat K2 (rangeF lo hi r.toL)))/\Below B w2 w'):=
    fun K2 v2 w2 hb ho2 hf2=>ihr K2 v2 w2 (HA.out w2 hb).2.2 (fun i hi=>hB i (by simp[Tr.blocks,hi])) hs2 (Nat.le_trans hBw hb.size) ho2 hf2
   have HZ1:Hid (ltK lo k=false->gatF limit.toNat K (rangeF lo hi l.toL)=K):=fun h=>by rw[below_lo hs h,gat_nil]
   have HZ2:Hid (hi.isEmpty=false->ltK k hi=false->gatF limit.toNat K (rangeF lo hi (Tr.node b l k u x r).toL)=gatF limit.toNat K (rangeF lo hi l.toL)):=fun h0 h=>gat_stop hs h0 h;have HZ3:Hid ((hi.isEmpty||ltK k hi)=true->gatF limit.toNat K (rangeF lo hi (Tr.node b l k u x r).toL)=gatF limit.toNat (if ltK k lo=false/\(gatF limit.toNat K (rangeF lo hi l.toL)).length<limit.toNat then gatF limit.toNat K (rangeF lo hi l.toL)++[k]else gatF limit.toNat K (rangeF lo hi l.toL)) (rangeF lo hi r.toL)):=fun h=>gat_on h;have HO:Hid (w.ownsRow B 9 1 (.slice sa K.length sc) K.length (kc K)):=ho;have HF:Hid ((gatF limit.toNat K (rangeF lo hi l.toL)).length+1+r.toL.length<1000000):=by have:=gat_len limit.toNat K (rangeF lo hi l.toL);have:=range_len lo hi l.toL;show _<_;omega
   clear ihl ihr ha hB hs hf hs1 hs2 hf' ho hroom;generalize gatF limit.toNat K (rangeF lo hi (Tr.node b l k u x r).toL)=Y at*;generalize gatF limit.toNat K (rangeF lo hi l.toL)=K1 at*;obtain⟨lp,hlp⟩:=xj l.ptr;rw[hlp]at c2 CL;clear hlp;simp only[Tr.ptr];generalize ltK lo k=z1 at*;generalize ltK k lo=z2 at*;generalize ltK k hi=z3 at*;generalize hi.isEmpty=z4 at*;go_enter Tryz.func170,Tryz.ntmps170;go_upto_if 25 with fail
   go_cut [1] (fun v wc=>∃sa sc,v=.slice sa K1.length sc/\Hid (wc.ownsRow B 9 1 v K1.length (kc K1)/\Below B w wc))
   case first=>
    cases z1
    ·have h1:=HZ1.out rfl;subst h1;go_wp2_with fail;go_meet;exact⟨sa,sc,rfl,HO.out,Below.refl _ _⟩
    ·go_wp2_with fail;refine(CL.out (by trivial)).mono ?_;rintro e w1 ⟨v1,rfl,ho1,hb1⟩;obtain⟨sa1,sc1,rfl,-,-,-,-⟩:=rw_own ho1;have H1:Hid _:=And.intro ho1 hb1;clear ho1 hb1;go_wp2_with fail;go_meet;exact⟨sa1,sc1,rfl,H1.out⟩
   case rest=>
    obtain⟨sa1,sc1,rfl,H1⟩:=hcut;obtain⟨d0,-,-,-,-⟩:=nd_cells (HA.out wc H1.out.2).1;obtain⟨rp,hrp⟩:=xj r.ptr;have HR:Hid (∀w',Below B w w'->ce w' b 3 rp):=fun w' hb=>by rw[<-hrp];exact(nd_cells (HA.out w' hb).1).2.2.2.1
    rw[hrp]at CR;clear hrp c0 c2 CL HO HZ1 HA;by_cases hstop:z4=false/\z3=false
    ·obtain⟨rfl,rfl⟩:=hstop;have h:=HZ2.out rfl rfl;subst h;go_wp2_with fail;go_ret;exact⟨_,rfl,H1.out⟩
    ·have HY:Hid _:=HZ3.out (by cases z4<;>cases z3<;>simp at hstop|-);have harms:z4=true\/z4=false/\z3=true:=by cases z4<;>cases z3<;>simp at hstop|-
     clear hstop HZ2 HZ3;have CC:Hid (∀(K2:List (List UInt8)) (v2:Value) (w2:World),K2=(if z2=false/\K1.length<limit.toNat then K1++[k]else K1)->w2.ownsRow B 9 1 v2 K2.length (kc K2)->Below B w w2->Calls Tryz.prog 170 #[rp,v2,sd lo,sd hi,iw limit] w2 fun e w'=>∃v',e=.returned v'/\w'.ownsRow B 9 1 v' Y.length (kc Y)/\Below B w w'):=fun K2 v2 w2 hK2 ho hb=>by
      have hl2:K2.length+r.toL.length<1000000:=by have:=HF.out;rw[hK2];split<;>simp<;>omega
      refine(CR.out K2 _ _ hb ho hl2).mono ?_;rintro e w' ⟨v',rfl,ho',hb'⟩;rw[HY.out,<-hK2];exact⟨v',rfl,ho',hb.trans hb'⟩
     clear CR HY;rcases harms with rfl|⟨rfl,rfl⟩
     all_goals
      cases z2
      ·by_cases hlt:(K1.length:Int)<limit
       ·have HOw:Hid (Ow B 9 1 (.slice sa1 K1.length sc1) K1.length (kc K1) (wc.heap.size+1) (.slice (some ⟨wc.heap.size,0,none⟩) 1 1) 1 (kc [k]) (wc.alloc (.cells #[sd k] 9))):=⟨World.ownsRow.alloc H1.out.1 _,ks_one wc k,kc_one _,Nat.le_trans hBw (Nat.le_trans H1.out.2.size (by simp)),by have:=HF.out;omega⟩;have HK:Hid (K1++[k]=(if false=false/\K1.length<limit.toNat then K1++[k]else K1)):=(if_pos ⟨rfl,by omega⟩).symm;go_wp2_with (at_builtin;refine wpList_append_rw HOw.out Tryz.underlying101 hin hi0 hi1 hi2 rfl (by decide) (by decide) (.tmp 58) (.tmp 63) rfl rfl rfl rfl ?_);intro v' w2 hown hg hat;have HB2:Hid (Below B w w2):=below_own (H1.out.2.alloc (Nat.le_trans hBw H1.out.2.size) _) HOw.out.size HOw.out.own hg;obtain⟨sa2,sc2,rfl,-,-,-,-⟩:=rw_own hown;have CR2:Hid (1=1->_):=fun _=>CC.out (K1++[k]) (.slice sa2 (K1.length+1) sc2) w2 HK.out (by rw[kc_append,List.length_append];exact hown) HB2.out;have d3:=HR.out _ HB2.out;clear hown hg hat HOw HK HB2 CC;go_wp2_with fail;refine(CR2.out (by trivial)).mono ?_;rintro e w3 ⟨v3,rfl,ho3,hb3⟩;obtain⟨sa3,sc3,rfl,-,-,-,-⟩:=rw_own ho3;have H3:Hid _:=And.intro ho3 hb3;clear ho3 hb3 CR2;go_wp2_with fail;go_ret;exact⟨_,rfl,H3.out⟩
       ·have hge:¬(K1.length:Int)<limit:=hlt;have HK:Hid (K1=(if false=false/\K1.length<limit.toNat then K1++[k]else K1)):=(if_neg (by omega)).symm;have CR2:Hid (1=1->_):=fun _=>CC.out K1 (.slice sa1 K1.length sc1) wc HK.out H1.out.1 H1.out.2;have d3:=HR.out _ H1.out.2;clear hlt HK CC;go_wp2_with fail;refine(CR2.out (by trivial)).mono ?_;rintro e w3 ⟨v3,rfl,ho3,hb3⟩;obtain⟨sa3,sc3,rfl,-,-,-,-⟩:=rw_own ho3;have H3:Hid _:=And.intro ho3 hb3;clear ho3 hb3 CR2;go_wp2_with fail;go_ret;exact⟨_,rfl,H3.out⟩
      ·have CR2:Hid (1=1->_):=fun _=>CC.out K1 (.slice sa1 K1.length sc1) wc (by simp) H1.out.1 H1.out.2;have d3:=HR.out _ H1.out.2;clear CC;go_wp2_with fail;refine(CR2.out (by trivial)).mono ?_;rintro e w3 ⟨v3,rfl,ho3,hb3⟩;obtain⟨sa3,sc3,rfl,-,-,-,-⟩:=rw_own ho3;have H3:Hid _:=And.intro ho3 hb3;clear ho3 hb3 CR2;go_wp2_with fail;go_ret;exact⟨_,rfl,H3.out⟩
end Go.Proofs.YtdplfgcoaddbdaaGreat.Sto
