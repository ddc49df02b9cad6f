import Derived.ScopeJumps
import Derived.WalkMore
import Derived.Test.YtdplfgcoaddbdaaGreatXaf
set_option maxHeartbeats 4000000
set_option maxRecDepth 100000
set_option linter.unusedVariables false
set_option linter.unusedSimpArgs false
namespace Go.Proofs.YtdplfgcoaddbdaaGreat.Sto
open Go.RowKit
abbrev Sk:=Kv (List Ve)
def chainF(k:List UInt8)(S:Sk):List Ve:=(getF k S).getD []
def keyB(k:List UInt8):Bool:=decide (1<=k.length)&&decide (k.length<=32)
def seeF(c:List Ve)(p l:Int):Option (List UInt8):=match atF c p l with
 |none=>none
 |some v=>if v.dead then none else some v.val
def putS(k:List UInt8)(v:Ve)(S:Sk):Sk×Int:=if keyB k then(if(putF (chainF k S) v).2=0 then(setF k (putF (chainF k S) v).1 S,0)else(S,(putF (chainF k S) v).2))else(S,1)
def scanR(p l:Int)(S:Sk):List (List UInt8×List UInt8):=S.filterMap fun x=>(seeF x.2 p l).map fun s=>(x.1,s)
def rngS(lo hi:List UInt8)(S:Sk):Sk:=S.filter fun x=>inR lo hi x.1
def scanS(lo hi:List UInt8)(p l limit:Int)(S:Sk):List (List UInt8×List UInt8):=(scanR p l (rngS lo hi S)).take (min limit 32).toNat
def prune1(p l:Int)(x:List UInt8×List Ve):Option (List UInt8×List Ve):=if(pruneF x.2 p l).isEmpty then none else some (x.1,pruneF x.2 p l)
def pruneS(p l:Int)(S:Sk):Sk:=S.filterMap (prune1 p l)
def goneS(p l:Int)(S:Sk):Nat:=(S.map fun x=>x.2.length-(pruneF x.2 p l).length).sum
def totS(S:Sk):Nat:=(S.map fun x=>x.2.length).sum
structure SOk(S:Sk):Prop where
 srt:Srt S
 all:∀x∈S,Ch x.2/\x.2≠[]
theorem SOk.nil:SOk []:=⟨List.Pairwise.nil,fun _ h=>by cases h⟩
theorem chain_mem{S:Sk}(h:SOk S){k:List UInt8}{c:List Ve}(hm:(k,c)∈S):chainF k S=c:=by unfold chainF;rw[(getF_mem h.srt).2 hm];rfl
theorem ins_ne{v:Ve}:∀{c d:List Ve},insF v c=some d->d≠[]
 |[],d,h=>by simp only[insF,Option.some.injEq]at h;subst h;simp
 |u::r,d,h=>by
  unfold insF at h;split at h
  ·cases e:insF v r with
   |none=>rw[e]at h;cases h
   |some x=>rw[e]at h;simp only[Option.map_some,Option.some.injEq]at h;subst h;simp
  ·split at h
   ·split at h
    ·simp only[Option.some.injEq]at h;subst h;simp
    ·cases h
   ·simp only[Option.some.injEq]at h;subst h;simp
theorem put_good{c:List Ve}{v:Ve}(h:(putF c v).2=0):Ch (putF c v).1/\(putF c v).1≠[]/\(putF c v).1.length<=c.length+1:=by
 have e:putF c v=((putF c v).1,0):=by rw[<-h]
 obtain⟨h1,h2,_,h4,_⟩:=putF_ok e;refine⟨h2,ins_ne h4,?_⟩;rcases(insF_cases h4 h1.desc).2.2 with⟨e1,_⟩|e1
 ·rw[e1];omega
 ·omega
theorem put_sok{S:Sk}(h:SOk S)(k:List UInt8)(v:Ve):SOk (putS k v S).1:=by
 unfold putS;split
 ·split
  ·rename_i h0;refine⟨setF_srt h.srt,fun x hx=>?_⟩;rcases setF_keys hx with rfl|hx
   ·exact⟨(put_good h0).1,(put_good h0).2.1⟩
   ·exact h.all x hx
  ·exact h
 ·exact h
theorem tot_set{k:List UInt8}{c:List Ve}:∀{S:Sk},Srt S->totS (setF k c S)+(chainF k S).length=totS S+c.length
 |[],_=>by simp[totS,setF,chainF,getF]
 |(a,u)::r,h=>by
  obtain⟨h1,h2⟩:=List.pairwise_cons.1 h;have ih:=tot_set (S:=r) (k:=k) (c:=c) h2;unfold setF;by_cases e:ltK a k=true
  ·rw[if_pos e];have hne:(a==k)=false:=by simpa using ltK_ne e
   simp only[chainF,getF,hne,Bool.false_eq_true,if_false]at ih|-;simp only[totS,List.map_cons,List.sum_cons]at ih|-;omega
  ·rw[if_neg e];by_cases e2:(a==k)=true
   ·rw[if_pos e2];simp only[chainF,getF,e2,if_true,Option.getD_some,totS,List.map_cons,List.sum_cons];omega
   ·rw[if_neg e2];have hn:getF k ((a,u)::r)=none:=by
     refine getF_none fun x hx=>?_;have hka:ltK k a=true:=by
      cases h5:ltK k a
      ·exact absurd (ltK_tri (by simpa using e) h5) (by simpa using e2)
      ·rfl
     rcases List.mem_cons.1 hx with rfl|hx
     ·exact(ltK_ne hka).symm
     ·exact(ltK_ne (ltK_trans hka (h1 x hx))).symm
    simp only[chainF,hn,Option.getD_none,List.length_nil,totS,List.map_cons,List.sum_cons];omega
theorem tot_put{S:Sk}(h:SOk S)(k:List UInt8)(v:Ve):totS (putS k v S).1<=totS S+1:=by
 unfold putS;split
 ·split
  ·rename_i h0;have:=tot_set (S:=S) (k:=k) (c:=(putF (chainF k S) v).1) h.srt;have:=(put_good h0).2.2;dsimp only;omega
  ·exact Nat.le_succ _
 ·exact Nat.le_succ _
theorem len_tot:∀{S:Sk},(∀x∈S,Ch x.2/\x.2≠[])->S.length<=totS S
 |[],_=>Nat.le_refl _
 |x::r,h=>by have ih:=len_tot (S:=r) (fun y hy=>h y (by simp[hy]));have h0:=List.length_pos_iff.2 (h x (by simp)).2;simp only[totS,List.map_cons,List.sum_cons,List.length_cons]at ih|-;omega
theorem mem_tot:∀{S:Sk} {x:List UInt8×List Ve},x∈S->x.2.length<=totS S
 |[],_,h=>by cases h
 |y::r,x,h=>by
  simp only[totS,List.map_cons,List.sum_cons];rcases List.mem_cons.1 h with rfl|h
  ·omega
  ·have:=mem_tot h;simp only[totS]at this;omega
theorem prune_ch{c:List Ve}(h:Ch c)(p l:Int):pruneF c p l=pruneR p l c/\Ch (pruneF c p l):=by
 have e:pruneF c p l=pruneR p l c:=by unfold pruneF;rw[if_pos (rightC_iff.2 h)]
 exact⟨e,by rw[e];exact(pruneR_ch h p l).1⟩
theorem prune_le{c:List Ve}(hc:Ch c)(p l:Int):(pruneF c p l).length<=c.length:=by rw[(prune_ch hc p l).1];exact(pruneR_ch hc p l).2
theorem prune_key{p l:Int}{x y:List UInt8×List Ve}(h:prune1 p l x=some y):y=(x.1,pruneF x.2 p l)/\pruneF x.2 p l≠[]:=by
 unfold prune1 at h;split at h
 ·cases h
 ·rename_i e;simp only[Option.some.injEq]at h;exact⟨h.symm,by simpa using e⟩
theorem pruneS_mem{p l:Int}{S:Sk}{y:List UInt8×List Ve}:y∈pruneS p l S↔∃x∈S,y=(x.1,pruneF x.2 p l)/\pruneF x.2 p l≠[]:=by
 unfold pruneS;rw[List.mem_filterMap];constructor
 ·rintro⟨x,hx,h⟩;exact⟨x,hx,prune_key h⟩
 ·rintro⟨x,hx,rfl,h⟩;refine⟨x,hx,?_⟩;unfold prune1;rw[if_neg (by simpa using h)]
theorem pruneS_srt(p l:Int):∀{S:Sk},Srt S->Srt (pruneS p l S)
 |[],_=>List.Pairwise.nil
 |x::r,h=>by
  obtain⟨h1,h2⟩:=List.pairwise_cons.1 h;have ih:=pruneS_srt p l h2;unfold pruneS;rw[List.filterMap_cons];split
  ·exact ih
  ·rename_i y e;refine List.pairwise_cons.2 ⟨fun z hz=>?_,ih⟩;obtain⟨a,ha,rfl,_⟩:=pruneS_mem.1 hz;rw[(prune_key e).1];exact h1 a ha
theorem tot_prune(p l:Int):∀{S:Sk},(∀x∈S,Ch x.2/\x.2≠[])->totS (pruneS p l S)+goneS p l S=totS S
 |[],_=>rfl
 |x::r,h=>by
  have ih:=tot_prune p l (S:=r) (fun y hy=>h y (by simp[hy]));have hle:=prune_le (h x (by simp)).1 p l;unfold pruneS at ih|-;rw[List.filterMap_cons];simp only[totS,goneS,List.map_cons,List.sum_cons]at ih|-;split
  ·rename_i e;have h0:(pruneF x.2 p l).length=0:=by
    unfold prune1 at e;split at e
    ·rename_i e2;simpa using e2
    ·cases e
   omega
  ·rename_i y e;rw[(prune_key e).1];simp only[List.map_cons,List.sum_cons];omega
def dk:List UInt8×Sv:=([],none,0,0)
def itc:Kv Sv->List Value
 |[]=>[]
 |x::r=>[Value.string (bs x.1),.slice x.2.1 x.2.2.1 x.2.2.2]++itc r
theorem itc_append(L R:Kv Sv):itc (L++R)=itc L++itc R:=by
 induction L with
 |nil=>rfl
 |cons a L ih=>simp[itc,ih]
theorem itc_length(L:Kv Sv):(itc L).length=L.length*2:=by
 induction L with
 |nil=>rfl
 |cons a L ih=>simp[itc,ih];omega
theorem itc_one(L:Kv Sv):∀u∈itc L,u.oneCell'=true:=by
 induction L with
 |nil=>intro u hu;simp[itc]at hu
 |cons a L ih=>
  intro u hu;simp only[itc,List.cons_append,List.nil_append,List.mem_cons]at hu;rcases hu with rfl|rfl|hu
  ·rfl
  ·rfl
  ·exact ih u hu
theorem itc_key:∀(L:Kv Sv) (i:Nat),i<L.length->(itc L)[i*2]?=some (.string (bs (L.getD i dk).1))/\(itc L)[i*2+1]?=some (.slice (L.getD i dk).2.1 (L.getD i dk).2.2.1 (L.getD i dk).2.2.2)
 |[],i,h=>absurd h (by simp)
 |x::r,0,_=>⟨rfl,rfl⟩
 |x::r,i+1,h=>by have:=itc_key r i (by simpa using h);simp only[itc,List.cons_append,List.nil_append];rw[show(i+1)*2=i*2+1+1 from by omega];simpa using this
def svV(s:Sv):Value:=.slice s.1 s.2.1 s.2.2
def Chs(w:World):Kv Sv->Sk->Prop
 |[],[]=>True
 |(k,s)::L,(q,c)::S=>k=q/\VsAt w.heap.size (svV s) c w/\Chs w L S
 |_,_=>False
def NoVe(w:World)(b:Nat):Prop:=∀off x,¬VeAt w b off x
theorem VeAt.kept{w w':World}{G:Nat->Prop}{b off:Nat}{x:Ve}(h:VeAt w b off x)(hk:Kept G w w')(hG:¬G b):VeAt w' b off x:=
 ⟨hk.cell h.c0 hG,hk.cell h.c1 hG,hk.cell h.c2 hG,hk.cell h.c3 hG,hk.cell h.c4 hG,hk.cell h.c5 hG,by rw[hk.block b (World.block_lt_of_cell? _ _ h.c0) hG];exact h.ty⟩
theorem VsAt.kept{w w':World}{G:Nat->Prop}{B:Nat}{v:Value}{C:List Ve}(h:VsAt B v C w)(hk:Kept G w w')(hG:∀k,G k->NoVe w k):VsAt B v C w':=by obtain⟨ao,cap,rfl,h1,h2,h3⟩:=h;refine⟨ao,cap,rfl,h1,h2,fun h0=>?_⟩;obtain⟨b,off,rfl,hb,hc⟩:=h3 h0;exact⟨b,off,rfl,hb,fun i hi=>(hc i hi).kept hk (fun hg=>hG b hg _ _ (hc i hi))⟩
theorem Chs.kept{w w':World}{G:Nat->Prop}(hk:Kept G w w')(hG:∀k,G k->NoVe w k):∀{L:Kv Sv} {S:Sk},Chs w L S->Chs w' L S
 |[],[],_=>trivial
 |(_,_)::_,(_,_)::_,h=>⟨h.1,(VsAt.kept h.2.1 hk hG).le hk.size,Chs.kept hk hG h.2.2⟩
theorem Chs.on{w w':World}{L:Kv Sv}{S:Sk}(h:Chs w L S)(hb:Below w.heap.size w w'):Chs w' L S:=Chs.kept (G:=fun _=>False) (Kept.of_below hb) (fun _ h=>h.elim) h
theorem Chs.len{w:World}:∀{L:Kv Sv} {S:Sk},Chs w L S->L.length=S.length
 |[],[],_=>rfl
 |(_,_)::_,(_,_)::_,h=>by simp[Chs.len h.2.2]
theorem Chs.map{w:World}:∀{L:Kv Sv} {S:Sk},Chs w L S->L.map (·.1)=S.map (·.1)
 |[],[],_=>rfl
 |(_,_)::_,(_,_)::_,h=>by simp[Chs.map h.2.2,h.1]
theorem Chs.at{w:World}:∀{L:Kv Sv} {S:Sk},Chs w L S->∀(i:Nat),i<L.length->(L.getD i dk).1=(S.getD i ([],[])).1/\VsAt w.heap.size (svV (L.getD i dk).2) (S.getD i ([],[])).2 w
 |(k,s)::L,(q,c)::S,h,0,_=>⟨h.1,h.2.1⟩
 |(k,s)::L,(q,c)::S,h,i+1,hi=>by have:=Chs.at h.2.2 i (by simpa using hi);simpa using this
theorem noVe_tag{w:World}{b:Nat}{o:Obj}(h:w.heap[b]?=some o)(hn:∀cs fz,o≠ .cells cs 120 fz):NoVe w b:=fun off x hv=>by obtain⟨cs,fz,hh⟩:=hv.ty;rw[h]at hh;injection hh with hh;exact hn cs fz hh
theorem noVe_small{w:World}{b:Nat}{cs:Array Value}{ty:TypeId}(h:w.heap[b]?=some (.cells cs ty (0,0)))(hs:cs.size<6):NoVe w b:=by intro off x hv;have:=hv.c5;unfold World.cell? at this;rw[h]at this;have h2:cs[off+5]?=some (.bool x.dead):=this;rw[Array.getElem?_eq_none (by omega)]at h2;cases h2
theorem info57:(Tryz.prog.info? 65).map (fun i=>(i.zero,i.size,i.bytes))=some (some (.agg #[su,sy]),2,40):=by kernel_rfl
theorem it_one(w:World)(k:List UInt8)(s:Sv):RwAt (w.heap.size+1) 2 (.slice (some ⟨w.heap.size,0,none⟩) 1 1) 1 (itc [(k,s)]) (w.alloc (.cells #[sd k,.slice s.1 s.2.1 s.2.2] 65)):=by
 refine⟨_,1,rfl,rfl,Nat.le_refl _,by omega,fun _=>⟨w.heap.size,0,rfl,fun _=>Nat.lt_succ_self _,fun j u hj=>?_⟩⟩;match j,hj with
 |0,hj=>simp[itc]at hj;subst hj;simp[go_sem]
 |1,hj=>simp[itc]at hj;subst hj;simp[go_sem]
 |j+2,hj=>simp[itc]at hj
theorem it_ow{base n:Nat}{sa:Option Addr}{sc:Nat}{l:Kv Sv}{w:World}(k:List UInt8)(s:Sv)(ho:w.ownsRow base 65 2 (.slice sa n sc) n (itc l))(hb:base<=w.heap.size)(hl:n<1000000):
  Ow base 65 2 (.slice sa n sc) n (itc l) (w.heap.size+1) (.slice (some ⟨w.heap.size,0,none⟩) 1 1) 1 (itc [(k,s)]) (w.alloc (.cells #[sd k,.slice s.1 s.2.1 s.2.2] 65)):=
 ⟨World.ownsRow.alloc ho _,it_one w k s,itc_one _,Nat.le_trans hb (by simp),by omega⟩
theorem Chs.get{w:World}(k:List UInt8):∀{L:Kv Sv} {S:Sk},Chs w L S->VsAt w.heap.size (svV ((getF k L).getD (none,0,0))) (chainF k S) w
 |[],[],_=>vs_nil _ _
 |(a,s)::L,(q,c)::S,h=>by
  obtain⟨rfl,h1,h2⟩:=h;unfold chainF getF;by_cases e:(a==k)=true
  ·rw[if_pos e,if_pos e];exact h1
  ·rw[if_neg e,if_neg e];exact Chs.get k h2
theorem Chs.set{w:World}{k:List UInt8}{s:Sv}{c:List Ve}(hv:VsAt w.heap.size (svV s) c w):∀{L:Kv Sv} {S:Sk},Chs w L S->Chs w (setF k s L) (setF k c S)
 |[],[],_=>⟨rfl,hv,trivial⟩
 |(a,t)::L,(q,d)::S,h=>by
  obtain⟨rfl,h1,h2⟩:=h;unfold setF;by_cases e:ltK a k=true
  ·rw[if_pos e,if_pos e];exact⟨rfl,h1,Chs.set hv h2⟩
  ·rw[if_neg e,if_neg e];by_cases e2:(a==k)=true
   ·rw[if_pos e2,if_pos e2];exact⟨rfl,hv,h2⟩
   ·rw[if_neg e2,if_neg e2];exact⟨rfl,hv,rfl,h1,h2⟩
theorem Chs.cut{w:World}(k:List UInt8):∀{L:Kv Sv} {S:Sk},Chs w L S->Chs w (cutF k L) (cutF k S)
 |[],[],_=>trivial
 |(a,t)::L,(q,d)::S,h=>by
  obtain⟨rfl,h1,h2⟩:=h;unfold cutF;by_cases e:(a==k)=true
  ·rw[if_pos e,if_pos e];exact h2
  ·rw[if_neg e,if_neg e];exact⟨rfl,h1,Chs.cut k h2⟩
def getV:Option (List UInt8)->List UInt8×Bool
 |some s=>(s,true)
 |none=>([],false)
theorem see_at(C:List Ve)(p l:Int):getV (seeF C p l)=if(atF C p l).isSome=true/\((atF C p l).getD dv).dead=false then(((atF C p l).getD dv).val,true)else([],false):=by
 unfold seeF;cases h:atF C p l with
 |none=>rfl
 |some v=>
  cases hd:v.dead with
  |true=>simp[getV,hd]
  |false=>simp[getV,hd]
structure Tx(w:World)(bx:Nat)(p l:Int)(W:World):Prop where
 c0:W.cell? ⟨bx,0,none⟩=some (uw p)
 c1:W.cell? ⟨bx,1,none⟩=some (ui l)
 bel:Below w.heap.size w W
theorem Tx.on{w W W':World}{bx:Nat}{p l:Int}(h:Tx w bx p l W)(hb:Below W.heap.size W W'):Tx w bx p l W':=
 ⟨by rw[hb.cell (World.block_lt_of_cell? _ _ h.c0)];exact h.c0,by rw[hb.cell (World.block_lt_of_cell? _ _ h.c1)];exact h.c1,h.bel.trans (hb.mono h.bel.size)⟩
theorem Tx.dr{w W:World}{bx:Nat}{p l:Int}(h:Tx w bx p l W):Tx w bx p l W.drew:=h.on (Below.refl _ _).drew
theorem Tx.two{w W:World}{bx:Nat}{p l:Int}(h:Tx w bx p l W):W.cell? ⟨bx,0,none⟩=some (uw p)/\W.cell? ⟨bx,1,none⟩=some (ui l)/\Tx w bx p l W:=⟨h.c0,h.c1,h⟩
theorem Tx.al{w W:World}{bx:Nat}{p l:Int}(h:Tx w bx p l W)(o:Obj):Tx w bx p l (W.alloc o):=h.on (Go.Proofs.YtdplfgcoaddbdaaGreat.al _)
theorem Tx.st{w W:World}{bx b:Nat}{p l:Int}(h:Tx w bx p l W)(hb:bx<b/\w.heap.size<=b)(j:Nat)(u:Value):Tx w bx p l (W.setCell ⟨b,j,none⟩ u):=
 ⟨(set_kept' W b j u).cell h.c0 (by omega),(set_kept' W b j u).cell h.c1 (by omega),h.bel.setCell (p:=⟨b,j,none⟩) hb.2 u⟩
theorem tx_new(w:World)(p l:Int):Tx w w.heap.size p l (w.alloc (.cells #[uw p,ui l] 28)):=⟨by simp[go_sem],by simp[go_sem],al _⟩
theorem zero_box{W W3:World}{o:Obj}(hb:Below (W.alloc o).drew.heap.size (W.alloc o).drew W3):W3.heap[W.heap.size]?=some o:=by rw[hb.block W.heap.size (by simp)];exact heap_alloc_new W _
theorem zero_cells{W:World}{b:Nat}(h:W.heap[b]?=some (.cells #[uw 0,ui 0,ui 0,ui 0,su,.bool false] 120 (0,0))):W.cell? ⟨b,0,none⟩=some (uw 0)/\W.cell? ⟨b,1,none⟩=some (ui 0)/\W.cell? ⟨b,2,none⟩=some (ui 0)/\W.cell? ⟨b,3,none⟩=some (ui 0)/\W.cell? ⟨b,4,none⟩=some su/\W.cell? ⟨b,5,none⟩=some (.bool false)/\W.frozen? ⟨b,0,none⟩=false/\W.frozen? ⟨b,1,none⟩=false/\W.frozen? ⟨b,2,none⟩=false/\W.frozen? ⟨b,3,none⟩=false/\W.frozen? ⟨b,4,none⟩=false/\W.frozen? ⟨b,5,none⟩=false:=
 ⟨block_cell h rfl,block_cell h rfl,block_cell h rfl,block_cell h rfl,block_cell h rfl,block_cell h rfl,block_frozen h _,block_frozen h _,block_frozen h _,block_frozen h _,block_frozen h _,block_frozen h _⟩
theorem six_set{W:World}{b:Nat}{p l c n:Int}{s:List UInt8}{d:Bool}(h:W.heap[b]?=some (.cells #[uw 0,ui 0,ui 0,ui 0,su,.bool false] 120 (0,0))):
  VeAt ((((((W.setCell ⟨b,0,none⟩ (uw p)).setCell ⟨b,1,none⟩ (ui l)).setCell ⟨b,2,none⟩ (ui c)).setCell ⟨b,3,none⟩ (ui n)).setCell ⟨b,4,none⟩ (sd s)).setCell ⟨b,5,none⟩ (.bool d)) b 0 ⟨p,l,c,n,s,d⟩:=by
 have h1:(W.setCell ⟨b,0,none⟩ (uw p)).heap[b]?=some (.cells #[uw p,ui 0,ui 0,ui 0,su,.bool false] 120 (0,0)):=block_set _ h;generalize W.setCell ⟨b,0,none⟩ (uw p)=W1 at*;have h2:(W1.setCell ⟨b,1,none⟩ (ui l)).heap[b]?=some (.cells #[uw p,ui l,ui 0,ui 0,su,.bool false] 120 (0,0)):=block_set _ h1;generalize W1.setCell ⟨b,1,none⟩ (ui l)=W2 at*;have h3:(W2.setCell ⟨b,2,none⟩ (ui c)).heap[b]?=some (.cells #[uw p,ui l,ui c,ui 0,su,.bool false] 120 (0,0)):=block_set _ h2;generalize W2.setCell ⟨b,2,none⟩ (ui c)=W3 at*;have h4:(W3.setCell ⟨b,3,none⟩ (ui n)).heap[b]?=some (.cells #[uw p,ui l,ui c,ui n,su,.bool false] 120 (0,0)):=block_set _ h3;generalize W3.setCell ⟨b,3,none⟩ (ui n)=W4 at*;have h5:(W4.setCell ⟨b,4,none⟩ (sd s)).heap[b]?=some (.cells #[uw p,ui l,ui c,ui n,sd s,.bool false] 120 (0,0)):=block_set _ h4;generalize W4.setCell ⟨b,4,none⟩ (sd s)=W5 at*;have h6:(W5.setCell ⟨b,5,none⟩ (.bool d)).heap[b]?=some (.cells #[uw p,ui l,ui c,ui n,sd s,.bool d] 120 (0,0)):=block_set _ h5;exact⟨block_cell h6 rfl,block_cell h6 rfl,block_cell h6 rfl,block_cell h6 rfl,block_cell h6 rfl,block_cell h6 rfl,_,_,h6⟩
def ds:List UInt8×List Ve:=([],[])
theorem stk_snoc{S:Sk}{m:Nat}(h:m<S.length):S.take (m+1)=S.take m++[S.getD m ds]:=by rw[List.take_add_one];simp[List.getD,h]
def prc:List (List UInt8×List UInt8)->List Value
 |[]=>[]
 |x::r=>[Value.string (bs x.1),sd x.2]++prc r
theorem prc_append(L R:List (List UInt8×List UInt8)):prc (L++R)=prc L++prc R:=by
 induction L with
 |nil=>rfl
 |cons x r ih=>simp[prc,ih]
theorem prc_one(L:List (List UInt8×List UInt8)):∀u∈prc L,u.oneCell'=true:=by
 induction L with
 |nil=>simp[prc]
 |cons x r ih=>
  intro u hu;simp only[prc,List.cons_append,List.nil_append,List.mem_cons]at hu;rcases hu with rfl|rfl|hu
  ·rfl
  ·rfl
  ·exact ih u hu
def dp:List UInt8×List UInt8:=([],[])
theorem prc_at:∀(L:List (List UInt8×List UInt8)) (i:Nat),i<L.length->(prc L)[i*2]?=some (.string (bs (L.getD i dp).1))/\(prc L)[i*2+1]?=some (.string (bs (L.getD i dp).2))
 |x::r,0,_=>⟨rfl,rfl⟩
 |x::r,i+1,h=>by obtain⟨h1,h2⟩:=prc_at r i (by simpa using h);rw[show(i+1)*2=i*2+1+1 from by omega];simp only[prc,List.cons_append,List.nil_append,List.getElem?_cons_succ];exact⟨by simpa using h1,by simpa using h2⟩
theorem info59:(Tryz.prog.info? 71).map (fun i=>(i.zero,i.size,i.bytes))=some (some (.agg #[su,su]),2,32):=by kernel_rfl
theorem pr_one(w:World)(k s:List UInt8):RwAt (w.heap.size+1) 2 (.slice (some ⟨w.heap.size,0,none⟩) 1 1) 1 (prc [(k,s)]) (w.alloc (.cells #[sd k,sd s] 71)):=by
 refine⟨_,1,rfl,rfl,Nat.le_refl _,by omega,fun _=>⟨w.heap.size,0,rfl,fun _=>Nat.lt_succ_self _,fun j u hj=>?_⟩⟩;match j,hj with
 |0,hj=>simp[prc]at hj;subst hj;simp[go_sem]
 |1,hj=>simp[prc]at hj;subst hj;simp[go_sem]
 |j+2,hj=>simp[prc]at hj
theorem pr_ow{base n:Nat}{sa:Option Addr}{sc:Nat}{l:List (List UInt8×List UInt8)}{w:World}(k s:List UInt8)(ho:w.ownsRow base 71 2 (.slice sa n sc) n (prc l))(hb:base<=w.heap.size)(hl:n<1000000):
  Ow base 71 2 (.slice sa n sc) n (prc l) (w.heap.size+1) (.slice (some ⟨w.heap.size,0,none⟩) 1 1) 1 (prc [(k,s)]) (w.alloc (.cells #[sd k,sd s] 71)):=
 ⟨World.ownsRow.alloc ho _,pr_one w k s,prc_one _,Nat.le_trans hb (by simp),by omega⟩
theorem getD_mem{S:Sk}{m:Nat}(h:m<S.length):S.getD m ds∈S:=by simp[List.getD,h]
theorem sdr_step{S:Sk}{m:Nat}(h:m<S.length):S.drop m=S.getD m ds::S.drop (m+1):=by rw[List.drop_eq_getElem_cons h];simp[List.getD,h]
theorem gone_snoc{p l:Int}{S:Sk}{m:Nat}(h:m<S.length):goneS p l (S.take (m+1))=goneS p l (S.take m)+((S.getD m ds).2.length-(pruneF (S.getD m ds).2 p l).length):=by unfold goneS;rw[stk_snoc h,List.map_append,List.sum_append];simp
theorem gone_le{p l:Int}:∀{S:Sk},goneS p l S<=totS S
 |[]=>Nat.le_refl _
 |x::r=>by have:=gone_le (p:=p) (l:=l) (S:=r);simp only[goneS,totS,List.map_cons,List.sum_cons]at this|-;omega
theorem tot_take(S:Sk)(m:Nat):totS (S.take m)<=totS S:=by
 have h:totS (S.take m++S.drop m)=totS (S.take m)+totS (S.drop m):=by unfold totS;rw[List.map_append,List.sum_append]
 rw[List.take_append_drop]at h;omega
def ItAt(v:Value)(L:Kv Sv)(S:Sk)(w:World):Prop:=RwAt w.heap.size 2 v L.length (itc L) w/\Chs w L S
theorem ItAt.on{v:Value}{L:Kv Sv}{S:Sk}{w w':World}(h:ItAt v L S w)(hb:Below w.heap.size w w'):ItAt v L S w':=⟨(RwAt.on h.1 hb).le hb.size,h.2.on hb⟩
theorem ItAt.shape{v:Value}{L:Kv Sv}{S:Sk}{w:World}(h:ItAt v L S w):∃ao cap,v=.slice ao S.length cap/\S.length<=cap/\cap<=9223372036854775807:=by obtain⟨ao,cap,e,_,h1,h2,_⟩:=h.1;rw[h.2.len]at e h1;exact⟨ao,cap,e,h1,h2⟩
theorem ItAt.el{ao:Option Addr}{cap:Nat}{L:Kv Sv}{S:Sk}{w:World}(h:ItAt (.slice ao S.length cap) L S w){i:Nat}(hi:i<S.length):∃b off ca cc,ao=some ⟨b,off,none⟩/\ce w b (off+i*2) (.string (bs (S.getD i ds).1))/\ce w b (off+i*2+1) (.slice ca (S.getD i ds).2.length cc)/\VsAt w.heap.size (.slice ca (S.getD i ds).2.length cc) (S.getD i ds).2 w:=by
 have hiL:i<L.length:=by rw[h.2.len];exact hi
 obtain⟨h1,h2⟩:=itc_key L i hiL;have hr:RwAt w.heap.size 2 (.slice ao L.length cap) L.length (itc L) w:=by rw[h.2.len];have:=h.1;rw[h.2.len]at this;exact this
 obtain⟨b,off,e,_,hc⟩:=RwAt.cellAt hr (j:=0) (by rw[itc_length];omega);obtain⟨k1,k2⟩:=h.2.at i hiL;have k1':(L.getD i dk).1=(S.getD i ds).1:=k1;have k2':VsAt w.heap.size (svV (L.getD i dk).2) (S.getD i ds).2 w:=k2;have k3:=k2';obtain⟨ca,cc,e2,_⟩:=k3;refine⟨b,off,ca,cc,e,by rw[<-k1'];exact hc _ _ h1,?_,by rw[<-e2];exact k2'⟩;rw[<-e2];exact hc _ _ h2
structure Ifs(SA:Nat->Nat->(Nat->Prop)->Sk->World->Prop):Prop where
 lt:∀{B p:Nat} {M:Nat->Prop} {S:Sk} {w:World},SA B p M S w->∀k,M k->B<=k/\k<w.heap.size
 nov:∀{B p:Nat} {M:Nat->Prop} {S:Sk} {w:World},SA B p M S w->∀k,M k->NoVe w k
 keep:∀{B p:Nat} {M G:Nat->Prop} {S:Sk} {w w':World},SA B p M S w->Kept G w w'->(∀k,M k->¬G k)->(∀k,G k->NoVe w k)->SA B p M S w'
 sok:∀{B p:Nat} {M:Nat->Prop} {S:Sk} {w:World},SA B p M S w->SOk S
 new:∀w:World,Calls Tryz.prog 28 #[] w fun e w'=>∃p M,e=.returned (pz p)/\SA w.heap.size p M [] w'/\Below w.heap.size w w'
 put:∀{B p:Nat} {M:Nat->Prop} {S:Sk} {w:World} (k:List UInt8) (x:Ve),SA B p M S w->totS S<10000->Calls Tryz.prog 154 #[pz p,sd k,veV x] w fun e w'=>e=.returned (iw (putS k x S).2)/\∃M',SA B p M' (putS k x S).1 w'/\Kept M w w'/\∀i,M' i->M i\/w.heap.size<=i
 prune:∀{B p:Nat} {M:Nat->Prop} {S:Sk} {w:World} (t u:Int),SA B p M S w->totS S<10000->Calls Tryz.prog 74 #[pz p,.agg #[uw t,ui u]] w fun e w'=>e=.returned (iw (goneS t u S))/\∃M',SA B p M' (pruneS t u S) w'/\Kept M w w'/\∀i,M' i->M i\/w.heap.size<=i
 get:∀{B p:Nat} {M:Nat->Prop} {S:Sk} {w:World} (k:List UInt8) (t u:Int),SA B p M S w->totS S<10000->Calls Tryz.prog 85 #[pz p,sd k,.agg #[uw t,ui u]] w fun e w'=>e=.returned (.tuple #[.string (bs (getV (seeF (chainF k S) t u)).1),.bool (getV (seeF (chainF k S) t u)).2])/\Below w.heap.size w w'
 newest:∀{B p:Nat} {M:Nat->Prop} {S:Sk} {w:World} (k:List UInt8),SA B p M S w->totS S<10000->Calls Tryz.prog 163 #[pz p,sd k] w fun e w'=>e=.returned (.agg #[uw (newF (chainF k S)).1,ui (newF (chainF k S)).2])/\Below w.heap.size w w'
 count:∀{B p:Nat} {M:Nat->Prop} {S:Sk} {w:World} (k:List UInt8),SA B p M S w->totS S<10000->Calls Tryz.prog 164 #[pz p,sd k] w fun e w'=>e=.returned (iw (chainF k S).length)/\Below w.heap.size w w'
 scan:∀{B p:Nat} {M:Nat->Prop} {S:Sk} {w:World} (lo hi:List UInt8) (t u limit:Int),SA B p M S w->totS S<10000->Calls Tryz.prog 86 #[pz p,sd lo,sd hi,.agg #[uw t,ui u],iw limit] w fun e w'=>∃v',e=.returned v'/\w'.ownsRow w.heap.size 71 2 v' (scanS lo hi t u limit S).length (prc (scanS lo hi t u limit S))/\Below w.heap.size w w'
 items:∀{B p:Nat} {M:Nat->Prop} {S:Sk} {w:World},SA B p M S w->totS S<10000->Calls Tryz.prog 24 #[pz p] w fun e w'=>∃v' L,e=.returned v'/\ItAt v' L S w'/\(∀k,v'.ownBlock=some k->w.heap.size<=k/\∃cs,w'.heap[k]?=some (.cells cs 65 (0,0)))/\Below w.heap.size w w'
variable {SA:Nat->Nat->(Nat->Prop)->Sk->World->Prop}
def Tr.hn:Tr->Nat
 |Go.Deep.BT.nil=>0
 |Go.Deep.BT.node _ x _ _ _=>x
def Tr.hi:Tr->Int
 |Go.Deep.BT.nil=>0
 |Go.Deep.BT.node _ x _ _ _=>(x:Int)
theorem Tr.hi_hn(t:Tr):t.hi=t.hn:=by
 cases t using Tr.cas with
 |nil=>rfl
 |node b l k v x r=>rfl
theorem max_hn(l r:Tr):((1+max l.hn r.hn:Nat):Int)=1+max l.hi r.hi:=by rw[l.hi_hn,r.hi_hn];omega
def Hk:Tr->Prop
 |Go.Deep.BT.nil=>True
 |Go.Deep.BT.node _ x _ l r=>x=1+max (Tr.hn l) (Tr.hn r)/\Hk l/\Hk r
theorem Hk.bounds{t:Tr}:Hk t->0<=t.hi/\t.hi<=t.toL.length:=by
 induction t using Tr.ind with
 |nil=>intro _;simp[Tr.hi,Tr.toL]
 |node b l k v x r ihl ihr=>
  intro h;obtain⟨h1,h2,h3⟩:=h;have i2:=ihl h2;have i3:=ihr h3;rw[l.hi_hn]at i2;rw[r.hi_hn]at i3;simp only[Tr.hi,Tr.toL,List.length_append,List.length_cons];omega
theorem Hk.node{t:Tr}(h0:0<t.hi):∃b l k v x r,t=.node b l k v x r:=by
 cases t using Tr.cas with
 |nil=>simp[Tr.hi]at h0
 |node b l k v x r=>exact⟨b,l,k,v,x,r,rfl⟩
def nl:Lay:=⟨269,fun k v x l r=>#[sd k,.slice v.1 v.2.1 v.2.2,l,r,iw (x:Int)]⟩
def findT(k:List UInt8):Tr->Option Nat
 |Go.Deep.BT.nil=>none
 |Go.Deep.BT.node b _ (q,_) l r=>if ltK k q then findT k l else if ltK q k then findT k r else some b
def putT(k:List UInt8)(v:Sv):Tr->Tr
 |Go.Deep.BT.nil=>.nil
 |Go.Deep.BT.node b x (q,u) l r=>if ltK k q then .node b (putT k v l) q u x r else if ltK q k then .node b l q u x (putT k v r)else .node b l q v x r
theorem find_node(k:List UInt8)(b:Nat)(l:Tr)(q:List UInt8)(u:Sv)(x:Nat)(r:Tr):findT k (.node b l q u x r)=if ltK k q then findT k l else if ltK q k then findT k r else some b:=rfl
theorem put_node(k:List UInt8)(v:Sv)(b:Nat)(l:Tr)(q:List UInt8)(u:Sv)(x:Nat)(r:Tr):putT k v (.node b l q u x r)=if ltK k q then .node b (putT k v l) q u x r else if ltK q k then .node b l q u x (putT k v r)else .node b l q v x r:=rfl
theorem find_in{k:List UInt8}{t:Tr}:∀{b:Nat},findT k t=some b->b∈t.blocks:=by
 induction t using Tr.ind with
 |nil=>intro b h;cases h
 |node c l q u x r ihl ihr=>
  intro b h;rw[find_node]at h;simp only[Tr.blocks,List.mem_cons,List.mem_append];split at h
  ·exact .inr (.inl (ihl h))
  ·split at h
   ·exact .inr (.inr (ihr h))
   ·injection h with h;exact .inl h.symm
theorem find_get{k:List UInt8}{t:Tr}:Srt t.toL->(findT k t).isSome=(getF k t.toL).isSome:=by
 induction t using Tr.ind with
 |nil=>intro _;rfl
 |node c l q u x r ihl ihr=>
  intro h;obtain⟨h1,h2,_,_⟩:=srt_parts h;rw[find_node];simp only[Tr.toL];rw[get_parts h];split
  ·exact ihl h1
  ·split
   ·exact ihr h2
   ·rfl
theorem find_at{w:World}{k:List UInt8}{t:Tr}:∀{b:Nat},Srt t.toL->TrAt nl t w->findT k t=some b->∃q v x l r,w.heap[b]?=some (.cells (nl.cells q v x l r) nl.ty (0,0))/\getF k t.toL=some v:=by
 induction t using Tr.ind with
 |nil=>intro b _ _ h;cases h
 |node c l q u x r ihl ihr=>
  intro b hs ha h;obtain⟨h1,h2,_,_⟩:=srt_parts hs;obtain⟨a1,a2,a3⟩:=ha;rw[find_node]at h;simp only[Tr.toL];rw[get_parts hs];split at h
  ·rename_i e;rw[if_pos e];exact ihl h1 a2 h
  ·rename_i e;rw[if_neg e];split at h
   ·rename_i e2;rw[if_pos e2];exact ihr h2 a3 h
   ·rename_i e2;rw[if_neg e2];injection h with h;subst h;exact⟨q,u,x,_,_,a1,rfl⟩
theorem put_ptr(k:List UInt8)(v:Sv)(t:Tr):(putT k v t).ptr=t.ptr:=by
 cases t using Tr.cas with
 |nil=>rfl
 |node b l q u x r=>rw[put_node];split;rfl;split<;>rfl
theorem put_hn(k:List UInt8)(v:Sv)(t:Tr):(putT k v t).hn=t.hn:=by
 cases t using Tr.cas with
 |nil=>rfl
 |node b l q u x r=>rw[put_node];split;rfl;split<;>rfl
theorem put_blocks(k:List UInt8)(v:Sv)(t:Tr):(putT k v t).blocks=t.blocks:=by
 induction t using Tr.ind with
 |nil=>rfl
 |node b l q u x r ihl ihr=>
  rw[put_node];split
  ·simp only[Tr.blocks,ihl]
  ·split
   ·simp only[Tr.blocks,ihr]
   ·rfl
theorem put_hk(k:List UInt8)(v:Sv){t:Tr}:Hk t->Hk (putT k v t):=by
 induction t using Tr.ind with
 |nil=>exact fun _=>trivial
 |node b l q u x r ihl ihr=>
  intro h;obtain⟨h1,h2,h3⟩:=h;rw[put_node];split
  ·exact⟨by rw[put_hn];exact h1,ihl h2,h3⟩
  ·split
   ·exact⟨by rw[put_hn];exact h1,h2,ihr h3⟩
   ·exact⟨h1,h2,h3⟩
theorem put_toL{k:List UInt8}{v:Sv}{t:Tr}:Srt t.toL->(findT k t).isSome=true->(putT k v t).toL=setF k v t.toL:=by
 induction t using Tr.ind with
 |nil=>intro _ h;cases h
 |node b l q u x r ihl ihr=>
  intro hs h;obtain⟨h1,h2,_,_⟩:=srt_parts hs;rw[find_node]at h;rw[put_node];simp only[Tr.toL];rw[set_parts hs];split
  ·rename_i e;rw[if_pos e]at h;simp only[Tr.toL];rw[ihl h1 h]
  ·rename_i e;rw[if_neg e]at h;split
   ·rename_i e2;rw[if_pos e2]at h;simp only[Tr.toL];rw[ihr h2 h]
   ·rename_i e2;have:q=k:=ltK_tri (by simpa using e2) (by simpa using e);subst this;rfl
theorem put_at{w:World}{k:List UInt8}{v:Sv}{t:Tr}:∀{b:Nat},TrAt nl t w->t.blocks.Nodup->findT k t=some b->TrAt nl (putT k v t) (w.setCell ⟨b,1,none⟩ (.slice v.1 v.2.1 v.2.2)):=by
 induction t using Tr.ind with
 |nil=>intro b _ _ h;cases h
 |node c l q u x r ihl ihr=>
  intro b ha hn h;obtain⟨a1,a2,a3⟩:=ha;simp only[Tr.blocks,List.nodup_cons,List.mem_append,not_or,List.nodup_append]at hn;obtain⟨⟨n1,n2⟩,n3,n4,n5⟩:=hn;have hk:=set_kept' w b 1 (.slice v.1 v.2.1 v.2.2);rw[find_node]at h;rw[put_node];split
  ·rename_i e;rw[if_pos e]at h;have hb:=find_in h;refine⟨?_,ihl a2 n3 h,TrAt.kept hk a3 (fun i hi e=>n5 b hb i hi e.symm)⟩;rw[put_ptr,hk.block c (gsz a1) (fun e=>n1 (e▸hb))];exact a1
  ·rename_i e;rw[if_neg e]at h;split
   ·rename_i e2;rw[if_pos e2]at h;have hb:=find_in h;refine⟨?_,TrAt.kept hk a2 (fun i hi e=>n5 i hi b hb e),ihr a3 n4 h⟩;rw[put_ptr,hk.block c (gsz a1) (fun e=>n2 (e▸hb))];exact a1
   ·rename_i e2;rw[if_neg e2]at h;injection h with h;subst h;exact⟨block_set _ a1,TrAt.kept hk a2 (fun i hi e=>n1 (e▸hi)),TrAt.kept hk a3 (fun i hi e=>n2 (e▸hi))⟩
theorem nd_cells{w:World}{b:Nat}{k:List UInt8}{v:Sv}{x:Nat}{l r:Value}(h:w.heap[b]?=some (.cells (nl.cells k v x l r) nl.ty (0,0))):
  ce w b 0 (sd k)/\ce w b 1 (.slice v.1 v.2.1 v.2.2)/\ce w b 2 l/\ce w b 3 r/\ce w b 4 (iw (x:Int)):=
 ⟨block_cell h rfl,block_cell h rfl,block_cell h rfl,block_cell h rfl,block_cell h rfl⟩
structure Sw(w W:World):Prop where
 heap:W.heap=w.heap
 os:W.os=w.os
 tape:W.tape=w.tape
 output:W.output=w.output
theorem Sw.refl(w:World):Sw w w:=⟨rfl,rfl,rfl,rfl⟩
theorem Sw.drew{w W:World}(h:Sw w W):Sw w W.drew:=⟨h.heap,h.os,h.tape,h.output⟩
theorem Sw.drewN{w W:World}(h:Sw w W)(n:Nat):Sw w (W.drewN n):=⟨h.heap,h.os,h.tape,h.output⟩
theorem Sw.below{w W:World}(h:Sw w W)(B:Nat):Below B w W:=⟨h.os,h.tape,h.output,by rw[h.heap];exact Nat.le_refl _,fun k _=>by rw[h.heap]⟩
theorem TrAt.sw{Y:Lay}{t:Tr}{w W:World}(h:TrAt Y t w)(s:Sw w W):TrAt Y t W:=h.on (s.below _)
theorem high27(t:Tr)(w:World)(h:TrAt nl t w):Calls Tryz.prog 262 #[t.ptr] w fun e w'=>e=.returned (iw t.hi)/\w'=w:=by
 cases t using Tr.cas with
 |nil=>
  simp only[Tr.ptr,Tr.hi];go_enter Tryz.func262,Tryz.ntmps262;go_wp2_with fail;go_ret;exact⟨rfl,rfl⟩
 |node b l k v x r=>
  obtain⟨-,-,-,-,c4⟩:=nd_cells h.1;simp only[Tr.ptr,Tr.hi];clear h;generalize (x:Int)=xi at*;go_enter Tryz.func262,Tryz.ntmps262;go_wp2_with fail;go_ret;exact⟨rfl,rfl⟩
theorem measure30{b:Nat}{l r:Tr}{k:List UInt8}{v:Sv}{x:Nat}{w:World}(h:TrAt nl (.node b l k v x r) w)(hl:0<=l.hi/\l.hi<=1000000)(hr:0<=r.hi/\r.hi<=1000000):
  Calls Tryz.prog 265 #[pz b] w fun e w'=>e=.returned (.tuple #[])/\w'.heap[b]?=some (.cells (nl.cells k v (1+max l.hn r.hn) l.ptr r.ptr) nl.ty (0,0))/\Kept (fun i=>i=b) w w':=by
 have H:Hid (w.heap[b]?=some (.cells #[sd k,.slice v.1 v.2.1 v.2.2,l.ptr,r.ptr,iw (x:Int)] nl.ty (0,0))):=h.1;obtain⟨-,-,c2,c3,c4⟩:=nd_cells h.1;have f4:=block_frozen h.1 4;have CL:Hid (∀W,Sw w W->Calls Tryz.prog 262 #[l.ptr] W fun e w'=>e=.returned (iw l.hi)/\w'=W):=fun W hs=>high27 l W (h.2.1.sw hs);have CR:Hid (∀W,Sw w W->Calls Tryz.prog 262 #[r.ptr] W fun e w'=>e=.returned (iw r.hi)/\w'=W):=fun W hs=>high27 r W (h.2.2.sw hs);have HH:Hid (((1+max l.hn r.hn:Nat):Int)=1+max l.hi r.hi):=max_hn l r;clear h;generalize 1+max l.hn r.hn=hh at*;generalize l.ptr=lp at*;generalize r.ptr=rp at*;generalize l.hi=a at*;generalize r.hi=c at*;generalize (x:Int)=xi at*;obtain⟨m,hm⟩:=xj (if a<c then c else a);have HM:Hid (1+max a c=1+m):=by show _=_;rw[<-hm];split<;>omega
 have hmb:0<=m/\m<=1000000:=by rw[<-hm];split<;>omega
 obtain⟨hm0,hm1⟩:=hmb;have HW:Hid (IntKind.i64.wrap (1+m)=1+m):=by show _=_;simp[IntKind.wrap,IntKind.bits,IntKind.signed];omega
 clear hl hr hm0 hm1;go_enter Tryz.func265,Tryz.ntmps265;go_wp2_with fail;go_region_held3 (fun W=>ce W b 2 lp/\ce W b 3 rp/\W.frozen? ⟨b,4,none⟩=false) (first|exact⟨c2,c3,f4⟩|exact⟨block_cell (block_set _ H.out) rfl,block_cell (block_set _ H.out) rfl,block_frozen (block_set _ H.out) _⟩) (first
  |(go_at_call_of 262 (lp);refine(CL.out _ (Sw.drew (Sw.refl _))).mono ?_;rintro e W1 ⟨rfl,rfl⟩)
  |(go_at_call_of 262 (rp);refine(CR.out _ (Sw.drew (Sw.refl _))).mono ?_;rintro e W1 ⟨rfl,rfl⟩))
 rw[HW.out];refine bodyPost_end (results_none Tryz.results265 _ _ _) rfl ?_;exact⟨rfl,by show _=some (Obj.cells #[sd k,.slice v.1 v.2.1 v.2.2,lp,rp,iw (hh:Int)] nl.ty (0,0));rw[HH.out,HM.out];exact block_set _ H.out,(set_kept' w b 4 _).drew⟩
def Tr.size:Tr->Nat
 |Go.Deep.BT.nil=>0
 |Go.Deep.BT.node _ _ _ l r=>Tr.size l+Tr.size r+1
theorem trAt_unique{w:World}{s:Tr}:∀{t:Tr},TrAt nl s w->TrAt nl t w->s.ptr=t.ptr->s=t:=by
 induction s using Tr.ind with
 |nil=>
  intro t _ _ h;cases t using Tr.cas with
  |nil=>rfl
  |node b l k v x r=>simp[Tr.ptr]at h
 |node b l k v x r ihl ihr=>
  intro t ha hb h;cases t using Tr.cas with
  |nil=>simp[Tr.ptr]at h
  |node c m q u y s=>
   simp only[Tr.ptr,Value.pointer.injEq,Option.some.injEq,Addr.mk.injEq]at h;obtain⟨rfl,_⟩:=h;obtain⟨a1,a2,a3⟩:=ha;obtain⟨b1,b2,b3⟩:=hb;rw[a1]at b1;simp only[nl,Option.some.injEq,Obj.cells.injEq,Array.mk.injEq,List.cons.injEq,Value.string.injEq,Value.int.injEq,Value.slice.injEq]at b1;obtain⟨⟨e0,⟨e7,e8,e9⟩,e2,e3,⟨_,e4⟩,_⟩,_⟩:=b1;have e1:v=u:=Prod.ext e7 (Prod.ext e8 e9);have e5:k=q:=by rw[<-bs_data k,<-bs_data q,e0]
   have e6:x=y:=by omega
   rw[e5,e1,e6,ihl a2 b2 e2,ihr a3 b3 e3]
theorem szAt_ex:∃f:World->Value->Nat,∀{w:World} {s:Tr},TrAt nl s w->f w s.ptr=s.size:=by refine⟨fun w n=>@dite Nat (∃s:Tr,TrAt nl s w/\s.ptr=n) (Classical.propDecidable _) (fun h=>h.choose.size) (fun _=>0),fun{w s} h=>?_⟩;have hx:∃s':Tr,TrAt nl s' w/\s'.ptr=s.ptr:=⟨s,h,rfl⟩;show@dite Nat (∃s':Tr,TrAt nl s' w/\s'.ptr=s.ptr) (Classical.propDecidable _) (fun h=>h.choose.size) (fun _=>0)=s.size;rw[dif_pos hx,trAt_unique hx.choose_spec.1 h hx.choose_spec.2]
def onJump(J:Nat->Act->World->Prop)(Q:Exit->Act->World->Prop):Exit->Act->World->Prop
 |.goto l,a,w=>J l a w
 |e,a,w=>Q e a w
theorem scope_labels{P:Program}{a:Act}{w:World}{Q:Exit->Act->World->Prop}{c:Code}(J:Nat->Act->World->Prop)(μ:Nat->Act->World->Nat)
  (pass:∀l a w,J l a w->∃rest,findLabel c l=some (Code.skip.seq rest)/\rest.wp P (onJump (fun l' a' w'=>J l' a' w'/\μ l' a' w'<μ l a w) Q) a w)
  (first:(∀l a w rest,findLabel c l=some (Code.skip.seq rest)->J l a w->rest.wp P (onJump J Q) a w)->c.wp P (onJump J Q) a w):(Code.scope c).wp P Q a w:=by
 have first:=first (fun l a w rest hr hJ=>by
  obtain⟨r,hr',hwp⟩:=pass l a w hJ;rw[hr]at hr';injection hr' with hr';injection hr' with _ hr';subst hr';refine Code.wp_mono ?_ hwp;intro e a1 w1 hq;cases e with
  |goto l'=>exact hq.1
  |normal=>exact hq
  |exit id=>exact hq
  |ret=>exact hq
  |panic ch=>exact hq
  |outgrown=>exact hq)
 intro b k cs;have key:∀n l a w rest,findLabel c l=some rest->μ l a w=n->J l a w->∃e a' w',Q e a' w'/\Arrives P (lone (b.at a (.code rest:: .inScope c::k)) cs w) b k cs e a' w':=by
  intro n;induction n using Nat.strongRecOn with
  |ind n ih=>
   intro l a w rest hr hn hJ;obtain⟨rest',hr',hwp⟩:=pass l a w hJ;rw[hr]at hr';injection hr' with hr';subst hr';have hwp2:(Code.skip.seq rest').wp P (onJump (fun l' a' w'=>J l' a' w'/\μ l' a' w'<μ l a w) Q) a w:=wp_seq (wp_skip hwp);obtain⟨e,a1,w1,hq,harr⟩:=hwp2 b (.inScope c::k) cs;cases e with
   |normal=>exact⟨.normal,a1,w1,hq,Steps.trans harr (.one step_inScope)⟩
   |exit id=>exact⟨.exit id,a1,w1,hq,fun k' hk=>harr k' (by simp[exitTo,hk])⟩
   |goto l'=>
    obtain⟨hJ',hlt⟩:=hq;obtain⟨r2,hr2,_⟩:=pass l' a1 w1 hJ';obtain⟨e2,a2,w2,hq2,harr2⟩:=ih _ (by omega) l' a1 w1 _ hr2 rfl hJ';exact⟨e2,a2,w2,hq2,.of_steps (harr _ (by simp[gotoIn,hr2])) harr2⟩
   |ret=>exact⟨_,a1,w1,hq,harr⟩
   |panic ch=>exact⟨_,a1,w1,hq,harr⟩
   |outgrown=>exact⟨_,a1,w1,hq,harr⟩
 obtain⟨e,a1,w1,hq,harr⟩:=first b (.inScope c::k) cs
 cases e with
 |normal=>exact⟨.normal,a1,w1,hq,.head step_scope (Steps.trans harr (.one step_inScope))⟩
 |exit id=>exact⟨.exit id,a1,w1,hq,fun k' hk=>.head step_scope (harr k' (by simp[exitTo,hk]))⟩
 |goto l'=>
  obtain⟨r2,hr2,_⟩:=pass l' a1 w1 hq;obtain⟨e2,a2,w2,hq2,harr2⟩:=key _ l' a1 w1 _ hr2 rfl hq;exact⟨e2,a2,w2,hq2,.of_steps (.head step_scope (harr _ (by simp[gotoIn,hr2]))) harr2⟩
 |ret=>exact⟨_,a1,w1,hq,.of_steps (.one step_scope) harr⟩
 |panic ch=>exact⟨_,a1,w1,hq,.of_steps (.one step_scope) harr⟩
 |outgrown=>exact⟨_,a1,w1,hq,.of_steps (.one step_scope) harr⟩
def AtLook(p:Nat)(key:List UInt8)(o:Value)(a:Act):Prop:=
 ∃u6 u7 u8 u9 u10 u11 u12 u13 u14 u15 u16 u17 u18 u19 u20 u21 u22 u23 u24 u25 u26 u27 u28 u29 u30 u31 u32 u33 u34 u35 u36:Value,a={tmps:=#[pz p,sd key,undef,undef,.pointer none,o,u6,u7,u8,u9,u10,u11,u12,u13,u14,u15,u16,u17,u18,u19,u20,u21,u22,u23,u24,u25,u26,u27,u28,u29,u30,u31,u32,u33,u34,u35,u36],defers:=[]}
theorem atLook{p:Nat}{key:List UInt8}{o:Value}{u6 u7 u8 u9 u10 u11 u12 u13 u14 u15 u16 u17 u18 u19 u20 u21 u22 u23 u24 u25 u26 u27 u28 u29 u30 u31 u32 u33 u34 u35 u36:Value}:AtLook p key o {tmps:=#[pz p,sd key,undef,undef,.pointer none,o,u6,u7,u8,u9,u10,u11,u12,u13,u14,u15,u16,u17,u18,u19,u20,u21,u22,u23,u24,u25,u26,u27,u28,u29,u30,u31,u32,u33,u34,u35,u36],defers:=[]}:=
 ⟨u6,u7,u8,u9,u10,u11,u12,u13,u14,u15,u16,u17,u18,u19,u20,u21,u22,u23,u24,u25,u26,u27,u28,u29,u30,u31,u32,u33,u34,u35,u36,rfl⟩
def ptrO:Option Nat->Value
 |none=>.pointer none
 |some b=>.pointer (some ⟨b,0,none⟩)
theorem find20(p:Nat)(key:List UInt8)(t:Tr)(w:World)(h0:w.cell? ⟨p,0,none⟩=some t.ptr)(ht:TrAt nl t w):
  Calls Tryz.prog 171 #[pz p,sd key] w fun e w'=>e=.returned (ptrO (findT key t))/\w'=w:=by
 obtain⟨szAt,szAt_eq⟩:=szAt_ex;have HSz:Hid (∀{w:World} {s:Tr},TrAt nl s w->szAt w s.ptr=s.size):=szAt_eq;clear szAt_eq;have HT:Hid (TrAt nl t w):=ht;obtain⟨y,hy⟩:=xj (findT key t);rw[hy];have HY:Hid (findT key t=y):=hy;clear ht hy;go_enter Tryz.func171,Tryz.ntmps171;go_wp2;refine scope_labels (fun l a' w'=>w'=w/\l=0/\∃sp,AtLook p key sp a'/\∃s,TrAt nl s w/\findT key s=y/\s.ptr=sp) (fun _ a' _=>szAt w (a'.tmps.getD 5 undef)) ?_ ?_
 ·rintro l a' w' ⟨rfl,rfl,sp,hat,s,hs,hf,rfl⟩;obtain⟨u6,u7,u8,u9,u10,u11,u12,u13,u14,u15,u16,u17,u18,u19,u20,u21,u22,u23,u24,u25,u26,u27,u28,u29,u30,u31,u32,u33,u34,u35,u36,rfl⟩:=hat;refine⟨_,rfl,?_⟩;clear HT HY h0;cases s using Tr.cas with
  |nil=>
   have hy:none=y:=hf;subst hy;simp only[Tr.ptr];clear hs hf;go_wp2;simp only[onJump];go_ret;exact⟨rfl,rfl⟩
  |node c l q u x r=>
   obtain⟨c0,-,c2,c3,-⟩:=nd_cells hs.1;have q0:=bs_beq q key;have q1:=bl key q;simp only[Tr.ptr];by_cases hq:q=key
   ·have hy:some c=y:=by rw[<-hf];simp[findT,hq,ltK_irrefl]
    subst hy;have hq':(q==key)=true:=by simp[hq]
    rw[hq']at q0;clear hs hf hq hq' c2 c3 q1;go_wp2;simp only[onJump];go_ret;exact⟨rfl,rfl⟩
   ·have hq':(q==key)=false:=by simp[hq]
    rw[hq']at q0;by_cases h1:ltK key q=true
    ·rw[h1]at q1;have HN:Hid (TrAt nl l w'/\findT key l=y):=⟨hs.2.1,by rw[<-hf];simp[findT,h1]⟩;have HM:Hid (szAt w' l.ptr<szAt w' (pz c)):=by have e1:=HSz.out hs.2.1;have e2:szAt w' (pz c)=_:=HSz.out hs;show _<_;rw[e1,e2];simp only[Tr.size];omega
     obtain⟨sp,hsp⟩:=xj l.ptr;have HJ:Hid (∃s,TrAt nl s w'/\findT key s=y/\s.ptr=sp):=⟨l,HN.out.1,HN.out.2,hsp⟩;rw[hsp]at HM c2;clear hs hf HN hsp;go_wp2_with fail
     go_step3
     exact⟨⟨rfl,rfl,sp,atLook,HJ.out⟩,HM.out⟩
    ·have h1':ltK key q=false:=by simpa using h1
     have h2:ltK q key=true:=by
      cases e:ltK q key
      ·exact absurd (ltK_tri e h1') hq
      ·rfl
     rw[h1']at q1;have HN:Hid (TrAt nl r w'/\findT key r=y):=⟨hs.2.2,by rw[<-hf];simp[findT,h1',h2]⟩;have HM:Hid (szAt w' r.ptr<szAt w' (pz c)):=by have e1:=HSz.out hs.2.2;have e2:szAt w' (pz c)=_:=HSz.out hs;show _<_;rw[e1,e2];simp only[Tr.size];omega
     obtain⟨sp,hsp⟩:=xj r.ptr;have HJ:Hid (∃s,TrAt nl s w'/\findT key s=y/\s.ptr=sp):=⟨r,HN.out.1,HN.out.2,hsp⟩;rw[hsp]at HM c3;clear hs hf HN hsp;go_wp2_with fail
     go_step3
     exact⟨⟨rfl,rfl,sp,atLook,HJ.out⟩,HM.out⟩
 ·intro hp;obtain⟨tp,htp⟩:=xj t.ptr;have HX:Hid _:=hp;have HJ:Hid (∃s,TrAt nl s w/\findT key s=y/\s.ptr=tp):=⟨t,HT.out,HY.out,htp⟩;rw[htp]at h0;clear HT HY hp htp;go_wp2
  go_step3
  rename_i Z hZ;refine hZ _ _ ?_;exact HX.out 0 _ _ _ rfl ⟨rfl,rfl,tp,atLook,HJ.out⟩
theorem range_len(lo hi:List UInt8)(L:Kv Sv):(rangeF lo hi L).length<=L.length:=by unfold rangeF;exact Nat.le_trans (List.length_filter_le _ _) (by simp)
theorem cut_none{k:List UInt8}:∀{L:Kv Sv},getF k L=none->cutF k L=L
 |[],_=>rfl
 |(a,v)::r,h=>by
  unfold getF at h;split at h
  ·cases h
  ·rename_i e;unfold cutF;rw[if_neg e,cut_none h]
def gatF(lim:Nat)(K A:List (List UInt8)):List (List UInt8):=K++A.take (lim-K.length)
theorem gat_nil(lim:Nat)(K:List (List UInt8)):gatF lim K []=K:=by simp[gatF]
theorem gat_full{lim:Nat}{K:List (List UInt8)}(h:lim<=K.length)(A:List (List UInt8)):gatF lim K A=K:=by unfold gatF;rw[show lim-K.length=0 by omega];simp
theorem gat_append(lim:Nat)(K A C:List (List UInt8)):gatF lim K (A++C)=gatF lim (gatF lim K A) C:=by unfold gatF;rw[List.take_append,List.append_assoc,List.length_append,List.length_take];congr 3;omega
theorem gat_one(lim:Nat)(K:List (List UInt8))(k:List UInt8):gatF lim K [k]=if K.length<lim then K++[k]else K:=by
 by_cases h:K.length<lim
 ·rw[if_pos h];unfold gatF;obtain⟨n,hn⟩:∃n,lim-K.length=n+1:=⟨lim-K.length-1,by omega⟩;rw[hn];simp
 ·rw[if_neg h];exact gat_full (by omega) _
theorem gat_len(lim:Nat)(K A:List (List UInt8)):(gatF lim K A).length<=K.length+A.length:=by unfold gatF;rw[List.length_append,List.length_take];omega
theorem gat_start(lo hi:List UInt8)(limit:Int)(L:Kv Sv):gatF limit.toNat [] (rangeF lo hi L)=keysF lo hi limit L:=by simp[gatF,keysF]
theorem below_lo{lo hi:List UInt8}{A R:Kv Sv}{k:List UInt8}{u:Sv}(hs:Srt (A++(k,u)::R))(h:ltK lo k=false):rangeF lo hi A=[]:=by obtain⟨_,_,h1,_⟩:=srt_parts hs;refine range_none fun x hx=>?_;have:=ltK_le2 (h1 x hx) h;simp[inR,this]
theorem above_hi{lo hi:List UInt8}{A R:Kv Sv}{k:List UInt8}{u:Sv}(hs:Srt (A++(k,u)::R))(h0:hi.isEmpty=false)(h:ltK k hi=false):rangeF lo hi ((k,u)::R)=[]:=by
 obtain⟨_,_,_,h2⟩:=srt_parts hs;refine range_none fun x hx=>?_;have hx':ltK x.1 hi=false:=by
  rcases List.mem_cons.1 hx with rfl|hx
  ·exact h
  ·cases e:ltK x.1 hi
   ·rfl
   ·exact absurd (ltK_trans (h2 x hx) e) (by simp[h])
 simp only[inR,h0,hx',Bool.or_false,Bool.and_false]
theorem gat_stop{lo hi:List UInt8}{A R:Kv Sv}{k:List UInt8}{u:Sv}{lim:Nat}{K:List (List UInt8)}(hs:Srt (A++(k,u)::R))(h0:hi.isEmpty=false)(h:ltK k hi=false):gatF lim K (rangeF lo hi (A++(k,u)::R))=gatF lim K (rangeF lo hi A):=by rw[range_append,above_hi hs h0 h,List.append_nil]
theorem gat_on{lo hi:List UInt8}{A R:Kv Sv}{k:List UInt8}{u:Sv}{lim:Nat}{K:List (List UInt8)}(h:(hi.isEmpty||ltK k hi)=true):
  gatF lim K (rangeF lo hi (A++(k,u)::R))=gatF lim (if ltK k lo=false/\(gatF lim K (rangeF lo hi A)).length<lim then gatF lim K (rangeF lo hi A)++[k]else gatF lim K (rangeF lo hi A)) (rangeF lo hi R):=by
 rw[range_append,range_cons,gat_append];cases h1:ltK k lo
 ·rw[if_pos (by simp only[inR,h1,h];rfl),show k::rangeF lo hi R=[k]++rangeF lo hi R from rfl,gat_append,gat_one];simp
 ·rw[if_neg (by simp[inR,h1])];simp
end Go.Proofs.YtdplfgcoaddbdaaGreat.Sto
