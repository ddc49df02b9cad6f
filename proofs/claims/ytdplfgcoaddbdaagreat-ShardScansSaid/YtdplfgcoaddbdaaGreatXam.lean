import Derived.Test.YtdplfgcoaddbdaaGreatXal
set_option maxHeartbeats 4000000
set_option maxRecDepth 100000
set_option linter.unusedVariables false
set_option linter.unusedSimpArgs false
namespace Go.Proofs.YtdplfgcoaddbdaaGreat.Lat
open Go.RowKit
structure Ifl(TA:Nat->Nat->(Nat->Prop)->Tb->World->Prop):Prop where
 lt:∀{B p:Nat} {M:Nat->Prop} {T:Tb} {w:World},TA B p M T w->∀k,M k->B<=k/\k<w.heap.size
 keep:∀{B p:Nat} {M G:Nat->Prop} {T:Tb} {w w':World},TA B p M T w->Kept G w w'->(∀k,M k->¬G k)->TA B p M T w'
 ok:∀{B p:Nat} {M:Nat->Prop} {T:Tb} {w:World},TA B p M T w->TOk T
 new:∀w:World,Calls Tryz.prog 29 #[] w fun e w'=>∃p M,e=.returned (pz p)/\TA w.heap.size p M [] w'/\Below w.heap.size w w'
 right:∀(B:Nat) (L:List Wr) (v:Value) (w:World),WsAt B v L w->B<=w.heap.size->Calls Tryz.prog 83 #[v] w fun e w'=>e=.returned (.bool (rightW L))/\Below w.heap.size w w'
 lay:∀{B p:Nat} {M:Nat->Prop} {T:Tb} {w:World} (c n sp sl mp ml:Int) (prim:List UInt8) (L:List Wr) (v:Value),TA B p M T w->T.length<10000->WsAt w.heap.size v L w->(0<L.length->∀k,v.ownBlock=some k->¬M k)->0<=mp/\0<=ml->Calls Tryz.prog 70 #[pz p,.agg #[ui c,ui n],.agg #[uw sp,ui sl],.agg #[uw mp,ui ml],sd prim,v] w fun e w'=>e=.returned (iw (layF (rightB sp sl&&rightB mp ml&&kOk prim) c n sp sl mp ml prim L T).2)/\∃M',TA B p M' (layF (rightB sp sl&&rightB mp ml&&kOk prim) c n sp sl mp ml prim L T).1 w'/\Kept M w w'/\∀i,M' i->M i\/w.heap.size<=i
 cut:∀{B p:Nat} {M:Nat->Prop} {T:Tb} {w:World} (c n:Int),TA B p M T w->T.length<10000->Calls Tryz.prog 73 #[pz p,.agg #[ui c,ui n]] w fun e w'=>∃v' M',e=.returned v'/\IsAt w'.heap.size v' (byF c n T) w'/\(∀k,v'.ownBlock=some k->w.heap.size<=k)/\TA B p M' (restF c n T) w'/\Kept M w w'/\∀i,M' i->M i\/w.heap.size<=i
 raise:∀{B p:Nat} {M:Nat->Prop} {T:Tb} {w:World} (c n mp ml:Int),TA B p M T w->T.length<10000->0<=mp/\0<=ml->Calls Tryz.prog 80 #[pz p,.agg #[ui c,ui n],.agg #[uw mp,ui ml]] w fun e w'=>e=.returned (.bool (rseB c n mp ml T))/\∃M',TA B p M' (rseF c n mp ml T) w'/\Kept M w w'/\∀i,M' i->M i\/w.heap.size<=i
 first:∀{B p:Nat} {M:Nat->Prop} {T:Tb} {w:World} (lo hi:List UInt8) (ap aq:Int) (but:List (Int×Int)) (v:Value),TA B p M T w->T.length<10000->TsAt w.heap.size v but w->Calls Tryz.prog 158 #[pz p,sd lo,sd hi,.agg #[uw ap,ui aq],v] w fun e w'=>e=.returned (fsV (firstF lo hi ap aq but T))/\Below w.heap.size w w'
 of:∀{B p:Nat} {M:Nat->Prop} {T:Tb} {w:World} (k:List UInt8),TA B p M T w->T.length<10000->Calls Tryz.prog 105 #[pz p,sd k] w fun e w'=>e=.returned (ofV k (getF k T))/\Below w.heap.size w w'
 by_:∀{B p:Nat} {M:Nat->Prop} {T:Tb} {w:World} (c n:Int),TA B p M T w->T.length<10000->Calls Tryz.prog 144 #[pz p,.agg #[ui c,ui n]] w fun e w'=>∃v',e=.returned v'/\IsAt w'.heap.size v' (byF c n T) w'/\(∀k,v'.ownBlock=some k->w.heap.size<=k)/\Below w.heap.size w w'
 all:∀{B p:Nat} {M:Nat->Prop} {T:Tb} {w:World},TA B p M T w->T.length<10000->Calls Tryz.prog 25 #[pz p] w fun e w'=>∃v',e=.returned v'/\IsAt w'.heap.size v' T w'/\(∀k,v'.ownBlock=some k->w.heap.size<=k/\∃cs,w'.heap[k]?=some (.cells cs 69 (0,0)))/\Below w.heap.size w w'
variable {TA:Nat->Nat->(Nat->Prop)->Tb->World->Prop}
def maxF(p l q m:Int):Int×Int:=if lessB p l q m then(q,m)else(p,l)
def maxL(xs:List (Int×Int)):Int×Int:=xs.foldl (fun m t=>maxF m.1 m.2 t.1 t.2) (0,0)
theorem maxL_snoc(xs:List (Int×Int))(t:Int×Int):maxL (xs++[t])=maxF (maxL xs).1 (maxL xs).2 t.1 t.2:=by simp[maxL]
theorem max39_row(bk:Nat)(w:World)(hbk:bk<w.heap.size)(n:Nat)(xs:List (Int×Int))(hn:xs.length=n)(hn2:n<=1000)
   (hc:∀i:Nat,i<n->w.cell? ⟨bk,i*2,none⟩=some (uw (xs[i]?.getD (0,0)).1)/\w.cell? ⟨bk,i*2+1,none⟩=some (ui (xs[i]?.getD (0,0)).2)):
  Calls Tryz.prog 101 #[.slice (some ⟨bk,0,none⟩) n n] w fun e w'=>e=.returned (.agg #[uw (maxL xs).1,ui (maxL xs).2])/\Below w.heap.size w w':=by
 go_enter Tryz.func101,Tryz.ntmps101;go_wp2;go_loopw [8] (fun i wr=>∃k:Nat,k<=n/\i=iw k/\Below w.heap.size w wr/\w.heap.size+1<wr.heap.size/\wr.frozen? ⟨w.heap.size,0,none⟩=false/\wr.frozen? ⟨w.heap.size,1,none⟩=false/\wr.cell? ⟨w.heap.size,0,none⟩=some (uw 0)/\wr.cell? ⟨w.heap.size,1,none⟩=some (ui 0)/\wr.frozen? ⟨w.heap.size+1,0,none⟩=false/\wr.frozen? ⟨w.heap.size+1,1,none⟩=false/\wr.cell? ⟨w.heap.size+1,0,none⟩=some (uw (maxL (xs.take k)).1)/\wr.cell? ⟨w.heap.size+1,1,none⟩=some (ui (maxL (xs.take k)).2)) (fun i _=>n-(intOf i).toNat)
 case atStart=>
  exact⟨0,Nat.zero_le _,rfl,((Below.refl _ _).alloc (Nat.le_refl _) _).alloc (by simp) _,by simp,by simp[go_sem],by simp[go_sem],by simp[go_sem],by simp[go_sem],by simp[go_sem],by simp[go_sem],by simp[go_sem,maxL],by simp[go_sem,maxL]⟩
 case round=>
  obtain⟨k,hk,rfl,hBr,hzr,f0,f1,r0,r1,f2,f3,m0,m1⟩:=hrel;by_cases hlt:k<n
  ·have hd4:decide ((k:Int)<n)=true:=by simp;omega
   have e0:wr.cell? ⟨bk,k*2,none⟩=some (uw (xs[k]?.getD (0,0)).1):=by rw[hBr.cell hbk];exact(hc k hlt).1
   have e1:wr.cell? ⟨bk,k*2+1,none⟩=some (ui (xs[k]?.getD (0,0)).2):=by rw[hBr.cell hbk];exact(hc k hlt).2
   have HX:Hid (maxL (xs.take (k+1))=maxF (maxL (xs.take k)).1 (maxL (xs.take k)).2 xs[k].1 xs[k].2):=by rw[List.take_succ_eq_append_getElem (by omega)];exact maxL_snoc _ _
   cases hl:lessB (maxL (xs.take k)).1 (maxL (xs.take k)).2 xs[k].1 xs[k].2
   ·have HL:Hid (lessB (maxL (xs.take k)).1 (maxL (xs.take k)).2 xs[k].1 xs[k].2=false):=hl;have hm:maxL (xs.take (k+1))=maxL (xs.take k):=by rw[HX.out];simp[maxF,hl]
    have HM:Hid (maxL (xs.take (k+1))=maxL (xs.take k)):=hm;clear hl hm;go_wp2_with fail;refine(lessP _ _ _ _ _).mono ?_;rw[HL.out];rintro e w3 ⟨rfl,hb3⟩;obtain⟨hc3,hf3⟩:=bcell hb3;have hz3:w.heap.size+1<w3.heap.size:=by have:=hb3.size;simp at this;omega
    have hz4:w.heap.size<wr.heap.size:=by omega
    go_wp2;go_roundw
    case rel=>
     refine⟨k+1,by omega,by go_num,?_,hz3,?_,?_,?_,?_,?_,?_,?_,?_⟩
     ·exact(hBr.alloc hBr.size _).trans (hb3.mono (by simp;omega))
     all_goals try rw[HM.out]
     all_goals simp[go_sem,hc3,hf3,Nat.lt_succ_of_lt hz4,Nat.lt_succ_of_lt hzr,hz4,hzr,f0,f1,f2,f3,r0,r1,m0,m1]
    case measure=>simp[intOf];omega
   ·have HL:Hid (lessB (maxL (xs.take k)).1 (maxL (xs.take k)).2 xs[k].1 xs[k].2=true):=hl;have hm:maxL (xs.take (k+1))=xs[k]:=by rw[HX.out];simp[maxF,hl]
    have HM:Hid (maxL (xs.take (k+1))=xs[k]):=hm;clear hl hm;go_wp2_with fail;refine(lessP _ _ _ _ _).mono ?_;rw[HL.out];rintro e w3 ⟨rfl,hb3⟩;obtain⟨hc3,hf3⟩:=bcell hb3;have hz3:w.heap.size+1<w3.heap.size:=by have:=hb3.size;simp at this;omega
    have hz4:w.heap.size<wr.heap.size:=by omega
    go_wp2;go_roundw
    case rel=>
     refine⟨k+1,by omega,by go_num,?_,by simpa using hz3,?_,?_,?_,?_,?_,?_,?_,?_⟩
     ·exact(((hBr.alloc hBr.size _).trans (hb3.mono (by simp;omega))).setCell (by simp) _).setCell (by simp) _
     all_goals try rw[HM.out]
     all_goals simp[go_sem,hc3,hf3,Nat.lt_succ_of_lt hz4,Nat.lt_succ_of_lt hzr,hz4,hzr,f0,f1,f2,f3,r0,r1,m0,m1]
    case measure=>simp[intOf];omega
  ·have hd4:decide ((k:Int)<n)=false:=by simp;omega
   have hkm:xs.take k=xs:=List.take_of_length_le (by omega);rw[hkm]at m0 m1;go_wp2;refine bodyPost_ret (v:=.agg #[uw (maxL xs).1,ui (maxL xs).2]) (by simp[results,Tryz.results101,go_sem,r0,r1]) rfl ⟨rfl,?_⟩;exact(hBr.setCell (by simp) _).setCell (by simp) _
def Tr.hn:Tr->Nat
 |Go.Deep.BT.nil=>0
 |Go.Deep.BT.node _ x _ _ _=>x
def Tr.hi:Tr->Int
 |Go.Deep.BT.nil=>0
 |Go.Deep.BT.node _ x _ _ _=>(x:Int)
theorem Tr.hi_hn(t:Tr):t.hi=t.hn:=by
 cases t using Tr.cas with
 |nil=>rfl
 |node b l k v x r=>rfl
theorem max_hn(l r:Tr):((1+max l.hn r.hn:Nat):Int)=1+max l.hi r.hi:=by rw[l.hi_hn,r.hi_hn];omega
def Hk:Tr->Prop
 |Go.Deep.BT.nil=>True
 |Go.Deep.BT.node _ x _ l r=>x=1+max (Tr.hn l) (Tr.hn r)/\Hk l/\Hk r
theorem Hk.bounds{t:Tr}:Hk t->0<=t.hi/\t.hi<=t.toL.length:=by
 induction t using Tr.ind with
 |nil=>intro _;simp[Tr.hi,Tr.toL]
 |node b l k v x r ihl ihr=>
  intro h;obtain⟨h1,h2,h3⟩:=h;have i2:=ihl h2;have i3:=ihr h3;rw[l.hi_hn]at i2;rw[r.hi_hn]at i3;simp only[Tr.hi,Tr.toL,List.length_append,List.length_cons];omega
theorem Hk.node{t:Tr}(h0:0<t.hi):∃b l k v x r,t=.node b l k v x r:=by
 cases t using Tr.cas with
 |nil=>simp[Tr.hi]at h0
 |node b l k v x r=>exact⟨b,l,k,v,x,r,rfl⟩
def nl:Lay:=⟨273,fun k v x l r=>#[sd k,ui v.1.1,ui v.1.2,sd v.2.key,sd v.2.val,.bool v.2.dead,l,r,iw (x:Int)]⟩
def findT(k:List UInt8):Tr->Option Nat
 |Go.Deep.BT.nil=>none
 |Go.Deep.BT.node b _ (q,_) l r=>if ltK k q then findT k l else if ltK q k then findT k r else some b
def putT(k:List UInt8)(v:Cv):Tr->Tr
 |Go.Deep.BT.nil=>.nil
 |Go.Deep.BT.node b x (q,u) l r=>if ltK k q then .node b (putT k v l) q u x r else if ltK q k then .node b l q u x (putT k v r)else .node b l q v x r
theorem find_node(k:List UInt8)(b:Nat)(l:Tr)(q:List UInt8)(u:Cv)(x:Nat)(r:Tr):findT k (.node b l q u x r)=if ltK k q then findT k l else if ltK q k then findT k r else some b:=rfl
theorem put_node(k:List UInt8)(v:Cv)(b:Nat)(l:Tr)(q:List UInt8)(u:Cv)(x:Nat)(r:Tr):putT k v (.node b l q u x r)=if ltK k q then .node b (putT k v l) q u x r else if ltK q k then .node b l q u x (putT k v r)else .node b l q v x r:=rfl
theorem find_in{k:List UInt8}{t:Tr}:∀{b:Nat},findT k t=some b->b∈t.blocks:=by
 induction t using Tr.ind with
 |nil=>intro b h;cases h
 |node c l q u x r ihl ihr=>
  intro b h;rw[find_node]at h;simp only[Tr.blocks,List.mem_cons,List.mem_append];split at h
  ·exact .inr (.inl (ihl h))
  ·split at h
   ·exact .inr (.inr (ihr h))
   ·injection h with h;exact .inl h.symm
theorem find_get{k:List UInt8}{t:Tr}:Srt t.toL->(findT k t).isSome=(getF k t.toL).isSome:=by
 induction t using Tr.ind with
 |nil=>intro _;rfl
 |node c l q u x r ihl ihr=>
  intro h;obtain⟨h1,h2,_,_⟩:=srt_parts h;rw[find_node];simp only[Tr.toL];rw[get_parts h];split
  ·exact ihl h1
  ·split
   ·exact ihr h2
   ·rfl
theorem find_at{w:World}{k:List UInt8}{t:Tr}:∀{b:Nat},Srt t.toL->TrAt nl t w->findT k t=some b->∃q v x l r,w.heap[b]?=some (.cells (nl.cells q v x l r) nl.ty (0,0))/\getF k t.toL=some v:=by
 induction t using Tr.ind with
 |nil=>intro b _ _ h;cases h
 |node c l q u x r ihl ihr=>
  intro b hs ha h;obtain⟨h1,h2,_,_⟩:=srt_parts hs;obtain⟨a1,a2,a3⟩:=ha;rw[find_node]at h;simp only[Tr.toL];rw[get_parts hs];split at h
  ·rename_i e;rw[if_pos e];exact ihl h1 a2 h
  ·rename_i e;rw[if_neg e];split at h
   ·rename_i e2;rw[if_pos e2];exact ihr h2 a3 h
   ·rename_i e2;rw[if_neg e2];injection h with h;subst h;exact⟨q,u,x,_,_,a1,rfl⟩
theorem put_ptr(k:List UInt8)(v:Cv)(t:Tr):(putT k v t).ptr=t.ptr:=by
 cases t using Tr.cas with
 |nil=>rfl
 |node b l q u x r=>rw[put_node];split;rfl;split<;>rfl
theorem put_hn(k:List UInt8)(v:Cv)(t:Tr):(putT k v t).hn=t.hn:=by
 cases t using Tr.cas with
 |nil=>rfl
 |node b l q u x r=>rw[put_node];split;rfl;split<;>rfl
theorem put_blocks(k:List UInt8)(v:Cv)(t:Tr):(putT k v t).blocks=t.blocks:=by
 induction t using Tr.ind with
 |nil=>rfl
 |node b l q u x r ihl ihr=>
  rw[put_node];split
  ·simp only[Tr.blocks,ihl]
  ·split
   ·simp only[Tr.blocks,ihr]
   ·rfl
theorem put_hk(k:List UInt8)(v:Cv){t:Tr}:Hk t->Hk (putT k v t):=by
 induction t using Tr.ind with
 |nil=>exact fun _=>trivial
 |node b l q u x r ihl ihr=>
  intro h;obtain⟨h1,h2,h3⟩:=h;rw[put_node];split
  ·exact⟨by rw[put_hn];exact h1,ihl h2,h3⟩
  ·split
   ·exact⟨by rw[put_hn];exact h1,h2,ihr h3⟩
   ·exact⟨h1,h2,h3⟩
theorem put_toL{k:List UInt8}{v:Cv}{t:Tr}:Srt t.toL->(findT k t).isSome=true->(putT k v t).toL=setF k v t.toL:=by
 induction t using Tr.ind with
 |nil=>intro _ h;cases h
 |node b l q u x r ihl ihr=>
  intro hs h;obtain⟨h1,h2,_,_⟩:=srt_parts hs;rw[find_node]at h;rw[put_node];simp only[Tr.toL];rw[set_parts hs];split
  ·rename_i e;rw[if_pos e]at h;simp only[Tr.toL];rw[ihl h1 h]
  ·rename_i e;rw[if_neg e]at h;split
   ·rename_i e2;rw[if_pos e2]at h;simp only[Tr.toL];rw[ihr h2 h]
   ·rename_i e2;have:q=k:=ltK_tri (by simpa using e2) (by simpa using e);subst this;rfl
theorem nd_cells{w:World}{b:Nat}{k:List UInt8}{v:Cv}{x:Nat}{l r:Value}(h:w.heap[b]?=some (.cells (nl.cells k v x l r) nl.ty (0,0))):
  ce w b 0 (sd k)/\(ce w b 1 (ui v.1.1)/\ce w b 2 (ui v.1.2)/\ce w b 3 (sd v.2.key)/\ce w b 4 (sd v.2.val)/\ce w b 5 (.bool v.2.dead))/\ce w b 6 l/\ce w b 7 r/\ce w b 8 (iw (x:Int)):=
 ⟨block_cell h rfl,⟨block_cell h rfl,block_cell h rfl,block_cell h rfl,block_cell h rfl,block_cell h rfl⟩,block_cell h rfl,block_cell h rfl,block_cell h rfl⟩
theorem cv_ext{v u:Cv}(f0:v.1.1=u.1.1)(f1:v.1.2=u.1.2)(f7:bs v.2.key=bs u.2.key)(f8:bs v.2.val=bs u.2.val)(f9:v.2.dead=u.2.dead):v=u:=by
 obtain⟨⟨c,n⟩,key,val,dead⟩:=v;obtain⟨⟨c',n'⟩,key',val',dead'⟩:=u;dsimp only at f0 f1 f7 f8 f9;have g7:key=key':=by rw[<-bs_data key,<-bs_data key',f7]
 have g8:val=val':=by rw[<-bs_data val,<-bs_data val',f8]
 subst f0 f1 g7 g8 f9;rfl
structure Sw(w W:World):Prop where
 heap:W.heap=w.heap
 os:W.os=w.os
 tape:W.tape=w.tape
 output:W.output=w.output
theorem Sw.refl(w:World):Sw w w:=⟨rfl,rfl,rfl,rfl⟩
theorem Sw.drew{w W:World}(h:Sw w W):Sw w W.drew:=⟨h.heap,h.os,h.tape,h.output⟩
theorem Sw.drewN{w W:World}(h:Sw w W)(n:Nat):Sw w (W.drewN n):=⟨h.heap,h.os,h.tape,h.output⟩
theorem Sw.cell{w W:World}(h:Sw w W)(a:Addr):W.cell? a=w.cell? a:=by unfold World.cell?;rw[h.heap]
theorem Sw.below{w W:World}(h:Sw w W)(B:Nat):Below B w W:=⟨h.os,h.tape,h.output,by rw[h.heap];exact Nat.le_refl _,fun k _=>by rw[h.heap]⟩
theorem TrAt.sw{Y:Lay}{t:Tr}{w W:World}(h:TrAt Y t w)(s:Sw w W):TrAt Y t W:=h.on (s.below _)
theorem high27(t:Tr)(w:World)(h:TrAt nl t w):Calls Tryz.prog 254 #[t.ptr] w fun e w'=>e=.returned (iw t.hi)/\w'=w:=by
 cases t using Tr.cas with
 |nil=>
  simp only[Tr.ptr,Tr.hi];go_enter Tryz.func254,Tryz.ntmps254;go_wp2_with fail;go_ret;exact⟨rfl,rfl⟩
 |node b l k v x r=>
  obtain⟨-,-,-,-,c4⟩:=nd_cells h.1;simp only[Tr.ptr,Tr.hi];clear h;generalize (x:Int)=xi at*;go_enter Tryz.func254,Tryz.ntmps254;go_wp2_with fail;go_ret;exact⟨rfl,rfl⟩
theorem measure30{b:Nat}{l r:Tr}{k:List UInt8}{v:Cv}{x:Nat}{w:World}(h:TrAt nl (.node b l k v x r) w)(hl:0<=l.hi/\l.hi<=1000000)(hr:0<=r.hi/\r.hi<=1000000):
  Calls Tryz.prog 257 #[pz b] w fun e w'=>e=.returned (.tuple #[])/\w'.heap[b]?=some (.cells (nl.cells k v (1+max l.hn r.hn) l.ptr r.ptr) nl.ty (0,0))/\Kept (fun i=>i=b) w w':=by
 have H:Hid (w.heap[b]?=some (.cells #[sd k,ui v.1.1,ui v.1.2,sd v.2.key,sd v.2.val,.bool v.2.dead,l.ptr,r.ptr,iw (x:Int)] nl.ty (0,0))):=h.1;obtain⟨-,-,c2,c3,c4⟩:=nd_cells h.1;have f4:=block_frozen h.1 8;have CL:Hid (∀W,Sw w W->Calls Tryz.prog 254 #[l.ptr] W fun e w'=>e=.returned (iw l.hi)/\w'=W):=fun W hs=>high27 l W (h.2.1.sw hs);have CR:Hid (∀W,Sw w W->Calls Tryz.prog 254 #[r.ptr] W fun e w'=>e=.returned (iw r.hi)/\w'=W):=fun W hs=>high27 r W (h.2.2.sw hs);have HH:Hid (((1+max l.hn r.hn:Nat):Int)=1+max l.hi r.hi):=max_hn l r;clear h;generalize 1+max l.hn r.hn=hh at*;generalize l.ptr=lp at*;generalize r.ptr=rp at*;generalize l.hi=a at*;generalize r.hi=c at*;generalize (x:Int)=xi at*;obtain⟨m,hm⟩:=xj (if a<c then c else a);have HM:Hid (1+max a c=1+m):=by show _=_;rw[<-hm];split<;>omega
 have hmb:0<=m/\m<=1000000:=by rw[<-hm];split<;>omega
 obtain⟨hm0,hm1⟩:=hmb;have HW:Hid (IntKind.i64.wrap (1+m)=1+m):=by show _=_;simp[IntKind.wrap,IntKind.bits,IntKind.signed];omega
 clear hl hr hm0 hm1;go_enter Tryz.func257,Tryz.ntmps257;go_wp2_with fail;go_region_held3 (fun W=>ce W b 6 lp/\ce W b 7 rp/\W.frozen? ⟨b,8,none⟩=false) (first|exact⟨c2,c3,f4⟩|exact⟨block_cell (block_set _ H.out) rfl,block_cell (block_set _ H.out) rfl,block_frozen (block_set _ H.out) _⟩) (first
  |(go_at_call_of 254 (lp);refine(CL.out _ (Sw.drew (Sw.refl _))).mono ?_;rintro e W1 ⟨rfl,rfl⟩)
  |(go_at_call_of 254 (rp);refine(CR.out _ (Sw.drew (Sw.refl _))).mono ?_;rintro e W1 ⟨rfl,rfl⟩))
 rw[HW.out];refine bodyPost_end (results_none Tryz.results257 _ _ _) rfl ?_;exact⟨rfl,by show _=some (Obj.cells #[sd k,ui v.1.1,ui v.1.2,sd v.2.key,sd v.2.val,.bool v.2.dead,lp,rp,iw (hh:Int)] nl.ty (0,0));rw[HH.out,HM.out];exact block_set _ H.out,(set_kept' w b 8 _).drew⟩
def Tr.size:Tr->Nat
 |Go.Deep.BT.nil=>0
 |Go.Deep.BT.node _ _ _ l r=>Tr.size l+Tr.size r+1
theorem trAt_unique{w:World}{s:Tr}:∀{t:Tr},TrAt nl s w->TrAt nl t w->s.ptr=t.ptr->s=t:=by
 induction s using Tr.ind with
 |nil=>
  intro t _ _ h;cases t using Tr.cas with
  |nil=>rfl
  |node b l k v x r=>simp[Tr.ptr]at h
 |node b l k v x r ihl ihr=>
  intro t ha hb h;cases t using Tr.cas with
  |nil=>simp[Tr.ptr]at h
  |node c m q u y s=>
   simp only[Tr.ptr,Value.pointer.injEq,Option.some.injEq,Addr.mk.injEq]at h;obtain⟨rfl,_⟩:=h;obtain⟨a1,a2,a3⟩:=ha;obtain⟨b1,b2,b3⟩:=hb;rw[a1]at b1;simp only[nl,Option.some.injEq,Obj.cells.injEq,Array.mk.injEq,List.cons.injEq,Value.string.injEq,Value.int.injEq,Value.bool.injEq]at b1;obtain⟨⟨e0,⟨_,f0⟩,⟨_,f1⟩,f7,f8,f9,e2,e3,⟨_,e4⟩,_⟩,_⟩:=b1;have e1:v=u:=cv_ext f0 f1 f7 f8 f9;have e5:k=q:=by rw[<-bs_data k,<-bs_data q,e0]
   have e6:x=y:=by omega
   rw[e5,e1,e6,ihl a2 b2 e2,ihr a3 b3 e3]
theorem szAt_ex:∃f:World->Value->Nat,∀{w:World} {s:Tr},TrAt nl s w->f w s.ptr=s.size:=by refine⟨fun w n=>@dite Nat (∃s:Tr,TrAt nl s w/\s.ptr=n) (Classical.propDecidable _) (fun h=>h.choose.size) (fun _=>0),fun{w s} h=>?_⟩;have hx:∃s':Tr,TrAt nl s' w/\s'.ptr=s.ptr:=⟨s,h,rfl⟩;show@dite Nat (∃s':Tr,TrAt nl s' w/\s'.ptr=s.ptr) (Classical.propDecidable _) (fun h=>h.choose.size) (fun _=>0)=s.size;rw[dif_pos hx,trAt_unique hx.choose_spec.1 h hx.choose_spec.2]
theorem Tr.is_ptr(t:Tr):∃o,t.ptr=.pointer o:=by
 cases t using Tr.cas with
 |nil=>exact⟨_,rfl⟩
 |node b l k v x r=>exact⟨_,rfl⟩
structure Nd(b:Nat)(l r:Tr)(k:List UInt8)(v:Cv)(x:Nat)(w:World):Prop where
 ok:TrAt nl (.node b l k v x r) w
 nd:(Tr.node b l k v x r).blocks.Nodup
 hl:Hk l
 hr:Hk r
 few:l.toL.length+r.toL.length<200000
theorem Nd.bl{b:Nat}{l r:Tr}{k:List UInt8}{v:Cv}{x:Nat}{w:World}(h:Nd b l r k v x w):0<=l.hi/\l.hi<=1000000:=by have:=h.hl.bounds;have:=h.few;omega
theorem Nd.br{b:Nat}{l r:Tr}{k:List UInt8}{v:Cv}{x:Nat}{w:World}(h:Nd b l r k v x w):0<=r.hi/\r.hi<=1000000:=by have:=h.hr.bounds;have:=h.few;omega
theorem Nd.measure{b:Nat}{l r:Tr}{k:List UInt8}{v:Cv}{x:Nat}{w:World}(h:Nd b l r k v x w):
  Calls Tryz.prog 257 #[pz b] w fun e w'=>e=.returned (.tuple #[])/\Nd b l r k v (1+max l.hn r.hn) w'/\Kept (fun i=>i=b) w w':=by
 refine(measure30 h.ok h.bl h.br).mono ?_;rintro e w' ⟨rfl,hb,hk⟩;have hn:=h.nd;simp only[Tr.blocks,List.nodup_cons,List.mem_append,not_or]at hn;exact⟨rfl,⟨TrAt.write hk hb h.ok.2.1 h.ok.2.2 hn.1.1 hn.1.2,h.nd,h.hl,h.hr,h.few⟩,hk⟩
theorem rotl{b c:Nat}{l m r:Tr}{k q:List UInt8}{v u:Cv}{x y:Nat}{w:World}(h:TrAt nl (.node b l k v x (.node c m q u y r)) w)(hn:(Tr.node b l k v x (.node c m q u y r)).blocks.Nodup)(hl:Hk l)(hm:Hk m)(hr:Hk r)(few:l.toL.length+m.toL.length+r.toL.length<100000):
  Nd b l m k v x ((w.setCell ⟨b,7,none⟩ m.ptr).setCell ⟨c,6,none⟩ (pz b))/\Kept (fun i=>i=b\/i=c) w ((w.setCell ⟨b,7,none⟩ m.ptr).setCell ⟨c,6,none⟩ (pz b))/\(∀W',Nd b l m k v (1+max l.hn m.hn) W'->Kept (fun i=>i=b) ((w.setCell ⟨b,7,none⟩ m.ptr).setCell ⟨c,6,none⟩ (pz b)) W'->Nd c (.node b l k v (1+max l.hn m.hn) m) r q u y W'):=by
 have hn0:=hn;obtain⟨h1,h2,h3,h4,h5⟩:=h;simp only[Tr.blocks,List.nodup_cons,List.mem_append,List.mem_cons,not_or,List.nodup_append]at hn;obtain⟨⟨nbl,nbc,nbm,nbr⟩,n1,⟨⟨ncm,ncr⟩,n2,n3,n4⟩,n5⟩:=hn;have ncl:c∉l.blocks:=fun hc=>n5 c hc c (.inl rfl) rfl;have k1:=set_kept' w b 7 m.ptr;have k2:=set_kept' (w.setCell ⟨b,7,none⟩ m.ptr) c 6 (pz b);have kk:Kept (fun i=>i=b\/i=c) w ((w.setCell ⟨b,7,none⟩ m.ptr).setCell ⟨c,6,none⟩ (pz b)):=by refine⟨k2.os.trans k1.os,k2.tape.trans k1.tape,k2.output.trans k1.output,Nat.le_trans k1.size k2.size,fun i hi hF=>?_⟩;rw[k2.block i (Nat.lt_of_lt_of_le hi k1.size) (fun e=>hF (.inr e)),k1.block i hi (fun e=>hF (.inl e))]
 have eb:((w.setCell ⟨b,7,none⟩ m.ptr).setCell ⟨c,6,none⟩ (pz b)).heap[b]?=some (.cells (nl.cells k v x l.ptr m.ptr) nl.ty (0,0)):=by rw[k2.block b (Nat.lt_of_lt_of_le (gsz h1) k1.size) nbc];exact block_set _ h1
 have ec:((w.setCell ⟨b,7,none⟩ m.ptr).setCell ⟨c,6,none⟩ (pz b)).heap[c]?=some (.cells (nl.cells q u y (pz b) r.ptr) nl.ty (0,0)):=by refine block_set _ (?_:_=some (Obj.cells (nl.cells q u y m.ptr r.ptr) nl.ty (0,0)));rw[k1.block c (gsz h3) (fun e=>nbc e.symm)];exact h3
 have tl:TrAt nl l ((w.setCell ⟨b,7,none⟩ m.ptr).setCell ⟨c,6,none⟩ (pz b)):=TrAt.kept kk h2 (fun i hi e=>by rcases e with rfl|rfl;exact nbl hi;exact ncl hi);have tm:TrAt nl m ((w.setCell ⟨b,7,none⟩ m.ptr).setCell ⟨c,6,none⟩ (pz b)):=TrAt.kept kk h4 (fun i hi e=>by rcases e with rfl|rfl;exact nbm hi;exact ncm hi);have tr:TrAt nl r ((w.setCell ⟨b,7,none⟩ m.ptr).setCell ⟨c,6,none⟩ (pz b)):=TrAt.kept kk h5 (fun i hi e=>by rcases e with rfl|rfl;exact nbr hi;exact ncr hi);have hp:(c::((b::(l.blocks++m.blocks))++r.blocks)).Nodup:=by refine(List.Perm.nodup_iff ?_).1 hn0;rw[List.perm_iff_count];intro a;simp only[Tr.blocks,List.count_cons,List.count_append];omega
 refine⟨⟨⟨eb,tl,tm⟩,?_,hl,hm,by omega⟩,kk,fun W' hN hk=>⟨⟨?_,hN.ok,TrAt.kept hk tr (fun i hi e=>nbr (e▸hi))⟩,hp,⟨rfl,hl,hm⟩,hr,?_⟩⟩
 ·simp only[Tr.blocks,List.nodup_cons,List.mem_append,not_or,List.nodup_append];exact⟨⟨nbl,nbm⟩,n1,n2,fun i hi j hj=>n5 i hi j (.inr (.inl hj))⟩
 ·rw[hk.block c (gsz ec) (fun e=>nbc e.symm)];exact ec
 ·simp only[Tr.toL,List.length_append,List.length_cons];omega
theorem left28{b c:Nat}{l m r:Tr}{k q:List UInt8}{v u:Cv}{x y:Nat}{w:World}(h:TrAt nl (.node b l k v x (.node c m q u y r)) w)(hn:(Tr.node b l k v x (.node c m q u y r)).blocks.Nodup)(hl:Hk l)(hm:Hk m)(hr:Hk r)(few:l.toL.length+m.toL.length+r.toL.length<100000):
  Calls Tryz.prog 255 #[pz b] w fun e w'=>∃x' y',e=.returned (pz c)/\TrAt nl (.node c (.node b l k v x' m) q u y' r) w'/\Hk (.node c (.node b l k v x' m) q u y' r)/\Kept (fun i=>i=b\/i=c) w w':=by
 obtain⟨-,-,-,b3',-⟩:=nd_cells h.1;have b3:ce w b 7 (pz c):=b3';obtain⟨-,-,c2,-,-⟩:=nd_cells h.2.2.1;have fb:=block_frozen h.1 7;have fc:=block_frozen h.2.2.1 6;have H:Hid _:=rotl h hn hl hm hr few;have hbc:b≠c:=by intro e;subst e;simp[Tr.blocks]at hn
 have HL:Hid (Hk l/\Hk m/\Hk r):=⟨hl,hm,hr⟩;clear h hn few hl hm hr b3';obtain⟨mo,hmo⟩:=m.is_ptr;rw[hmo]at c2 H;clear hmo;go_enter Tryz.func255,Tryz.ntmps255;go_wp2_with fail;refine H.out.1.measure.mono ?_;rintro e w1 ⟨rfl,h1,k1⟩;have H2:Hid _:=H.out.2.2 w1 h1 k1;have K1:Hid (Kept (fun i=>i=b\/i=c) w w1):=H.out.2.1.trans k1 (fun i e=>.inl (.inl e));clear h1 k1 H b3 c2 fb fc;go_wp2_with fail;refine H2.out.measure.mono ?_;rintro e w2 ⟨rfl,h2,k2⟩;have H3:Hid _:=h2;have K2:Hid (Kept (fun i=>i=b\/i=c) w w2):=K1.out.trans k2 (fun i e=>.inl (.inr e));clear h2 k2 H2 K1;go_wp2_with fail;go_ret;exact⟨_,_,rfl,H3.out.ok,⟨rfl,H3.out.hl,H3.out.hr⟩,K2.out⟩
theorem rotr{b c:Nat}{l m r:Tr}{k q:List UInt8}{v u:Cv}{x y:Nat}{w:World}(h:TrAt nl (.node b (.node c l q u y m) k v x r) w)(hn:(Tr.node b (.node c l q u y m) k v x r).blocks.Nodup)(hl:Hk l)(hm:Hk m)(hr:Hk r)(few:l.toL.length+m.toL.length+r.toL.length<100000):
  Nd b m r k v x ((w.setCell ⟨b,6,none⟩ m.ptr).setCell ⟨c,7,none⟩ (pz b))/\Kept (fun i=>i=b\/i=c) w ((w.setCell ⟨b,6,none⟩ m.ptr).setCell ⟨c,7,none⟩ (pz b))/\(∀W',Nd b m r k v (1+max m.hn r.hn) W'->Kept (fun i=>i=b) ((w.setCell ⟨b,6,none⟩ m.ptr).setCell ⟨c,7,none⟩ (pz b)) W'->Nd c l (.node b m k v (1+max m.hn r.hn) r) q u y W'):=by
 have hn0:=hn;obtain⟨h1,⟨h3,h2,h4⟩,h5⟩:=h;simp only[Tr.blocks,List.cons_append,List.nodup_cons,List.mem_append,List.mem_cons,not_or,List.nodup_append]at hn;obtain⟨⟨nbc,⟨nbl,nbm⟩,nbr⟩,⟨⟨ncl,ncm⟩,ncr⟩,⟨n1,n2,n4⟩,n3,n5⟩:=hn;have k1:=set_kept' w b 6 m.ptr;have k2:=set_kept' (w.setCell ⟨b,6,none⟩ m.ptr) c 7 (pz b);have kk:Kept (fun i=>i=b\/i=c) w ((w.setCell ⟨b,6,none⟩ m.ptr).setCell ⟨c,7,none⟩ (pz b)):=by refine⟨k2.os.trans k1.os,k2.tape.trans k1.tape,k2.output.trans k1.output,Nat.le_trans k1.size k2.size,fun i hi hF=>?_⟩;rw[k2.block i (Nat.lt_of_lt_of_le hi k1.size) (fun e=>hF (.inr e)),k1.block i hi (fun e=>hF (.inl e))]
 have eb:((w.setCell ⟨b,6,none⟩ m.ptr).setCell ⟨c,7,none⟩ (pz b)).heap[b]?=some (.cells (nl.cells k v x m.ptr r.ptr) nl.ty (0,0)):=by rw[k2.block b (Nat.lt_of_lt_of_le (gsz h1) k1.size) nbc];exact block_set _ h1
 have ec:((w.setCell ⟨b,6,none⟩ m.ptr).setCell ⟨c,7,none⟩ (pz b)).heap[c]?=some (.cells (nl.cells q u y l.ptr (pz b)) nl.ty (0,0)):=by refine block_set _ (?_:_=some (Obj.cells (nl.cells q u y l.ptr m.ptr) nl.ty (0,0)));rw[k1.block c (gsz h3) (fun e=>nbc e.symm)];exact h3
 have tl:TrAt nl l ((w.setCell ⟨b,6,none⟩ m.ptr).setCell ⟨c,7,none⟩ (pz b)):=TrAt.kept kk h2 (fun i hi e=>by rcases e with rfl|rfl;exact nbl hi;exact ncl hi);have tm:TrAt nl m ((w.setCell ⟨b,6,none⟩ m.ptr).setCell ⟨c,7,none⟩ (pz b)):=TrAt.kept kk h4 (fun i hi e=>by rcases e with rfl|rfl;exact nbm hi;exact ncm hi);have tr:TrAt nl r ((w.setCell ⟨b,6,none⟩ m.ptr).setCell ⟨c,7,none⟩ (pz b)):=TrAt.kept kk h5 (fun i hi e=>by rcases e with rfl|rfl;exact nbr hi;exact ncr hi);have hp:(c::(l.blocks++(b::(m.blocks++r.blocks)))).Nodup:=by refine(List.Perm.nodup_iff ?_).1 hn0;rw[List.perm_iff_count];intro a;simp only[Tr.blocks,List.count_cons,List.count_append];omega
 refine⟨⟨⟨eb,tm,tr⟩,?_,hm,hr,by omega⟩,kk,fun W' hN hk=>⟨⟨?_,TrAt.kept hk tl (fun i hi e=>nbl (e▸hi)),hN.ok⟩,hp,hl,⟨rfl,hm,hr⟩,?_⟩⟩
 ·simp only[Tr.blocks,List.nodup_cons,List.mem_append,not_or,List.nodup_append];exact⟨⟨nbm,nbr⟩,n2,n3,fun i hi j hj=>n5 i (.inr hi) j hj⟩
 ·rw[hk.block c (gsz ec) (fun e=>nbc e.symm)];exact ec
 ·simp only[Tr.toL,List.length_append,List.length_cons];omega
theorem right29{b c:Nat}{l m r:Tr}{k q:List UInt8}{v u:Cv}{x y:Nat}{w:World}(h:TrAt nl (.node b (.node c l q u y m) k v x r) w)(hn:(Tr.node b (.node c l q u y m) k v x r).blocks.Nodup)(hl:Hk l)(hm:Hk m)(hr:Hk r)(few:l.toL.length+m.toL.length+r.toL.length<100000):
  Calls Tryz.prog 256 #[pz b] w fun e w'=>∃x' y',e=.returned (pz c)/\TrAt nl (.node c l q u y' (.node b m k v x' r)) w'/\Hk (.node c l q u y' (.node b m k v x' r))/\Kept (fun i=>i=b\/i=c) w w':=by
 obtain⟨-,-,b3',-,-⟩:=nd_cells h.1;have b3:ce w b 6 (pz c):=b3';obtain⟨-,-,-,c2,-⟩:=nd_cells h.2.1.1;have fb:=block_frozen h.1 6;have fc:=block_frozen h.2.1.1 7;have H:Hid _:=rotr h hn hl hm hr few;have hbc:b≠c:=by intro e;subst e;simp[Tr.blocks]at hn
 have HL:Hid (Hk l/\Hk m/\Hk r):=⟨hl,hm,hr⟩;clear h hn few hl hm hr b3';obtain⟨mo,hmo⟩:=m.is_ptr;rw[hmo]at c2 H;clear hmo;go_enter Tryz.func256,Tryz.ntmps256;go_wp2_with fail;refine H.out.1.measure.mono ?_;rintro e w1 ⟨rfl,h1,k1⟩;have H2:Hid _:=H.out.2.2 w1 h1 k1;have K1:Hid (Kept (fun i=>i=b\/i=c) w w1):=H.out.2.1.trans k1 (fun i e=>.inl (.inl e));clear h1 k1 H b3 c2 fb fc;go_wp2_with fail;refine H2.out.measure.mono ?_;rintro e w2 ⟨rfl,h2,k2⟩;have H3:Hid _:=h2;have K2:Hid (Kept (fun i=>i=b\/i=c) w w2):=K1.out.trans k2 (fun i e=>.inl (.inr e));clear h2 k2 H2 K1;go_wp2_with fail;go_ret;exact⟨_,_,rfl,H3.out.ok,⟨rfl,H3.out.hl,H3.out.hr⟩,K2.out⟩
structure Tg(t:Tr)(L:Kv Cv)(w:World)(t':Tr)(w':World):Prop where
 ok:TrAt nl t' w'
 hk:Hk t'
 nd:t'.blocks.Nodup
 el:t'.toL=L
 sub:∀i∈t'.blocks,i∈t.blocks\/w.heap.size<=i
 kept:Kept (fun i=>i∈t.blocks) w w'
theorem perm_nodup{a b:List Nat}(h:a.Nodup)(p:∀i,a.count i=b.count i):b.Nodup:=(List.Perm.nodup_iff (List.perm_iff_count.2 p)).1 h
theorem count_mem{a b:List Nat}(p:∀i,a.count i=b.count i){i:Nat}(h:i∈b):i∈a:=(List.Perm.mem_iff (List.perm_iff_count.2 p)).2 h
theorem Sw.kept{F:Nat->Prop}{w W w':World}(s:Sw w W)(h:Kept F W w'):Kept F w w':=⟨h.os.trans s.os,h.tape.trans s.tape,h.output.trans s.output,by have:=h.size;rw[s.heap]at this;exact this,fun k hk hF=>by rw[h.block k (by rw[s.heap];exact hk) hF,s.heap]⟩
theorem Sw.tg{t t':Tr}{L:Kv Cv}{w W w':World}(s:Sw w W)(h:Tg t L W t' w'):Tg t L w t' w':=⟨h.ok,h.hk,h.nd,h.el,fun i hi=>by have:=h.sub i hi;rw[s.heap]at this;exact this,s.kept h.kept⟩
theorem Nd.sw{b:Nat}{l r:Tr}{k:List UInt8}{v:Cv}{x:Nat}{w W:World}(h:Nd b l r k v x w)(s:Sw w W):Nd b l r k v x W:=⟨h.ok.sw s,h.nd,h.hl,h.hr,h.few⟩
theorem Tg.after{t t1 t2:Tr}{L:Kv Cv}{w W w2:World}(hs:∀i∈t1.blocks,i∈t.blocks\/w.heap.size<=i)(hk:Kept (fun i=>i∈t.blocks) w W)(g:Tg t1 L W t2 w2):Tg t L w t2 w2:=
 ⟨g.ok,g.hk,g.nd,g.el,fun i hi=>by
  rcases g.sub i hi with h|h
  ·exact hs i h
  ·exact .inr (Nat.le_trans hk.size h),hk.trans g.kept hs⟩
theorem Tg.setl{b:Nat}{l r l':Tr}{k:List UInt8}{v:Cv}{x:Nat}{L:Kv Cv}{w w1:World}(h:TrAt nl (.node b l k v x r) w)(hn:(Tr.node b l k v x r).blocks.Nodup)(g:Tg l L w l' w1):
  TrAt nl (.node b l' k v x r) (w1.setCell ⟨b,6,none⟩ l'.ptr)/\(Tr.node b l' k v x r).blocks.Nodup/\(∀i∈(Tr.node b l' k v x r).blocks,i∈(Tr.node b l k v x r).blocks\/w.heap.size<=i)/\Kept (fun i=>i∈(Tr.node b l k v x r).blocks) w (w1.setCell ⟨b,6,none⟩ l'.ptr):=by
 simp only[Tr.blocks,List.nodup_cons,List.mem_append,not_or,List.nodup_append]at hn;obtain⟨⟨nbl,nbr⟩,n1,n2,n3⟩:=hn;have hb:b<w.heap.size:=(gsz h.1);have hrlt:=TrAt.lt h.2.2;have h1:w1.heap[b]?=some (.cells (nl.cells k v x l.ptr r.ptr) nl.ty (0,0)):=by rw[g.kept.block b hb nbl];exact h.1
 have tr:TrAt nl r w1:=TrAt.kept g.kept h.2.2 (fun i hi e=>n3 i e i hi rfl);have ks:=set_kept' w1 b 6 l'.ptr;have nbl':b∉l'.blocks:=fun hi=>by
  rcases g.sub b hi with e|e
  ·exact nbl e
  ·omega
 have dis:∀i∈l'.blocks,∀j∈r.blocks,i≠j:=fun i hi j hj e=>by
  subst e;rcases g.sub i hi with e|e
  ·exact n3 i e i hj rfl
  ·have:=hrlt i hj;omega
 refine⟨⟨block_set _ h1,TrAt.kept ks g.ok (fun i hi e=>nbl' (e▸hi)),TrAt.kept ks tr (fun i hi e=>nbr (e▸hi))⟩,?_,fun i hi=>?_,?_⟩
 ·simp only[Tr.blocks,List.nodup_cons,List.mem_append,not_or,List.nodup_append];exact⟨⟨nbl',nbr⟩,g.nd,n2,dis⟩
 ·simp only[Tr.blocks,List.mem_cons,List.mem_append]at hi|-;rcases hi with e|e|e
  ·exact .inl (.inl e)
  ·rcases g.sub i e with e|e
   ·exact .inl (.inr (.inl e))
   ·exact .inr e
  ·exact .inl (.inr (.inr e))
 ·refine(g.kept.mono (fun i hi=>?_)).trans ks (fun i hi=>.inl ?_)
  ·simp[Tr.blocks,hi]
  ·simp[Tr.blocks,hi]
theorem Tg.setr{b:Nat}{l r r':Tr}{k:List UInt8}{v:Cv}{x:Nat}{L:Kv Cv}{w w1:World}(h:TrAt nl (.node b l k v x r) w)(hn:(Tr.node b l k v x r).blocks.Nodup)(g:Tg r L w r' w1):
  TrAt nl (.node b l k v x r') (w1.setCell ⟨b,7,none⟩ r'.ptr)/\(Tr.node b l k v x r').blocks.Nodup/\(∀i∈(Tr.node b l k v x r').blocks,i∈(Tr.node b l k v x r).blocks\/w.heap.size<=i)/\Kept (fun i=>i∈(Tr.node b l k v x r).blocks) w (w1.setCell ⟨b,7,none⟩ r'.ptr):=by
 simp only[Tr.blocks,List.nodup_cons,List.mem_append,not_or,List.nodup_append]at hn;obtain⟨⟨nbl,nbr⟩,n1,n2,n3⟩:=hn;have hb:b<w.heap.size:=(gsz h.1);have hllt:=TrAt.lt h.2.1;have h1:w1.heap[b]?=some (.cells (nl.cells k v x l.ptr r.ptr) nl.ty (0,0)):=by rw[g.kept.block b hb nbr];exact h.1
 have tl:TrAt nl l w1:=TrAt.kept g.kept h.2.1 (fun i hi e=>n3 i hi i e rfl);have ks:=set_kept' w1 b 7 r'.ptr;have nbr':b∉r'.blocks:=fun hi=>by
  rcases g.sub b hi with e|e
  ·exact nbr e
  ·omega
 have dis:∀i∈l.blocks,∀j∈r'.blocks,i≠j:=fun i hi j hj e=>by
  subst e;rcases g.sub i hj with e|e
  ·exact n3 i hi i e rfl
  ·have:=hllt i hi;omega
 refine⟨⟨block_set _ h1,TrAt.kept ks tl (fun i hi e=>nbl (e▸hi)),TrAt.kept ks g.ok (fun i hi e=>nbr' (e▸hi))⟩,?_,fun i hi=>?_,?_⟩
 ·simp only[Tr.blocks,List.nodup_cons,List.mem_append,not_or,List.nodup_append];exact⟨⟨nbl,nbr'⟩,n1,g.nd,dis⟩
 ·simp only[Tr.blocks,List.mem_cons,List.mem_append]at hi|-;rcases hi with e|e|e
  ·exact .inl (.inl e)
  ·exact .inl (.inr (.inl e))
  ·rcases g.sub i e with e|e
   ·exact .inl (.inr (.inr e))
   ·exact .inr e
 ·refine(g.kept.mono (fun i hi=>?_)).trans ks (fun i hi=>.inl ?_)
  ·simp[Tr.blocks,hi]
  ·simp[Tr.blocks,hi]
theorem Nd.mtg{b:Nat}{l r:Tr}{k:List UInt8}{v:Cv}{x:Nat}{w:World}(h:Nd b l r k v x w):
  Calls Tryz.prog 257 #[pz b] w fun e w'=>e=.returned (.tuple #[])/\∃t',Tr.ptr t'=.pointer (some ⟨b,0,none⟩)/\Tg (.node b l k v x r) (l.toL++(k,v)::r.toL) w t' w':=by
 refine h.measure.mono ?_;rintro e w' ⟨rfl,h1,hk⟩;exact⟨rfl,.node b l k v (1+max l.hn r.hn) r,rfl,h1.ok,⟨rfl,h1.hl,h1.hr⟩,h1.nd,rfl,fun i hi=>.inl hi,hk.mono (fun i e=>by simp[Tr.blocks,e])⟩
theorem leftg{b c:Nat}{l m r:Tr}{k q:List UInt8}{v u:Cv}{x y:Nat}{w:World}(h:TrAt nl (.node b l k v x (.node c m q u y r)) w)(hn:(Tr.node b l k v x (.node c m q u y r)).blocks.Nodup)(hl:Hk l)(hm:Hk m)(hr:Hk r)(few:l.toL.length+m.toL.length+r.toL.length<100000):
  Calls Tryz.prog 255 #[pz b] w fun e w'=>∃x' y',e=.returned (pz c)/\Tg (.node b l k v x (.node c m q u y r)) (l.toL++(k,v)::(m.toL++(q,u)::r.toL)) w (.node c (.node b l k v x' m) q u y' r) w':=by
 refine(left28 h hn hl hm hr few).mono ?_;rintro e w' ⟨x',y',rfl,h1,h2,hk⟩;have hp:∀i,(Tr.node b l k v x (.node c m q u y r)).blocks.count i=(Tr.node c (.node b l k v x' m) q u y' r).blocks.count i:=fun i=>by simp only[Tr.blocks,List.count_cons,List.count_append];omega
 exact⟨x',y',rfl,h1,h2,perm_nodup hn hp,by simp[Tr.toL],fun i hi=>.inl (count_mem hp hi),hk.mono (fun i e=>by rcases e with e|e<;>simp[Tr.blocks,e])⟩
theorem rightg{b c:Nat}{l m r:Tr}{k q:List UInt8}{v u:Cv}{x y:Nat}{w:World}(h:TrAt nl (.node b (.node c l q u y m) k v x r) w)(hn:(Tr.node b (.node c l q u y m) k v x r).blocks.Nodup)(hl:Hk l)(hm:Hk m)(hr:Hk r)(few:l.toL.length+m.toL.length+r.toL.length<100000):
  Calls Tryz.prog 256 #[pz b] w fun e w'=>∃x' y',e=.returned (pz c)/\Tg (.node b (.node c l q u y m) k v x r) ((l.toL++(q,u)::m.toL)++(k,v)::r.toL) w (.node c l q u y' (.node b m k v x' r)) w':=by
 refine(right29 h hn hl hm hr few).mono ?_;rintro e w' ⟨x',y',rfl,h1,h2,hk⟩;have hp:∀i,(Tr.node b (.node c l q u y m) k v x r).blocks.count i=(Tr.node c l q u y' (.node b m k v x' r)).blocks.count i:=fun i=>by simp only[Tr.blocks,List.count_cons,List.count_append];omega
 exact⟨x',y',rfl,h1,h2,perm_nodup hn hp,by simp[Tr.toL],fun i hi=>.inl (count_mem hp hi),hk.mono (fun i e=>by rcases e with e|e<;>simp[Tr.blocks,e])⟩
end Go.Proofs.YtdplfgcoaddbdaaGreat.Lat
