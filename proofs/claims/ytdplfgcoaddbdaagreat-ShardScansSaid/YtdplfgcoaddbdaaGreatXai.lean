import Derived.Test.YtdplfgcoaddbdaaGreatXah
set_option maxHeartbeats 4000000
set_option maxRecDepth 100000
set_option linter.unusedVariables false
set_option linter.unusedSimpArgs false
namespace Go.Proofs.YtdplfgcoaddbdaaGreat.Sto
open Go.RowKit
theorem with21(key:List UInt8)(v:Sv)(t:Tr):∀(w:World),TrAt nl t w->t.blocks.Nodup->Hk t->Srt t.toL->getF key t.toL=none->t.toL.length<100000->
  Calls Tryz.prog 199 #[t.ptr,sd key,.slice v.1 v.2.1 v.2.2] w fun e w'=>∃t',e=.returned t'.ptr/\Tg t (setF key v t.toL) w t' w':=by
 induction t using Tr.ind with
 |nil=>
  intro w _ _ _ _ _ _;simp only[Tr.ptr];have HG:Hid (Tg .nil (setF key v (Tr.toL .nil)) w (.node w.heap.size .nil key v 1 .nil) (w.alloc (.cells #[sd key,.slice v.1 v.2.1 v.2.2,.pointer none,.pointer none,iw 1] 269))):=
   ⟨TrAt.new (Y:=nl) (l:=.nil) (r:=.nil) trivial trivial key v 1,⟨rfl,trivial,trivial⟩,by simp[Tr.blocks],rfl,fun i hi=>by simp[Tr.blocks]at hi;omega,Kept.of_below (al _)⟩
  go_enter Tryz.func199,Tryz.ntmps199;go_wp2_with fail;go_ret;exact⟨_,rfl,HG.out⟩
 |node b l k u x r ihl ihr=>
  intro w ha hn hk hs hg hf;obtain⟨hs1,hs2,_,_⟩:=srt_parts hs;have hg0:=hg;simp only[Tr.toL]at hg0;rw[get_parts hs]at hg0;have hn':=hn;rw[Tr.blocks,List.nodup_cons,List.nodup_append]at hn';have hf':=hf;simp only[Tr.toL,List.length_append,List.length_cons]at hf';obtain⟨c0,-,c2,c3,-⟩:=nd_cells ha.1;have b1:=bl key k;by_cases h1:ltK key k=true
  ·rw[if_pos h1]at hg0;have f2:=block_frozen ha.1 2;have CW:Hid (1=1->Calls Tryz.prog 199 #[l.ptr,sd key,.slice v.1 v.2.1 v.2.2] w fun e w1=>∃o,e=.returned (.pointer o)/\w1.cell? ⟨b,2,none⟩=some l.ptr/\w1.frozen? ⟨b,2,none⟩=false/\Calls Tryz.prog 239 #[pz b] (w1.setCell ⟨b,2,none⟩ (.pointer o)) fun e w2=>∃t',e=.returned t'.ptr/\Tg (.node b l k u x r) (setF key v (Tr.node b l k u x r).toL) w t' w2):=by
    intro _;refine(ihl w ha.2.1 hn'.2.1 hk.2.1 hs1 hg0 (by omega)).mono ?_;rintro e w1 ⟨l',rfl,g⟩;obtain⟨o,ho⟩:=l'.is_ptr;have hb1:w1.heap[b]?=w.heap[b]?:=g.kept.block b (gsz ha.1) (fun hi=>hn'.1 (by simp[hi]));obtain⟨o1,o2,o3,o4⟩:=Tg.setl ha hn g;rw[ho]at o1 o4;have hlen:l'.toL.length=l.toL.length+1:=by rw[g.el,len_set hs1,hg0];rfl
    refine⟨o,by rw[ho],block_cell (hb1.trans ha.1) rfl,block_frozen (hb1.trans ha.1) _,?_⟩;refine(balanced25 ⟨o1,o2,g.hk,hk.2.2,by omega⟩ (by omega)).mono ?_;rintro e w2 ⟨t',rfl,g2⟩;refine⟨t',rfl,Tg.after o3 o4 ?_⟩;simp only[Tr.toL];rw[set_parts hs,if_pos h1,<-g.el];exact g2
   have q1:Op.bytesLess (bs key).toList (bs k).toList=true:=by rw[b1];exact h1
   clear ihl ihr ha hn hk hs hg hf hs1 hs2 hg0 hn' hf' b1 h1;generalize setF key v (Tr.node b l k u x r).toL=L at*;simp only[Tr.ptr];generalize Tr.node b l k u x r=t at*;generalize l.ptr=lp at*;generalize r.ptr=rp at*;go_enter Tryz.func199,Tryz.ntmps199;go_wp2_with fail;refine(CW.out (by trivial)).mono ?_;rintro e w1 ⟨o,rfl,d1,d2,d3⟩;have HG:Hid (Calls Tryz.prog 239 #[pz b] (w1.setCell ⟨b,2,none⟩ (.pointer o)) fun e w2=>∃t',e=.returned t'.ptr/\Tg t L w t' w2):=d3;clear d3 CW;go_wp2_with fail;refine HG.out.mono ?_;rintro e w2 ⟨t',rfl,g⟩;obtain⟨o',ho⟩:=t'.is_ptr;have HX:Hid (∃t',(Ending.returned (.pointer o'):Ending)=.returned (Tr.ptr t')/\Tg t L w t' w2):=⟨t',by rw[ho],g⟩;rw[ho];clear g HG ho;go_wp2_with fail;go_ret;exact HX.out
  ·rw[if_neg h1]at hg0;have h2:ltK k key=true:=by
    by_cases h2:ltK k key=true
    ·exact h2
    ·rw[if_neg h2]at hg0;cases hg0
   rw[if_pos h2]at hg0;have f2:=block_frozen ha.1 3;have CW:Hid (1=1->Calls Tryz.prog 199 #[r.ptr,sd key,.slice v.1 v.2.1 v.2.2] w fun e w1=>∃o,e=.returned (.pointer o)/\w1.cell? ⟨b,3,none⟩=some r.ptr/\w1.frozen? ⟨b,3,none⟩=false/\Calls Tryz.prog 239 #[pz b] (w1.setCell ⟨b,3,none⟩ (.pointer o)) fun e w2=>∃t',e=.returned t'.ptr/\Tg (.node b l k u x r) (setF key v (Tr.node b l k u x r).toL) w t' w2):=by
    intro _;refine(ihr w ha.2.2 hn'.2.2.1 hk.2.2 hs2 hg0 (by omega)).mono ?_;rintro e w1 ⟨r',rfl,g⟩;obtain⟨o,ho⟩:=r'.is_ptr;have hb1:w1.heap[b]?=w.heap[b]?:=g.kept.block b (gsz ha.1) (fun hi=>hn'.1 (by simp[hi]));obtain⟨o1,o2,o3,o4⟩:=Tg.setr ha hn g;rw[ho]at o1 o4;have hlen:r'.toL.length=r.toL.length+1:=by rw[g.el,len_set hs2,hg0];rfl
    refine⟨o,by rw[ho],block_cell (hb1.trans ha.1) rfl,block_frozen (hb1.trans ha.1) _,?_⟩;refine(balanced25 ⟨o1,o2,hk.2.1,g.hk,by omega⟩ (by omega)).mono ?_;rintro e w2 ⟨t',rfl,g2⟩;refine⟨t',rfl,Tg.after o3 o4 ?_⟩;simp only[Tr.toL];rw[set_parts hs,if_neg h1,if_pos h2,<-g.el];exact g2
   have q1:Op.bytesLess (bs key).toList (bs k).toList=false:=by rw[b1];simpa using h1
   clear ihl ihr ha hn hk hs hg hf hs1 hs2 hg0 hn' hf' b1 h1 h2;generalize setF key v (Tr.node b l k u x r).toL=L at*;simp only[Tr.ptr];generalize Tr.node b l k u x r=t at*;generalize l.ptr=lp at*;generalize r.ptr=rp at*;go_enter Tryz.func199,Tryz.ntmps199;go_wp2_with fail;refine(CW.out (by trivial)).mono ?_;rintro e w1 ⟨o,rfl,d1,d2,d3⟩;have HG:Hid (Calls Tryz.prog 239 #[pz b] (w1.setCell ⟨b,3,none⟩ (.pointer o)) fun e w2=>∃t',e=.returned t'.ptr/\Tg t L w t' w2):=d3;clear d3 CW;go_wp2_with fail;refine HG.out.mono ?_;rintro e w2 ⟨t',rfl,g⟩;obtain⟨o',ho⟩:=t'.is_ptr;have HX:Hid (∃t',(Ending.returned (.pointer o'):Ending)=.returned (Tr.ptr t')/\Tg t L w t' w2):=⟨t',by rw[ho],g⟩;rw[ho];clear g HG ho;go_wp2_with fail;go_ret;exact HX.out
theorem first26{b:Nat}{l r:Tr}{k:List UInt8}{v:Sv}{x:Nat}{w:World}(h:TrAt nl (.node b l k v x r) w):
  Calls Tryz.prog 238 #[pz b] w fun e w'=>∃c q u y m s,e=.returned (pz c)/\w'=w/\w.heap[c]?=some (.cells (nl.cells q u y m s) nl.ty (0,0))/\c∈(Tr.node b l k v x r).blocks/\∃R,(Tr.node b l k v x r).toL=(q,u)::R:=by
 obtain⟨szAt,szAt_eq⟩:=szAt_ex;have HSz:Hid (∀{w:World} {s:Tr},TrAt nl s w->szAt w s.ptr=s.size):=szAt_eq;clear szAt_eq;have HT:Hid (TrAt nl (.node b l k v x r) w):=h;have HB:Hid (TrAt nl (.node b l k v x r) w->∃c m q u y s,(Value.pointer (some ⟨b,0,none⟩):Value)=.pointer (some ⟨c,0,none⟩)/\TrAt nl (.node c m q u y s) w/\(∀i∈(Tr.node c m q u y s).blocks,i∈(Tr.node b l k v x r).blocks)/\∃R,(Tr.node b l k v x r).toL=(Tr.node c m q u y s).toL++R):=fun h=>⟨b,l,k,v,x,r,rfl,h,fun _ hi=>hi,[],by simp⟩;clear h;generalize Tr.node b l k v x r=t at*;go_enter Tryz.func238,Tryz.ntmps238;go_wp2_with fail;go_loopw [0] (fun n wr=>wr=w/\∃c m q u y s,n=.pointer (some ⟨c,0,none⟩)/\TrAt nl (.node c m q u y s) w/\(∀i∈(Tr.node c m q u y s).blocks,i∈t.blocks)/\∃R,t.toL=(Tr.node c m q u y s).toL++R) (fun n _=>szAt w n)
 case atStart=>exact⟨rfl,HB.out HT.out⟩
 case round=>
  obtain⟨rfl,c,m,q,u,y,s,rfl,hc,hbl,R,hR⟩:=hrel;cases m using Tr.cas with
  |nil=>
   obtain⟨-,-,c2,-,-⟩:=nd_cells hc.1;have HR:Hid (wr.heap[c]?=some (.cells (nl.cells q u y (Tr.ptr .nil) s.ptr) nl.ty (0,0))/\c∈t.blocks/\∃R,t.toL=(q,u)::R):=⟨hc.1,hbl c (by simp[Tr.blocks]),s.toL++R,by rw[hR];simp[Tr.toL]⟩;simp only[Tr.ptr]at c2;clear hc hbl hR HB HT;go_wp2_with fail;go_ret;exact⟨c,q,u,y,_,_,rfl,rfl,HR.out⟩
  |node c' m' q' u' y' s'=>
   obtain⟨-,-,c2,-,-⟩:=nd_cells hc.1;have HR:Hid (∃c m q u y s,(Value.pointer (some ⟨c',0,none⟩):Value)=.pointer (some ⟨c,0,none⟩)/\TrAt nl (.node c m q u y s) wr/\(∀i∈(Tr.node c m q u y s).blocks,i∈t.blocks)/\∃R,t.toL=(Tr.node c m q u y s).toL++R):=
    ⟨c',m',q',u',y',s',rfl,hc.2.1,fun i hi=>hbl i (by simp only[Tr.blocks,List.mem_cons,List.mem_append]at hi|-;exact .inr (.inl hi)),(q,u)::s.toL++R,by rw[hR];simp[Tr.toL]⟩
   have HM:Hid (szAt wr (pz c')<szAt wr (pz c)):=by have e1:=HSz.out hc.2.1;have e2:=HSz.out hc;simp only[Tr.ptr]at e1 e2;show _<_;rw[e1,e2];simp only[Tr.size];omega
   simp only[Tr.ptr]at c2;clear hc hbl hR HB HT;go_wp2_with fail;go_roundw
   case rel=>exact⟨trivial,HR.out⟩
   case measure=>exact HM.out
theorem Tg.side{b:Nat}{l r:Tr}{k:List UInt8}{v:Sv}{x:Nat}{w:World}{s:Tr}(hs:s=l\/s=r)(h:TrAt nl (.node b l k v x r) w)(hn:(Tr.node b l k v x r).blocks.Nodup)(hk:Hk (.node b l k v x r)):Tg (.node b l k v x r) s.toL w s w:=by
 rw[Tr.blocks,List.nodup_cons,List.nodup_append]at hn;rcases hs with rfl|rfl
 ·exact⟨h.2.1,hk.2.1,hn.2.1,rfl,fun i hi=>.inl (by simp[Tr.blocks,hi]),Kept.refl _ _⟩
 ·exact⟨h.2.2,hk.2.2,hn.2.2.1,rfl,fun i hi=>.inl (by simp[Tr.blocks,hi]),Kept.refl _ _⟩
theorem moved{b c:Nat}{l r:Tr}{k q:List UInt8}{v u:Sv}{x y:Nat}{m s:Value}{w:World}(ha:TrAt nl (.node b l k v x r) w)(hn:(Tr.node b l k v x r).blocks.Nodup)(hc:w.heap[c]?=some (.cells (nl.cells q u y m s) nl.ty (0,0)))(hcr:c∈r.blocks):
  TrAt nl (.node b l q u x r) ((w.setCell ⟨b,0,none⟩ (sd q)).setCell ⟨b,1,none⟩ (.slice u.1 u.2.1 u.2.2))/\Kept (fun i=>i=b) w ((w.setCell ⟨b,0,none⟩ (sd q)).setCell ⟨b,1,none⟩ (.slice u.1 u.2.1 u.2.2))/\((w.setCell ⟨b,0,none⟩ (sd q)).setCell ⟨b,1,none⟩ (.slice u.1 u.2.1 u.2.2)).heap[c]?=some (.cells (nl.cells q u y m s) nl.ty (0,0))/\c≠b:=by
 rw[Tr.blocks,List.nodup_cons,List.mem_append,not_or]at hn;have hcb:c≠b:=fun e=>hn.1.2 (e▸hcr);have k1:=set_kept' w b 0 (sd q);have k2:=set_kept' (w.setCell ⟨b,0,none⟩ (sd q)) b 1 (.slice u.1 u.2.1 u.2.2);have kk:=k1.trans k2 (fun i e=>.inl e);refine⟨⟨block_set _ (block_set _ ha.1),TrAt.kept kk ha.2.1 (fun i hi e=>hn.1.1 (e▸hi)),TrAt.kept kk ha.2.2 (fun i hi e=>hn.1.2 (e▸hi))⟩,kk,?_,hcb⟩;rw[kk.block c (gsz hc) hcb];exact hc
theorem without23(t:Tr):∀(key:List UInt8) (w:World),TrAt nl t w->t.blocks.Nodup->Hk t->Srt t.toL->(getF key t.toL).isSome=true->t.toL.length<100000->
  Calls Tryz.prog 198 #[t.ptr,sd key] w fun e w'=>∃t',e=.returned t'.ptr/\Tg t (cutF key t.toL) w t' w':=by
 induction t using Tr.ind with
 |nil=>
  intro key w _ _ _ _ hg _;cases hg
 |node b l k u x r ihl ihr=>
  intro key w ha hn hk hs hg hf;obtain⟨hs1,hs2,_,_⟩:=srt_parts hs;have hg0:=hg;simp only[Tr.toL]at hg0;rw[get_parts hs]at hg0;have hn':=hn;rw[Tr.blocks,List.nodup_cons,List.nodup_append]at hn';have hf':=hf;simp only[Tr.toL,List.length_append,List.length_cons]at hf';obtain⟨c0,-,c2,c3,-⟩:=nd_cells ha.1;have b1:=bl key k;have b2:=bl k key;by_cases h1:ltK key k=true
  ·rw[if_pos h1]at hg0;have f2:=block_frozen ha.1 2;have CW:Hid (1=1->Calls Tryz.prog 198 #[l.ptr,sd key] w fun e w1=>∃o,e=.returned (.pointer o)/\w1.cell? ⟨b,2,none⟩=some l.ptr/\w1.frozen? ⟨b,2,none⟩=false/\Calls Tryz.prog 239 #[pz b] (w1.setCell ⟨b,2,none⟩ (.pointer o)) fun e w2=>∃t',e=.returned t'.ptr/\Tg (.node b l k u x r) (cutF key (Tr.node b l k u x r).toL) w t' w2):=by
    intro _;refine(ihl key w ha.2.1 hn'.2.1 hk.2.1 hs1 hg0 (by omega)).mono ?_;rintro e w1 ⟨l',rfl,g⟩;obtain⟨o,ho⟩:=l'.is_ptr;have hb1:w1.heap[b]?=w.heap[b]?:=g.kept.block b (gsz ha.1) (fun hi=>hn'.1 (by simp[hi]));obtain⟨o1,o2,o3,o4⟩:=Tg.setl ha hn g;rw[ho]at o1 o4;have hlen:l'.toL.length<=l.toL.length:=by rw[g.el,len_cut hs1];split<;>omega
    refine⟨o,by rw[ho],block_cell (hb1.trans ha.1) rfl,block_frozen (hb1.trans ha.1) _,?_⟩;refine(balanced25 ⟨o1,o2,g.hk,hk.2.2,by omega⟩ (by omega)).mono ?_;rintro e w2 ⟨t',rfl,g2⟩;refine⟨t',rfl,Tg.after o3 o4 ?_⟩;simp only[Tr.toL];rw[cut_parts hs,if_pos h1,<-g.el];exact g2
   have q1:Op.bytesLess (bs key).toList (bs k).toList=true:=by rw[b1];exact h1
   clear ihl ihr ha hn hk hs hg hf hs1 hs2 hg0 hn' hf' b1 b2 h1;generalize cutF key (Tr.node b l k u x r).toL=L at*;simp only[Tr.ptr];generalize Tr.node b l k u x r=t at*;generalize l.ptr=lp at*;generalize r.ptr=rp at*;go_enter Tryz.func198,Tryz.ntmps198;go_wp2_with fail;refine(CW.out (by trivial)).mono ?_;rintro e w1 ⟨o,rfl,d1,d2,d3⟩;have HG:Hid (Calls Tryz.prog 239 #[pz b] (w1.setCell ⟨b,2,none⟩ (.pointer o)) fun e w2=>∃t',e=.returned t'.ptr/\Tg t L w t' w2):=d3;clear d3 CW;go_wp2_with fail;refine HG.out.mono ?_;rintro e w2 ⟨t',rfl,g⟩;obtain⟨o',ho⟩:=t'.is_ptr;have HX:Hid (∃t',(Ending.returned (.pointer o'):Ending)=.returned (Tr.ptr t')/\Tg t L w t' w2):=⟨t',by rw[ho],g⟩;rw[ho];clear g HG ho;go_wp2_with fail;go_ret;exact HX.out
  ·rw[if_neg h1]at hg0;by_cases h2:ltK k key=true
   ·rw[if_pos h2]at hg0;have f2:=block_frozen ha.1 3;have CW:Hid (1=1->Calls Tryz.prog 198 #[r.ptr,sd key] w fun e w1=>∃o,e=.returned (.pointer o)/\w1.cell? ⟨b,3,none⟩=some r.ptr/\w1.frozen? ⟨b,3,none⟩=false/\Calls Tryz.prog 239 #[pz b] (w1.setCell ⟨b,3,none⟩ (.pointer o)) fun e w2=>∃t',e=.returned t'.ptr/\Tg (.node b l k u x r) (cutF key (Tr.node b l k u x r).toL) w t' w2):=by
     intro _;refine(ihr key w ha.2.2 hn'.2.2.1 hk.2.2 hs2 hg0 (by omega)).mono ?_;rintro e w1 ⟨r',rfl,g⟩;obtain⟨o,ho⟩:=r'.is_ptr;have hb1:w1.heap[b]?=w.heap[b]?:=g.kept.block b (gsz ha.1) (fun hi=>hn'.1 (by simp[hi]));obtain⟨o1,o2,o3,o4⟩:=Tg.setr ha hn g;rw[ho]at o1 o4;have hlen:r'.toL.length<=r.toL.length:=by rw[g.el,len_cut hs2];split<;>omega
     refine⟨o,by rw[ho],block_cell (hb1.trans ha.1) rfl,block_frozen (hb1.trans ha.1) _,?_⟩;refine(balanced25 ⟨o1,o2,hk.2.1,g.hk,by omega⟩ (by omega)).mono ?_;rintro e w2 ⟨t',rfl,g2⟩;refine⟨t',rfl,Tg.after o3 o4 ?_⟩;simp only[Tr.toL];rw[cut_parts hs,if_neg h1,if_pos h2,<-g.el];exact g2
    have q1:Op.bytesLess (bs key).toList (bs k).toList=false:=by rw[b1];simpa using h1
    have q2:((bs key).toList==(bs k).toList)=false:=by rw[bs_beq];simpa using(ltK_ne h2).symm
    clear ihl ihr ha hn hk hs hg hf hs1 hs2 hg0 hn' hf' b1 b2 h1 h2;generalize cutF key (Tr.node b l k u x r).toL=L at*;simp only[Tr.ptr];generalize Tr.node b l k u x r=t at*;generalize l.ptr=lp at*;generalize r.ptr=rp at*;go_enter Tryz.func198,Tryz.ntmps198;go_wp2_with fail;refine(CW.out (by trivial)).mono ?_;rintro e w1 ⟨o,rfl,d1,d2,d3⟩;have HG:Hid (Calls Tryz.prog 239 #[pz b] (w1.setCell ⟨b,3,none⟩ (.pointer o)) fun e w2=>∃t',e=.returned t'.ptr/\Tg t L w t' w2):=d3;clear d3 CW;go_wp2_with fail;refine HG.out.mono ?_;rintro e w2 ⟨t',rfl,g⟩;obtain⟨o',ho⟩:=t'.is_ptr;have HX:Hid (∃t',(Ending.returned (.pointer o'):Ending)=.returned (Tr.ptr t')/\Tg t L w t' w2):=⟨t',by rw[ho],g⟩;rw[ho];clear g HG ho;go_wp2_with fail;go_ret;exact HX.out
   ·have q1:Op.bytesLess (bs key).toList (bs k).toList=false:=by rw[b1];simpa using h1
    have q2:((bs key).toList==(bs k).toList)=true:=by rw[bs_beq];simpa using ltK_tri (by simpa using h1) (by simpa using h2)
    have hcut:cutF key (Tr.node b l k u x r).toL=l.toL++r.toL:=by simp only[Tr.toL];rw[cut_parts hs,if_neg h1,if_neg h2]
    rw[hcut];clear hcut b1 b2 hg0 hg h1 h2;cases l using Tr.cas with
    |nil=>
     have HG:Hid _:=Tg.side (s:=r) (.inr rfl) ha hn hk;obtain⟨o,ho⟩:=r.is_ptr;have HX:Hid (∃t',(Ending.returned (.pointer o):Ending)=.returned (Tr.ptr t')/\Tg (.node b .nil k u x r) (Tr.toL .nil++r.toL) w t' w):=⟨r,by rw[ho],HG.out⟩;rw[ho]at c3;simp only[Tr.ptr]at c2|-;clear HG ho ihl ihr ha hn hk hs hf hs1 hs2 hn' hf';generalize Tr.toL .nil++r.toL=L at*;generalize Tr.node b .nil k u x r=t at*;go_enter Tryz.func198,Tryz.ntmps198;go_wp2_with fail;go_ret;exact HX.out
    |node c' l1 k1 u1 x1 r1=>
     generalize hlN:Tr.node c' l1 k1 u1 x1 r1=l at*;have hlp:l.ptr=.pointer (some ⟨c',0,none⟩):=by rw[<-hlN];rfl
     clear hlN;cases r using Tr.cas with
     |nil=>
      have HG:Hid _:=Tg.side (s:=l) (.inl rfl) ha hn hk;have HX:Hid (∃t',(Ending.returned (pz c'):Ending)=.returned (Tr.ptr t')/\Tg (.node b l k u x .nil) (l.toL++Tr.toL .nil) w t' w):=⟨l,by rw[hlp],by simp only[Tr.toL,List.append_nil];exact HG.out⟩;rw[hlp]at c2;simp only[Tr.ptr]at c3|-;clear HG hlp ihl ihr ha hn hk hs hf hs1 hs2 hn' hf';generalize l.toL++Tr.toL .nil=L at*;generalize Tr.node b l k u x .nil=t at*;go_enter Tryz.func198,Tryz.ntmps198;go_wp2_with fail;go_ret;exact HX.out
     |node d l2 k2 u2 x2 r2=>
      have CF:Hid (1=1->Calls Tryz.prog 238 #[pz d] w fun e w'=>∃c q u y m s,e=.returned (pz c)/\w'=w/\w.heap[c]?=some (.cells (nl.cells q u y m s) nl.ty (0,0))/\c∈(Tr.node d l2 k2 u2 x2 r2).blocks/\∃R,(Tr.node d l2 k2 u2 x2 r2).toL=(q,u)::R):=fun _=>first26 ha.2.2;generalize hrN:Tr.node d l2 k2 u2 x2 r2=r at*;have hrp:r.ptr=.pointer (some ⟨d,0,none⟩):=by rw[<-hrN];rfl
      clear hrN;have f0:=block_frozen ha.1 0;have f1:=block_frozen ha.1 1;have c1:ce w b 1 (.slice u.1 u.2.1 u.2.2):=block_cell ha.1 rfl;have CD:Hid (∀c q u' y m s R,w.heap[c]?=some (.cells (nl.cells q u' y m s) nl.ty (0,0))->c∈r.blocks->r.toL=(q,u')::R->∀W1,W1=(w.setCell ⟨b,0,none⟩ (sd q)).setCell ⟨b,1,none⟩ (.slice u'.1 u'.2.1 u'.2.2)->c≠b/\W1.cell? ⟨b,3,none⟩=some r.ptr/\ce W1 c 0 (sd q)/\∀W,Sw W1 W->Calls Tryz.prog 198 #[r.ptr,sd q] W fun e w2=>∃o,e=.returned (.pointer o)/\w2.cell? ⟨b,3,none⟩=some r.ptr/\w2.frozen? ⟨b,3,none⟩=false/\∀W3,Sw (w2.setCell ⟨b,3,none⟩ (.pointer o)) W3->Calls Tryz.prog 239 #[pz b] W3 fun e w3=>∃t',e=.returned t'.ptr/\Tg (.node b l k u x r) (l.toL++r.toL) w t' w3):=by
       intro c q u' y m s R hc hcr hR W1 hW1;obtain⟨m1,m2,m3,m4⟩:=moved ha hn hc hcr;rw[<-hW1]at m1 m2 m3;refine⟨m4,block_cell m1.1 rfl,block_cell m3 rfl,fun W hs1'=>?_⟩;have m1':=m1.sw hs1';have hq:getF q r.toL=some u':=(getF_mem hs2).2 (by rw[hR];simp);have hcr2:cutF q r.toL=R:=by rw[hR];simp[cutF]
       refine(ihr q W m1'.2.2 hn'.2.2.1 hk.2.2 hs2 (by rw[hq];rfl) (by omega)).mono ?_;rintro e w2 ⟨r',rfl,g⟩;obtain⟨o,ho⟩:=r'.is_ptr;have hb1:w2.heap[b]?=W.heap[b]?:=g.kept.block b (gsz m1'.1) (fun hi=>hn'.1 (by simp[hi]));obtain⟨o1,o2,o3,o4⟩:=Tg.setr m1' hn g;rw[ho]at o1 o4;have hlen:r'.toL.length<=r.toL.length:=by rw[g.el,len_cut hs2];split<;>omega
       refine⟨o,by rw[ho],block_cell (hb1.trans m1'.1) rfl,block_frozen (hb1.trans m1'.1) _,fun W3 hs3=>?_⟩;have hN:Nd b l r' q u' x W3:=(Nd.mk o1 o2 hk.2.1 g.hk (by omega)).sw hs3;refine(balanced25 hN (by omega)).mono ?_;rintro e w3 ⟨t',rfl,g2⟩;have g3:=Tg.after o3 o4 (hs3.tg g2);have g4:=hs1'.tg g3;have hm2:Kept (fun i=>i∈(Tr.node b l k u x r).blocks) w W1:=m2.mono (fun i e=>by simp[Tr.blocks,e]);have g5:=Tg.after (t:=.node b l k u x r) (t1:=.node b l q u' x r) (fun i hi=>.inl (by simpa[Tr.blocks]using hi)) hm2 g4;refine⟨t',rfl,⟨g5.ok,g5.hk,g5.nd,?_,g5.sub,g5.kept⟩⟩;rw[g5.el,g.el,hcr2,hR]
      rw[hlp]at c2;clear ihl ihr ha hn hk hs hf hs1 hs2 hn' hf' hlp;generalize hLL:l.toL++r.toL=L at*;clear hLL;simp only[Tr.ptr];generalize Tr.node b l k u x r=t at*;rw[hrp]at c3;generalize r.ptr=rp at*;subst hrp;go_enter Tryz.func198,Tryz.ntmps198;go_wp2_with fail;refine(CF.out (by trivial)).mono ?_;rintro e w' ⟨c,q,u',y,m,s,rfl,rfl,hc,hcr,R,hR⟩;obtain⟨e0,e1,-,-,-⟩:=nd_cells hc;obtain⟨hcb,d3,d4,CC⟩:=CD.out c q u' y m s R hc hcr hR _ rfl;have HC:Hid _:=CC;clear hc hcr hR CF CD CC;go_wp2_with fail;go_region_held3 (fun W=>ce W c 0 (sd q)/\ce W c 1 (.slice u'.1 u'.2.1 u'.2.2)) (first|exact⟨e0,e1⟩|exact⟨(set_kept' _ b 0 _).cell e0 hcb,(set_kept' _ b 0 _).cell e1 hcb⟩|exact⟨(set_kept' _ b 1 _).cell ((set_kept' _ b 0 _).cell e0 hcb) hcb,(set_kept' _ b 1 _).cell ((set_kept' _ b 0 _).cell e1 hcb) hcb⟩) (fail)
      obtain⟨W,hW⟩:=xj ((w'.setCell ⟨b,0,none⟩ (sd q)).setCell ⟨b,1,none⟩ (.slice u'.1 u'.2.1 u'.2.2)).drew;have d3':ce W b 3 (pz d):=by rw[<-hW];exact d3
      have d4':ce W c 0 (sd q):=by rw[<-hW];exact d4
      have HD:Hid (Calls Tryz.prog 198 #[pz d,sd q] W.drew fun e w2=>∃o,e=.returned (.pointer o)/\ce w2 b 3 (pz d)/\w2.frozen? ⟨b,3,none⟩=false/\Hid (∀W3,Sw (w2.setCell ⟨b,3,none⟩ (.pointer o)) W3->Calls Tryz.prog 239 #[pz b] W3 fun e w3=>∃t',e=.returned t'.ptr/\Tg t L w' t' w3)):=by rw[<-hW];exact HC.out _ ⟨rfl,rfl,rfl,rfl⟩
      rw[hW];clear HC d3 d4 hW e0 e1 c0 c1 c2 c3 f0 f1;rename_i hHeld;clear hHeld;go_wp2_with fail;go_region_with (go_at_call 198;refine HD.out.mono ?_;rintro e w2 ⟨o,rfl,d5,d6,HE⟩)
      all_goals
       go_wp2_with fail;refine(HE.out _ (Sw.refl _)).mono ?_;rintro e w3 ⟨t',rfl,g⟩;obtain⟨o',ho⟩:=t'.is_ptr;have HX:Hid (∃t',(Ending.returned (.pointer o'):Ending)=.returned (Tr.ptr t')/\Tg t L w' t' w3):=⟨t',by rw[ho],g⟩;rw[ho];clear g HE ho;go_wp2_with fail;go_ret;exact HX.out
structure Mp(B p:Nat)(t:Tr)(w:World):Prop where
 box:w.heap[p]?=some (.cells #[t.ptr,iw t.toL.length] 226 (0,0))
 ok:TrAt nl t w
 srt:Srt t.toL
 hk:Hk t
 pn:p∉t.blocks
 nd:t.blocks.Nodup
 low:B<=p/\∀i∈t.blocks,B<=i
def MapAt(B p:Nat)(F:Nat->Prop)(L:Kv Sv)(w:World):Prop:=∃t,Mp B p t w/\t.toL=L/\F=fun i=>i=p\/i∈t.blocks
theorem Mp.kept{B p:Nat}{t:Tr}{w w':World}{G:Nat->Prop}(h:Mp B p t w)(hk:Kept G w w')(h1:¬G p)(h2:∀i∈t.blocks,¬G i):Mp B p t w':=
 ⟨by rw[hk.block p (gsz h.box) h1];exact h.box,TrAt.kept hk h.ok h2,h.srt,h.hk,h.pn,h.nd,h.low⟩
theorem Mp.cells{B p:Nat}{t:Tr}{w:World}(h:Mp B p t w):w.cell? ⟨p,0,none⟩=some t.ptr/\ce w p 1 (iw t.toL.length):=⟨block_cell h.box rfl,block_cell h.box rfl⟩
theorem new8(w:World):Calls Tryz.prog 61 #[] w fun e w'=>∃p F,e=.returned (pz p)/\MapAt w.heap.size p F [] w'/\Below w.heap.size w w':=by
 have H:Hid (Mp w.heap.size w.heap.size .nil (w.alloc (.cells #[.pointer none,iw 0] 226))):=
  ⟨heap_alloc_new w _,trivial,List.Pairwise.nil,trivial,by simp[Tr.blocks],by simp[Tr.blocks],Nat.le_refl _,fun i hi=>by simp[Tr.blocks]at hi⟩
 go_enter Tryz.func61,Tryz.ntmps61;go_wp2_with fail;go_ret;exact⟨_,_,rfl,⟨.nil,H.out,rfl,rfl⟩,al _⟩
theorem len15{B p:Nat}{t:Tr}{w:World}(h:Mp B p t w):Calls Tryz.prog 103 #[pz p] w fun e w'=>e=.returned (iw t.toL.length)/\Below w.heap.size w w':=by obtain⟨c0,c1⟩:=h.cells;clear h;go_enter Tryz.func103,Tryz.ntmps103;go_wp2_with fail;go_ret;exact⟨rfl,Below.refl _ _⟩
theorem get13{B p:Nat}{t:Tr}{w:World}(k:List UInt8)(h:Mp B p t w):Calls Tryz.prog 104 #[pz p,sd k] w fun e w'=>e=.returned (.tuple #[.slice ((getF k t.toL).getD (none,0,0)).1 ((getF k t.toL).getD (none,0,0)).2.1 ((getF k t.toL).getD (none,0,0)).2.2,.bool (getF k t.toL).isSome])/\Below w.heap.size w w':=by
 have CF:Hid (1=1->Calls Tryz.prog 171 #[pz p,sd k] w fun e w'=>e=.returned (ptrO (findT k t))/\w'=w):=fun _=>find20 p k t w h.cells.1 h.ok;have hg:=find_get (k:=k) h.srt;cases hf:findT k t with
 |none=>
  rw[hf]at CF hg;have hn:getF k t.toL=none:=by
   cases e:getF k t.toL with
   |none=>rfl
   |some v=>rw[e]at hg;cases hg
  rw[hn];simp only[ptrO]at CF;clear h hg hn hf;go_enter Tryz.func104,Tryz.ntmps104;go_wp2_with fail;refine(CF.out (by trivial)).mono ?_;rintro e w' ⟨rfl,rfl⟩;go_wp2_with fail;refine bodyPost_ret (v:=.tuple #[sy,.bool false]) (by simp[results,Tryz.results104,go_sem]) rfl ?_;exact⟨rfl,Below.refl _ _⟩
 |some b=>
  rw[hf]at CF;obtain⟨q,v,x,l,r,hb,hv⟩:=find_at h.srt h.ok hf;obtain⟨-,c1,-,-,-⟩:=nd_cells hb;rw[hv];simp only[ptrO]at CF;clear h hg hv hf hb;go_enter Tryz.func104,Tryz.ntmps104;go_wp2_with fail;refine(CF.out (by trivial)).mono ?_;rintro e w' ⟨rfl,rfl⟩;go_wp2_with fail;refine bodyPost_ret (v:=.tuple #[.slice v.1 v.2.1 v.2.2,.bool true]) (by simp[results,Tryz.results104,go_sem]) rfl ?_;exact⟨rfl,Below.refl _ _⟩
theorem keys17{B p:Nat}{t:Tr}{w:World}(lo hi:List UInt8)(limit:Int)(h:Mp B p t w)(hl:t.toL.length<100000):Calls Tryz.prog 102 #[pz p,sd lo,sd hi,iw limit] w fun e w'=>∃v',e=.returned v'/\w'.ownsRow w.heap.size 9 1 v' (keysF lo hi limit t.toL).length (kc (keysF lo hi limit t.toL))/\Below w.heap.size w w':=by
 have CG:Hid (1=1->Calls Tryz.prog 170 #[t.ptr,sy,sd lo,sd hi,iw limit] w fun e w'=>∃v',e=.returned v'/\w'.ownsRow w.heap.size 9 1 v' (keysF lo hi limit t.toL).length (kc (keysF lo hi limit t.toL))/\Below w.heap.size w w'):=fun _=>by have:=gather24 w.heap.size lo hi limit t [] sy w h.ok h.ok.lt h.srt (Nat.le_refl _) (own_nil _ _ _ _) (by simp;omega);rw[gat_start]at this;exact this
 obtain⟨c0,-⟩:=h.cells;clear h hl;generalize t.ptr=tp at*;generalize keysF lo hi limit t.toL=y at*;go_enter Tryz.func102,Tryz.ntmps102;go_wp2_with fail;refine(CG.out (by trivial)).mono ?_;rintro e w1 ⟨v1,rfl,ho,hb⟩;obtain⟨sa,sc,rfl,-,-,-,-⟩:=rw_own ho;have H3:Hid _:=And.intro ho hb;clear ho hb CG;go_wp2_with fail;go_ret;exact⟨_,rfl,H3.out⟩
def Post(B p:Nat)(F:Nat->Prop)(L:Kv Sv)(w W:World):Prop:=∃F',MapAt B p F' L W/\Kept F w W/\∀i,F' i->F i\/w.heap.size<=i
def foot8(p:Nat)(t:Tr):Nat->Prop:=fun i=>i=p\/i∈t.blocks
theorem Mp.upd{B p:Nat}{t t':Tr}{L:Kv Sv}{w w1:World}(h:Mp B p t w)(g:Tg t L w t' w1)(hs:Srt L)(n:Int)(hn:n=L.length):
  Post B p (foot8 p t) L w ((w1.setCell ⟨p,0,none⟩ t'.ptr).setCell ⟨p,1,none⟩ (iw n)):=by
 have hp:p<w.heap.size:=(gsz h.box);have h1:w1.heap[p]?=some (.cells #[t.ptr,iw t.toL.length] 226 (0,0)):=by rw[g.kept.block p hp h.pn];exact h.box
 have k1:=set_kept' w1 p 0 t'.ptr;have k2:=set_kept' (w1.setCell ⟨p,0,none⟩ t'.ptr) p 1 (iw n);have kk:=k1.trans k2 (fun i e=>.inl e);have pn:p∉t'.blocks:=fun hi=>by
  rcases g.sub p hi with e|e
  ·exact h.pn e
  ·omega
 refine⟨_,⟨t',⟨?_,TrAt.kept kk g.ok (fun i hi e=>pn (e▸hi)),by rw[g.el];exact hs,g.hk,pn,g.nd,h.low.1,fun i hi=>?_⟩,g.el,rfl⟩,?_,fun i hi=>?_⟩
 ·rw[g.el,<-hn];exact block_set _ (block_set _ h1)
 ·rcases g.sub i hi with e|e
  ·exact h.low.2 i e
  ·have:=h.low.1;omega
 ·exact(g.kept.mono (fun i hi=>.inr hi)).trans kk (fun i e=>.inl (.inl e))
 ·rcases hi with e|e
  ·exact .inl (.inl e)
  ·rcases g.sub i e with e|e
   ·exact .inl (.inr e)
   ·exact .inr e
theorem Mp.put{B p b:Nat}{t:Tr}{w:World}{k:List UInt8}(v:Sv)(h:Mp B p t w)(hf:findT k t=some b):Post B p (foot8 p t) (setF k v t.toL) w (w.setCell ⟨b,1,none⟩ (.slice v.1 v.2.1 v.2.2)):=by
 have hb:=find_in hf;have hs:(findT k t).isSome=true:=by rw[hf];rfl
 have hl:(putT k v t).toL=setF k v t.toL:=put_toL h.srt hs;have hlen:(putT k v t).toL.length=t.toL.length:=by rw[hl,len_set h.srt,if_pos (by rw[<-find_get h.srt];exact hs)]
 have kk:=set_kept' w b 1 (.slice v.1 v.2.1 v.2.2);refine⟨_,⟨putT k v t,⟨?_,put_at h.ok h.nd hf,by rw[hl];exact setF_srt h.srt,put_hk k v h.hk,by rw[put_blocks];exact h.pn,by rw[put_blocks];exact h.nd,by rw[put_blocks];exact h.low⟩,hl,rfl⟩,?_,fun i hi=>.inl ?_⟩
 ·rw[put_ptr,hlen,kk.block p (gsz h.box) (fun e=>h.pn (e▸hb))];exact h.box
 ·exact kk.mono (fun i e=>.inr (e▸hb))
 ·rw[put_blocks]at hi;exact hi
theorem set9{B p:Nat}{t:Tr}{w:World}(k:List UInt8)(v:Sv)(h:Mp B p t w)(hl:t.toL.length<100000):Calls Tryz.prog 148 #[pz p,sd k,.slice v.1 v.2.1 v.2.2] w fun e w'=>e=.returned (.tuple #[])/\Post B p (foot8 p t) (setF k v t.toL) w w':=by
 have CF:Hid (1=1->Calls Tryz.prog 171 #[pz p,sd k] w fun e w'=>e=.returned (ptrO (findT k t))/\w'=w):=fun _=>find20 p k t w h.cells.1 h.ok;have hg:=find_get (k:=k) h.srt;cases hf:findT k t with
 |some b=>
  rw[hf]at CF;have HP:Hid (Post B p (foot8 p t) (setF k v t.toL) w (w.setCell ⟨b,1,none⟩ (.slice v.1 v.2.1 v.2.2))):=h.put v hf;obtain⟨q,u,x,l,r,hb,-⟩:=find_at h.srt h.ok hf;obtain⟨-,c1,-,-,-⟩:=nd_cells hb;have f1:=block_frozen hb 1;simp only[ptrO]at CF;clear h hg hf hb hl;generalize setF k v t.toL=L at*;generalize foot8 p t=F at*;go_enter Tryz.func148,Tryz.ntmps148;go_wp2_with fail;refine(CF.out (by trivial)).mono ?_;rintro e w' ⟨rfl,rfl⟩;go_wp2_with fail;refine bodyPost_ret (results_none Tryz.results148 _ _ _) rfl ?_;exact⟨rfl,HP.out⟩
 |none=>
  rw[hf]at CF hg;have hn:getF k t.toL=none:=by
   cases e:getF k t.toL with
   |none=>rfl
   |some v=>rw[e]at hg;cases hg
  have CW:Hid (1=1->Calls Tryz.prog 199 #[t.ptr,sd k,.slice v.1 v.2.1 v.2.2] w fun e w1=>∃o,e=.returned (.pointer o)/\w1.cell? ⟨p,0,none⟩=some t.ptr/\ce w1 p 1 (iw t.toL.length)/\w1.frozen? ⟨p,0,none⟩=false/\w1.frozen? ⟨p,1,none⟩=false/\Hid (Post B p (foot8 p t) (setF k v t.toL) w ((w1.setCell ⟨p,0,none⟩ (.pointer o)).setCell ⟨p,1,none⟩ (iw (t.toL.length+1))))):=fun _=>by
   refine(with21 k v t w h.ok h.nd h.hk h.srt hn hl).mono ?_;rintro e w1 ⟨t',rfl,g⟩;obtain⟨o,ho⟩:=t'.is_ptr;have h1:w1.heap[p]?=some (.cells #[t.ptr,iw t.toL.length] 226 (0,0)):=by rw[g.kept.block p (gsz h.box) h.pn];exact h.box
   refine⟨o,by rw[ho],block_cell h1 rfl,block_cell h1 rfl,block_frozen h1 _,block_frozen h1 _,?_⟩;have:=h.upd g (setF_srt h.srt) (t.toL.length+1) (by rw[len_set h.srt,hn];rfl);rw[ho]at this;exact this
  obtain⟨c0,c1⟩:=h.cells;simp only[ptrO]at CF;have hl':((t.toL.length:Nat):Int)<100000:=by omega
  clear h hg hn hf hl;generalize setF k v t.toL=L at*;generalize foot8 p t=F at*;obtain⟨tp,hto⟩:=t.is_ptr;rw[hto]at CW c0;clear hto;generalize t.toL.length=n at*;go_enter Tryz.func148,Tryz.ntmps148;go_wp2_with fail;refine(CF.out (by trivial)).mono ?_;rintro e w' ⟨rfl,rfl⟩;go_wp2_with fail;refine(CW.out (by trivial)).mono ?_;rintro e w1 ⟨o,rfl,d0,d1,f0,f1,HP⟩;clear CW CF c0 c1;go_wp2_with fail;refine bodyPost_end (results_none Tryz.results148 _ _ _) rfl ?_;exact⟨rfl,HP.out⟩
theorem cut11{B p:Nat}{t:Tr}{w:World}(k:List UInt8)(h:Mp B p t w)(hl:t.toL.length<100000):Calls Tryz.prog 147 #[pz p,sd k] w fun e w'=>e=.returned (.bool (getF k t.toL).isSome)/\Post B p (foot8 p t) (cutF k t.toL) w w':=by
 have CF:Hid (1=1->Calls Tryz.prog 171 #[pz p,sd k] w fun e w'=>e=.returned (ptrO (findT k t))/\w'=w):=fun _=>find20 p k t w h.cells.1 h.ok;have hg:=find_get (k:=k) h.srt;rw[<-hg];cases hf:findT k t with
 |none=>
  rw[hf]at CF hg;have hn:getF k t.toL=none:=by
   cases e:getF k t.toL with
   |none=>rfl
   |some v=>rw[e]at hg;cases hg
  have HP:Hid (Post B p (foot8 p t) (cutF k t.toL) w w):=⟨_,⟨t,h,(cut_none hn).symm,rfl⟩,Kept.refl _ _,fun i hi=>.inl hi⟩;simp only[ptrO]at CF;clear h hg hn hf hl;generalize cutF k t.toL=L at*;generalize foot8 p t=F at*;go_enter Tryz.func147,Tryz.ntmps147;go_wp2_with fail;refine(CF.out (by trivial)).mono ?_;rintro e w' ⟨rfl,rfl⟩;go_wp2_with fail;go_ret;exact⟨rfl,HP.out⟩
 |some b=>
  rw[hf]at CF hg;have hs:(getF k t.toL).isSome=true:=hg.symm;have hpos:0<t.toL.length:=by
   cases e:t.toL with
   |nil=>rw[e]at hs;cases hs
   |cons a l=>simp
  have CW:Hid (1=1->Calls Tryz.prog 198 #[t.ptr,sd k] w fun e w1=>∃o,e=.returned (.pointer o)/\w1.cell? ⟨p,0,none⟩=some t.ptr/\ce w1 p 1 (iw t.toL.length)/\w1.frozen? ⟨p,0,none⟩=false/\w1.frozen? ⟨p,1,none⟩=false/\Hid (Post B p (foot8 p t) (cutF k t.toL) w ((w1.setCell ⟨p,0,none⟩ (.pointer o)).setCell ⟨p,1,none⟩ (iw (t.toL.length-1))))):=fun _=>by
   refine(without23 t k w h.ok h.nd h.hk h.srt hs hl).mono ?_;rintro e w1 ⟨t',rfl,g⟩;obtain⟨o,ho⟩:=t'.is_ptr;have h1:w1.heap[p]?=some (.cells #[t.ptr,iw t.toL.length] 226 (0,0)):=by rw[g.kept.block p (gsz h.box) h.pn];exact h.box
   refine⟨o,by rw[ho],block_cell h1 rfl,block_cell h1 rfl,block_frozen h1 _,block_frozen h1 _,?_⟩;have:=h.upd g (cutF_srt h.srt) (t.toL.length-1) (by rw[len_cut h.srt,if_pos hs];omega);rw[ho]at this;exact this
  obtain⟨c0,c1⟩:=h.cells;simp only[ptrO]at CF;have hl':((t.toL.length:Nat):Int)<100000:=by omega
  clear h hg hf hl hs hpos;generalize cutF k t.toL=L at*;generalize foot8 p t=F at*;obtain⟨tp,hto⟩:=t.is_ptr;rw[hto]at CW c0;clear hto;generalize t.toL.length=n at*;go_enter Tryz.func147,Tryz.ntmps147;go_wp2_with fail;refine(CF.out (by trivial)).mono ?_;rintro e w' ⟨rfl,rfl⟩;go_wp2_with fail;refine(CW.out (by trivial)).mono ?_;rintro e w1 ⟨o,rfl,d0,d1,f0,f1,HP⟩;clear CW CF c0 c1;go_wp2_with fail;go_ret;exact⟨rfl,HP.out⟩
theorem TrAt.noVe{w:World}{t:Tr}:TrAt nl t w->∀b∈t.blocks,NoVe w b:=by
 induction t using Tr.ind with
 |nil=>
  intro _ b hb;simp[Tr.blocks]at hb
 |node c l k v x r ihl ihr=>
  intro h b hb;obtain⟨h1,h2,h3⟩:=h;simp only[Tr.blocks,List.mem_cons,List.mem_append]at hb;rcases hb with rfl|hb|hb
  ·exact noVe_small h1 (by simp[nl])
  ·exact ihl h2 b hb
  ·exact ihr h3 b hb
structure Mc(B q:Nat)(t:Tr)(S:Sk)(w:World):Prop where
 mp:Mp B q t w
 chs:Chs w t.toL S
 sok:SOk S
theorem Mc.noVe{B q:Nat}{t:Tr}{S:Sk}{w:World}(h:Mc B q t S w):∀i,foot8 q t i->NoVe w i
 |i,.inl e=>e▸noVe_small h.mp.box (by simp)
 |i,.inr e=>TrAt.noVe h.mp.ok i e
theorem Mc.lt{B q:Nat}{t:Tr}{S:Sk}{w:World}(h:Mc B q t S w):∀i,foot8 q t i->B<=i/\i<w.heap.size
 |_,.inl e=>e▸⟨h.mp.low.1,(gsz h.mp.box)⟩
 |i,.inr e=>⟨h.mp.low.2 i e,h.mp.ok.lt i e⟩
theorem Mc.kept{B q:Nat}{t:Tr}{S:Sk}{w w':World}{G:Nat->Prop}(h:Mc B q t S w)(hk:Kept G w w')(h1:∀i,foot8 q t i->¬G i)(hG:∀i,G i->NoVe w i):Mc B q t S w':=
 ⟨h.mp.kept hk (h1 q (.inl rfl)) (fun i hi=>h1 i (.inr hi)),Chs.kept hk hG h.chs,h.sok⟩
theorem Mc.on{B q:Nat}{t:Tr}{S:Sk}{w w':World}(h:Mc B q t S w)(hb:Below w.heap.size w w'):Mc B q t S w':=h.kept (G:=fun _=>False) (Kept.of_below hb) (fun _ _ h=>h) (fun _ h=>h.elim)
theorem Mc.len{B q:Nat}{t:Tr}{S:Sk}{w:World}(h:Mc B q t S w)(ht:totS S<10000):t.toL.length=S.length/\S.length<10000:=by have:=len_tot h.sok.all;exact⟨h.chs.len,by omega⟩
theorem getF_isSome{w:World}(k:List UInt8):∀{L:Kv Sv} {S:Sk},Chs w L S->(getF k L).isSome=(getF k S).isSome
 |[],[],_=>rfl
 |(a,s)::L,(b,c)::S,h=>by
  obtain⟨rfl,h1,h2⟩:=h;unfold getF;by_cases e:(a==k)=true
  ·rw[if_pos e,if_pos e];rfl
  ·rw[if_neg e,if_neg e];exact getF_isSome k h2
theorem keysF_chs{w:World}{L:Kv Sv}{S:Sk}(h:Chs w L S)(lo hi:List UInt8)(limit:Int):keysF lo hi limit L=keysF lo hi limit S:=by unfold keysF rangeF;rw[h.map]
theorem sok_set{S:Sk}{k:List UInt8}{c:List Ve}(h:SOk S)(hc:Ch c)(hne:c≠[]):SOk (setF k c S):=by
 refine⟨setF_srt h.srt,fun x hx=>?_⟩;rcases setF_keys hx with rfl|hx
 ·exact⟨hc,hne⟩
 ·exact h.all x hx
theorem sok_cut{S:Sk}(h:SOk S)(k:List UInt8):SOk (cutF k S):=⟨cutF_srt h.srt,fun x hx=>h.all x (cutF_sub hx)⟩
theorem mc_get{B q:Nat}{t:Tr}{S:Sk}{w:World}(k:List UInt8)(h:Mc B q t S w):Calls Tryz.prog 104 #[pz q,sd k] w fun e w'=>∃ao cap,e=.returned (.tuple #[.slice ao (chainF k S).length cap,.bool (getF k S).isSome])/\VsAt w'.heap.size (.slice ao (chainF k S).length cap) (chainF k S) w'/\Below w.heap.size w w':=by
 refine(get13 k h.mp).mono ?_;rintro e w' ⟨rfl,hb⟩;have hv:=Chs.get k h.chs;obtain⟨s,hs⟩:=xj ((getF k t.toL).getD (none,0,0));rw[hs]at hv|-;have hl:s.2.1=(chainF k S).length:=by obtain⟨ao,cap,e,_⟩:=hv;simp only[svV,Value.slice.injEq]at e;exact e.2.1
 rw[svV,hl]at hv;rw[hl];exact⟨_,_,by rw[getF_isSome k h.chs],(hv.on hb).le hb.size,hb⟩
theorem mc_len{B q:Nat}{t:Tr}{S:Sk}{w:World}(h:Mc B q t S w):Calls Tryz.prog 103 #[pz q] w fun e w'=>e=.returned (iw S.length)/\Below w.heap.size w w':=by have:=len15 h.mp;rw[h.chs.len]at this;exact this
theorem mc_keys{B q:Nat}{t:Tr}{S:Sk}{w:World}(lo hi:List UInt8)(limit:Int)(h:Mc B q t S w)(ht:totS S<10000):Calls Tryz.prog 102 #[pz q,sd lo,sd hi,iw limit] w fun e w'=>∃v',e=.returned v'/\w'.ownsRow w.heap.size 9 1 v' (keysF lo hi limit S).length (kc (keysF lo hi limit S))/\Below w.heap.size w w':=by have:=keys17 lo hi limit h.mp (by have:=h.len ht;omega);rw[keysF_chs h.chs]at this;exact this
def McPost(B q:Nat)(t:Tr)(S:Sk)(w w':World):Prop:=∃t',Mc B q t' S w'/\Kept (foot8 q t) w w'/\∀i,foot8 q t' i->foot8 q t i\/w.heap.size<=i
theorem mc_set{B q:Nat}{t:Tr}{S:Sk}{w:World}(k:List UInt8){ao:Option Addr}{n cap:Nat}{c:List Ve}(h:Mc B q t S w)(ht:totS S<10000)(hv:VsAt w.heap.size (.slice ao n cap) c w)(hc:Ch c)(hne:c≠[]):Calls Tryz.prog 148 #[pz q,sd k,.slice ao n cap] w fun e w'=>e=.returned (.tuple #[])/\McPost B q t (setF k c S) w w':=by refine(set9 k (ao,n,cap) h.mp (by have:=h.len ht;omega)).mono ?_;rintro e w' ⟨rfl,F',⟨t',h1,h2,rfl⟩,hk,hn⟩;refine⟨rfl,t',⟨h1,?_,sok_set h.sok hc hne⟩,hk,hn⟩;have hG:∀i,foot8 q t i->NoVe w i:=h.noVe;rw[h2];exact Chs.set ((VsAt.kept hv hk hG).le hk.size) (Chs.kept hk hG h.chs)
theorem mc_cut{B q:Nat}{t:Tr}{S:Sk}{w:World}(k:List UInt8)(h:Mc B q t S w)(ht:totS S<10000):Calls Tryz.prog 147 #[pz q,sd k] w fun e w'=>e=.returned (.bool (getF k S).isSome)/\McPost B q t (cutF k S) w w':=by refine(cut11 k h.mp (by have:=h.len ht;omega)).mono ?_;rintro e w' ⟨rfl,F',⟨t',h1,h2,rfl⟩,hk,hn⟩;refine⟨by rw[getF_isSome k h.chs],t',⟨h1,?_,sok_cut h.sok k⟩,hk,hn⟩;have hG:∀i,foot8 q t i->NoVe w i:=h.noVe;rw[h2];exact Chs.cut k (Chs.kept hk hG h.chs)
theorem ssrt_at{S:Sk}{m:Nat}(hs:Srt S)(h:m<S.length):Srt (S.take m++S.getD m ds::S.drop (m+1)):=by rw[<-sdr_step h,List.take_append_drop];exact hs
def prT(p l:Int)(S:Sk)(m:Nat):Sk:=pruneS p l (S.take m)++S.drop m
theorem prT_end{p l:Int}{S:Sk}{m:Nat}(h:S.length<=m):prT p l S m=pruneS p l S:=by unfold prT;rw[List.take_of_length_le h,List.drop_of_length_le h,List.append_nil]
theorem prS_snoc{p l:Int}{S:Sk}{m:Nat}(h:m<S.length):pruneS p l (S.take (m+1))=pruneS p l (S.take m)++(if pruneF (S.getD m ds).2 p l=[]then[]else[((S.getD m ds).1,pruneF (S.getD m ds).2 p l)]):=by
 rw[stk_snoc h];unfold pruneS;rw[List.filterMap_append];congr 1;generalize S.getD m ds=x;by_cases e:pruneF x.2 p l=[]
 ·rw[if_pos e];simp[prune1,e]
 ·rw[if_neg e];simp[prune1,e]
theorem prT_srt{p l:Int}{S:Sk}{m:Nat}(hS:SOk S)(h:m<S.length)(c:List Ve):Srt (pruneS p l (S.take m)++((S.getD m ds).1,c)::S.drop (m+1)):=by obtain⟨h1,h2,h3,h4⟩:=srt_parts (a:=(S.getD m ds).1) (u:=(S.getD m ds).2) (ssrt_at hS.srt h);refine srt_join (pruneS_srt p l h1) h2 (fun x hx=>?_) h4;obtain⟨y,hy,rfl,_⟩:=pruneS_mem.1 hx;exact h3 y hy
theorem prT_sok{p l:Int}{S:Sk}(m:Nat)(hS:SOk S):SOk (prT p l S m):=by
 have hall:∀x∈prT p l S m,Ch x.2/\x.2≠[]:=fun x hx=>by
  unfold prT at hx;rcases List.mem_append.1 hx with hx|hx
  ·obtain⟨y,hy,rfl,hne⟩:=pruneS_mem.1 hx;exact⟨(prune_ch (hS.all y (List.mem_of_mem_take hy)).1 p l).2,hne⟩
  ·exact hS.all x (List.mem_of_mem_drop hx)
 refine⟨?_,hall⟩;by_cases h:m<S.length
 ·unfold prT;rw[sdr_step h];exact prT_srt hS h _
 ·rw[prT_end (by omega)];exact pruneS_srt p l hS.srt
theorem prT_tot{p l:Int}{S:Sk}(m:Nat)(hS:SOk S):totS (prT p l S m)<=totS S:=by
 have h1:=tot_prune p l (S:=S.take m) (fun x hx=>hS.all x (List.mem_of_mem_take hx));have h2:totS S=totS (S.take m)+totS (S.drop m):=by unfold totS;rw[<-List.sum_append,<-List.map_append,List.take_append_drop]
 have h3:totS (prT p l S m)=totS (pruneS p l (S.take m))+totS (S.drop m):=by unfold prT totS;rw[List.map_append,List.sum_append]
 omega
theorem prT_chain{p l:Int}{S:Sk}{m:Nat}(hS:SOk S)(h:m<S.length):chainF (S.getD m ds).1 (prT p l S m)=(S.getD m ds).2:=by refine chain_mem (prT_sok m hS) ?_;unfold prT;rw[sdr_step h];simp
theorem prT_set{p l:Int}{S:Sk}{m:Nat}(hS:SOk S)(h:m<S.length)(hne:¬pruneF (S.getD m ds).2 p l=[]):setF (S.getD m ds).1 (pruneF (S.getD m ds).2 p l) (prT p l S m)=prT p l S (m+1):=by unfold prT;rw[sdr_step h,set_parts (prT_srt hS h _),prS_snoc h,if_neg hne,ltK_irrefl];simp
theorem prT_cut{p l:Int}{S:Sk}{m:Nat}(hS:SOk S)(h:m<S.length)(he:pruneF (S.getD m ds).2 p l=[]):cutF (S.getD m ds).1 (prT p l S m)=prT p l S (m+1):=by unfold prT;rw[sdr_step h,cut_parts (prT_srt hS h _),prS_snoc h,if_pos he,ltK_irrefl];simp
theorem keys_all{S:Sk}{limit:Int}(h:(S.length:Int)<=limit):keysF [] [] limit S=S.map (·.1):=by unfold keysF;rw[range_all,List.take_of_length_le];rw[List.length_map];omega
theorem map_at(S:Sk){m:Nat}(h:m<S.length):(S.map (·.1)).getD m []=(S.getD m ds).1:=by simp[List.getD,h]
def scT(p l:Int)(R:Sk)(m:Nat):List (List UInt8×List UInt8):=scanR p l (R.take m)
theorem scT_step{p l:Int}{R:Sk}{m:Nat}(h:m<R.length):scT p l R (m+1)=scT p l R m++(match seeF (R.getD m ds).2 p l with
  |some s=>[((R.getD m ds).1,s)]
  |none=>[]):=by
 unfold scT;rw[stk_snoc h];unfold scanR;rw[List.filterMap_append];congr 1;generalize R.getD m ds=x;cases e:seeF x.2 p l<;>simp[e]
theorem scT_pre(p l:Int)(R:Sk)(m:Nat):∃Q,scanR p l R=scT p l R m++Q:=by refine⟨scanR p l (R.drop m),?_⟩;unfold scT scanR;rw[<-List.filterMap_append,List.take_append_drop]
theorem ltK_above:∀k x:List UInt8,ltK x (k++[0])= !ltK k x
 |[],[]=>by simp[ltK,Op.bytesLess]
 |[],a::r=>by
  have:¬a<0:=by rw[UInt8.not_lt];exact UInt8.zero_le
  cases r<;>simp[ltK,Op.bytesLess,this]
 |b::s,[]=>by simp[ltK,Op.bytesLess]
 |b::s,a::r=>by
  have ih:=ltK_above s r;unfold ltK at ih|-;simp only[List.cons_append,Op.bytesLess,ih];by_cases h1:a<b
  ·have h2:¬b<a:=fun h=>absurd (UInt8.lt_trans h1 h) (UInt8.lt_irrefl a);have h3:(b==a)=false:=by rw[beq_eq_false_iff_ne];rintro rfl;exact h2 h1
   simp[h1,h2,h3]
  ·by_cases h2:b<a
   ·have h3:(a==b)=false:=by rw[beq_eq_false_iff_ne];rintro rfl;exact h1 h2
    simp[h1,h2,h3]
   ·have h3:a=b:=by rw[UInt8.not_lt]at h1 h2;exact UInt8.le_antisymm h2 h1
    subst h3;simp[h1]
theorem rngS_above{S:Sk}{lo hi k:List UInt8}(h:ltK k lo=false):rngS (k++[0]) hi S=(rngS lo hi S).filter (fun x=>ltK k x.1):=by
 unfold rngS;rw[List.filter_filter];congr 1;funext x;unfold inR;rw[ltK_above,Bool.not_not];cases h1:ltK k x.1
 ·simp
 ·have h2:ltK x.1 lo=false:=by
   cases h3:ltK x.1 lo
   ·rfl
   ·rw[ltK_trans h1 h3]at h;cases h
  simp[h2]
theorem rngS_srt{S:Sk}(h:Srt S)(lo hi:List UInt8):Srt (rngS lo hi S):=List.Pairwise.filter _ h
theorem rngS_lo{S:Sk}{lo hi:List UInt8}{x:List UInt8×List Ve}(h:x∈rngS lo hi S):ltK x.1 lo=false:=by have:=(List.mem_filter.1 h).2;unfold inR at this;simp only[Bool.and_eq_true,Bool.not_eq_true']at this;exact this.1
theorem rngS_next{S:Sk}{lo hi:List UInt8}{i:Nat}(hS:Srt S)(h:i<(rngS lo hi S).length):rngS (((rngS lo hi S).getD i ds).1++[0]) hi S=(rngS lo hi S).drop (i+1):=by
 have hm:(rngS lo hi S).getD i ds∈rngS lo hi S:=by rw[List.getD,List.getElem?_eq_getElem h];exact List.getElem_mem h
 rw[rngS_above (rngS_lo hm)];have hs:=ssrt_at (rngS_srt hS lo hi) h;generalize hR:rngS lo hi S=R at*;have e:R=R.take i++R.getD i ds::R.drop (i+1):=by rw[<-sdr_step h,List.take_append_drop]
 generalize R.getD i ds=x at*;obtain⟨a,c⟩:=x;obtain⟨-,-,h3,h4⟩:=srt_parts hs;rw[e,List.filter_append,List.filter_cons];simp only[ltK_irrefl,Bool.false_eq_true,if_false];rw[List.filter_eq_nil_iff.2 (fun y hy=>by have:=ltK_asymm (h3 y hy);simp[this]),List.nil_append];rw[<-e];exact List.filter_eq_self.2 (fun y hy=>h4 y hy)
theorem keys_part{S:Sk}{lo hi:List UInt8}:keysF lo hi 32 S=((rngS lo hi S).take 32).map (·.1):=by
 have e:rangeF lo hi S=(rngS lo hi S).map (·.1):=by unfold rangeF rngS;rw[List.filter_map];rfl
 unfold keysF;rw[e,List.map_take];rfl
theorem scanR_append(p l:Int)(Q R:Sk):scanR p l (Q++R)=scanR p l Q++scanR p l R:=by unfold scanR;rw[List.filterMap_append]
theorem part_take(p l:Int)(R:Sk)(m n:Nat):((scanR p l (R.take m)).take n++scanR p l ((R.drop m).take 32)).take n=(scanR p l (R.take (m+32))).take n:=by
 have e:R.take (m+32)=R.take m++(R.drop m).take 32:=by rw[List.take_add]
 rw[e,scanR_append];generalize scanR p l (R.take m)=A;generalize scanR p l ((R.drop m).take 32)=B;rw[List.take_append,List.take_append,List.take_take,Nat.min_self,List.length_take];congr 2;omega
theorem part_end{lo hi:List UInt8}{p l limit:Int}{S:Sk}{m:Nat}(hm:(rngS lo hi S).length<=m):scanS lo hi p l limit S=(scanR p l ((rngS lo hi S).take m)).take (min limit 32).toNat:=by rw[List.take_of_length_le hm];rfl
theorem part_full{lo hi:List UInt8}{p l limit:Int}{S:Sk}{m:Nat}(h:((scanR p l ((rngS lo hi S).take m)).take (min limit 32).toNat).length=(min limit 32).toNat):scanS lo hi p l limit S=(scanR p l ((rngS lo hi S).take m)).take (min limit 32).toNat:=by
 have e:rngS lo hi S=(rngS lo hi S).take m++(rngS lo hi S).drop m:=(List.take_append_drop _ _).symm;unfold scanS;generalize (min limit 32).toNat=n at*;generalize rngS lo hi S=R at*;rw[List.length_take]at h;conv=>lhs;rw[e]
 rw[scanR_append,List.take_append_of_le_length (by omega)]
end Go.Proofs.YtdplfgcoaddbdaaGreat.Sto
