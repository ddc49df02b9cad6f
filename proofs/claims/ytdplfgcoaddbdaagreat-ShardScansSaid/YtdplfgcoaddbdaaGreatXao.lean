import Derived.Test.YtdplfgcoaddbdaaGreatXan
set_option maxHeartbeats 4000000
set_option maxRecDepth 100000
set_option linter.unusedVariables false
set_option linter.unusedSimpArgs false
namespace Go.Proofs.YtdplfgcoaddbdaaGreat.Lat
open Go.RowKit
theorem five_kept(W:World)(b:Nat)(u:Cv):Kept (fun i=>i=b) W (((((W.setCell ⟨b,1,none⟩ (ui u.1.1)).setCell ⟨b,2,none⟩ (ui u.1.2)).setCell ⟨b,3,none⟩ (sd u.2.key)).setCell ⟨b,4,none⟩ (sd u.2.val)).setCell ⟨b,5,none⟩ (.bool u.2.dead)):=by have t:∀{w1 w2 w3:World},Kept (fun i=>i=b) w1 w2->Kept (fun i=>i=b) w2 w3->Kept (fun i=>i=b) w1 w3:=fun h k=>h.trans k (fun i e=>.inl e);exact t (t (t (t (set_kept' _ _ _ _) (set_kept' _ _ _ _)) (set_kept' _ _ _ _)) (set_kept' _ _ _ _)) (set_kept' _ _ _ _)
theorem five_block{W:World}{b:Nat}{k:List UInt8}{v:Cv}{x:Nat}{l r:Value}(u:Cv)(h:W.heap[b]?=some (.cells (nl.cells k v x l r) nl.ty (0,0))):(((((W.setCell ⟨b,1,none⟩ (ui u.1.1)).setCell ⟨b,2,none⟩ (ui u.1.2)).setCell ⟨b,3,none⟩ (sd u.2.key)).setCell ⟨b,4,none⟩ (sd u.2.val)).setCell ⟨b,5,none⟩ (.bool u.2.dead)).heap[b]?=some (.cells (nl.cells k u x l r) nl.ty (0,0)):=by have h0:W.heap[b]?=some (.cells #[sd k,ui v.1.1,ui v.1.2,sd v.2.key,sd v.2.val,.bool v.2.dead,l,r,iw (x:Int)] nl.ty (0,0)):=h;clear h;have h1:(W.setCell ⟨b,1,none⟩ (ui u.1.1)).heap[b]?=some (.cells #[sd k,ui u.1.1,ui v.1.2,sd v.2.key,sd v.2.val,.bool v.2.dead,l,r,iw (x:Int)] nl.ty (0,0)):=block_set _ h0;generalize W.setCell ⟨b,1,none⟩ (ui u.1.1)=W1 at*;have h2:(W1.setCell ⟨b,2,none⟩ (ui u.1.2)).heap[b]?=some (.cells #[sd k,ui u.1.1,ui u.1.2,sd v.2.key,sd v.2.val,.bool v.2.dead,l,r,iw (x:Int)] nl.ty (0,0)):=block_set _ h1;generalize W1.setCell ⟨b,2,none⟩ (ui u.1.2)=W2 at*;have h3:(W2.setCell ⟨b,3,none⟩ (sd u.2.key)).heap[b]?=some (.cells #[sd k,ui u.1.1,ui u.1.2,sd u.2.key,sd v.2.val,.bool v.2.dead,l,r,iw (x:Int)] nl.ty (0,0)):=block_set _ h2;generalize W2.setCell ⟨b,3,none⟩ (sd u.2.key)=W3 at*;have h4:(W3.setCell ⟨b,4,none⟩ (sd u.2.val)).heap[b]?=some (.cells #[sd k,ui u.1.1,ui u.1.2,sd u.2.key,sd u.2.val,.bool v.2.dead,l,r,iw (x:Int)] nl.ty (0,0)):=block_set _ h3;generalize W3.setCell ⟨b,4,none⟩ (sd u.2.val)=W4 at*;have h5:(W4.setCell ⟨b,5,none⟩ (.bool u.2.dead)).heap[b]?=some (.cells #[sd k,ui u.1.1,ui u.1.2,sd u.2.key,sd u.2.val,.bool u.2.dead,l,r,iw (x:Int)] nl.ty (0,0)):=block_set _ h4;exact h5
theorem put_at{w:World}{k:List UInt8}{v:Cv}{t:Tr}:∀{b:Nat},TrAt nl t w->t.blocks.Nodup->findT k t=some b->TrAt nl (putT k v t) (((((w.setCell ⟨b,1,none⟩ (ui v.1.1)).setCell ⟨b,2,none⟩ (ui v.1.2)).setCell ⟨b,3,none⟩ (sd v.2.key)).setCell ⟨b,4,none⟩ (sd v.2.val)).setCell ⟨b,5,none⟩ (.bool v.2.dead)):=by
 induction t using Tr.ind with
 |nil=>intro b _ _ h;cases h
 |node c l q u x r ihl ihr=>
  intro b ha hn h;obtain⟨a1,a2,a3⟩:=ha;simp only[Tr.blocks,List.nodup_cons,List.mem_append,not_or,List.nodup_append]at hn;obtain⟨⟨n1,n2⟩,n3,n4,n5⟩:=hn;have hk:=five_kept w b v;rw[find_node]at h;rw[put_node];split
  ·rename_i e;rw[if_pos e]at h;have hb:=find_in h;refine⟨?_,ihl a2 n3 h,TrAt.kept hk a3 (fun i hi e=>n5 b hb i hi e.symm)⟩;rw[put_ptr,hk.block c (gsz a1) (fun e=>n1 (e▸hb))];exact a1
  ·rename_i e;rw[if_neg e]at h;split
   ·rename_i e2;rw[if_pos e2]at h;have hb:=find_in h;refine⟨?_,TrAt.kept hk a2 (fun i hi e=>n5 i hi b hb e),ihr a3 n4 h⟩;rw[put_ptr,hk.block c (gsz a1) (fun e=>n2 (e▸hb))];exact a1
   ·rename_i e2;rw[if_neg e2]at h;injection h with h;subst h;exact⟨five_block _ a1,TrAt.kept hk a2 (fun i hi e=>n1 (e▸hi)),TrAt.kept hk a3 (fun i hi e=>n2 (e▸hi))⟩
theorem Tg.side{b:Nat}{l r:Tr}{k:List UInt8}{v:Cv}{x:Nat}{w:World}{s:Tr}(hs:s=l\/s=r)(h:TrAt nl (.node b l k v x r) w)(hn:(Tr.node b l k v x r).blocks.Nodup)(hk:Hk (.node b l k v x r)):Tg (.node b l k v x r) s.toL w s w:=by
 rw[Tr.blocks,List.nodup_cons,List.nodup_append]at hn;rcases hs with rfl|rfl
 ·exact⟨h.2.1,hk.2.1,hn.2.1,rfl,fun i hi=>.inl (by simp[Tr.blocks,hi]),Kept.refl _ _⟩
 ·exact⟨h.2.2,hk.2.2,hn.2.2.1,rfl,fun i hi=>.inl (by simp[Tr.blocks,hi]),Kept.refl _ _⟩
theorem moved{b c:Nat}{l r:Tr}{k q:List UInt8}{v u:Cv}{x y:Nat}{m s:Value}{w:World}(ha:TrAt nl (.node b l k v x r) w)(hn:(Tr.node b l k v x r).blocks.Nodup)(hc:w.heap[c]?=some (.cells (nl.cells q u y m s) nl.ty (0,0)))(hcr:c∈r.blocks):
  TrAt nl (.node b l q u x r) ((((((w.setCell ⟨b,0,none⟩ (sd q)).setCell ⟨b,1,none⟩ (ui u.1.1)).setCell ⟨b,2,none⟩ (ui u.1.2)).setCell ⟨b,3,none⟩ (sd u.2.key)).setCell ⟨b,4,none⟩ (sd u.2.val)).setCell ⟨b,5,none⟩ (.bool u.2.dead))/\Kept (fun i=>i=b) w ((((((w.setCell ⟨b,0,none⟩ (sd q)).setCell ⟨b,1,none⟩ (ui u.1.1)).setCell ⟨b,2,none⟩ (ui u.1.2)).setCell ⟨b,3,none⟩ (sd u.2.key)).setCell ⟨b,4,none⟩ (sd u.2.val)).setCell ⟨b,5,none⟩ (.bool u.2.dead))/\((((((w.setCell ⟨b,0,none⟩ (sd q)).setCell ⟨b,1,none⟩ (ui u.1.1)).setCell ⟨b,2,none⟩ (ui u.1.2)).setCell ⟨b,3,none⟩ (sd u.2.key)).setCell ⟨b,4,none⟩ (sd u.2.val)).setCell ⟨b,5,none⟩ (.bool u.2.dead)).heap[c]?=some (.cells (nl.cells q u y m s) nl.ty (0,0))/\c≠b:=by
 rw[Tr.blocks,List.nodup_cons,List.mem_append,not_or]at hn;have hcb:c≠b:=fun e=>hn.1.2 (e▸hcr);have k1:=set_kept' w b 0 (sd q);have k2:=five_kept (w.setCell ⟨b,0,none⟩ (sd q)) b u;have kk:=k1.trans k2 (fun i e=>.inl e);have h1:(w.setCell ⟨b,0,none⟩ (sd q)).heap[b]?=some (.cells (nl.cells q v x l.ptr r.ptr) nl.ty (0,0)):=block_set _ ha.1;refine⟨⟨five_block u h1,TrAt.kept kk ha.2.1 (fun i hi e=>hn.1.1 (e▸hi)),TrAt.kept kk ha.2.2 (fun i hi e=>hn.1.2 (e▸hi))⟩,kk,?_,hcb⟩;rw[kk.block c (gsz hc) hcb];exact hc
theorem without23(t:Tr):∀(key:List UInt8) (w:World),TrAt nl t w->t.blocks.Nodup->Hk t->Srt t.toL->(getF key t.toL).isSome=true->t.toL.length<100000->
  Calls Tryz.prog 195 #[t.ptr,sd key] w fun e w'=>∃t',e=.returned t'.ptr/\Tg t (cutF key t.toL) w t' w':=by
 induction t using Tr.ind with
 |nil=>
  intro key w _ _ _ _ hg _;cases hg
 |node b l k u x r ihl ihr=>
  intro key w ha hn hk hs hg hf;obtain⟨hs1,hs2,_,_⟩:=srt_parts hs;have hg0:=hg;simp only[Tr.toL]at hg0;rw[get_parts hs]at hg0;have hn':=hn;rw[Tr.blocks,List.nodup_cons,List.nodup_append]at hn';have hf':=hf;simp only[Tr.toL,List.length_append,List.length_cons]at hf';obtain⟨c0,-,c2,c3,-⟩:=nd_cells ha.1;have b1:=bl key k;have b2:=bl k key;by_cases h1:ltK key k=true
  ·rw[if_pos h1]at hg0;have f2:=block_frozen ha.1 6;have CW:Hid (1=1->Calls Tryz.prog 195 #[l.ptr,sd key] w fun e w1=>∃o,e=.returned (.pointer o)/\w1.cell? ⟨b,6,none⟩=some l.ptr/\w1.frozen? ⟨b,6,none⟩=false/\Calls Tryz.prog 226 #[pz b] (w1.setCell ⟨b,6,none⟩ (.pointer o)) fun e w2=>∃t',e=.returned t'.ptr/\Tg (.node b l k u x r) (cutF key (Tr.node b l k u x r).toL) w t' w2):=by
    intro _;refine(ihl key w ha.2.1 hn'.2.1 hk.2.1 hs1 hg0 (by omega)).mono ?_;rintro e w1 ⟨l',rfl,g⟩;obtain⟨o,ho⟩:=l'.is_ptr;have hb1:w1.heap[b]?=w.heap[b]?:=g.kept.block b (gsz ha.1) (fun hi=>hn'.1 (by simp[hi]));obtain⟨o1,o2,o3,o4⟩:=Tg.setl ha hn g;rw[ho]at o1 o4;have hlen:l'.toL.length<=l.toL.length:=by rw[g.el,len_cut hs1];split<;>omega
    refine⟨o,by rw[ho],block_cell (hb1.trans ha.1) rfl,block_frozen (hb1.trans ha.1) _,?_⟩;refine(balanced25 ⟨o1,o2,g.hk,hk.2.2,by omega⟩ (by omega)).mono ?_;rintro e w2 ⟨t',rfl,g2⟩;refine⟨t',rfl,Tg.after o3 o4 ?_⟩;simp only[Tr.toL];rw[cut_parts hs,if_pos h1,<-g.el];exact g2
   have q1:Op.bytesLess (bs key).toList (bs k).toList=true:=by rw[b1];exact h1
   clear ihl ihr ha hn hk hs hg hf hs1 hs2 hg0 hn' hf' b1 b2 h1;generalize cutF key (Tr.node b l k u x r).toL=L at*;simp only[Tr.ptr];generalize Tr.node b l k u x r=t at*;generalize l.ptr=lp at*;generalize r.ptr=rp at*;go_enter Tryz.func195,Tryz.ntmps195;go_wp2_with fail;refine(CW.out (by trivial)).mono ?_;rintro e w1 ⟨o,rfl,d1,d2,d3⟩;have HG:Hid (Calls Tryz.prog 226 #[pz b] (w1.setCell ⟨b,6,none⟩ (.pointer o)) fun e w2=>∃t',e=.returned t'.ptr/\Tg t L w t' w2):=d3;clear d3 CW;go_wp2_with fail;refine HG.out.mono ?_;rintro e w2 ⟨t',rfl,g⟩;obtain⟨o',ho⟩:=t'.is_ptr;have HX:Hid (∃t',(Ending.returned (.pointer o'):Ending)=.returned (Tr.ptr t')/\Tg t L w t' w2):=⟨t',by rw[ho],g⟩;rw[ho];clear g HG ho;go_wp2_with fail;go_ret;exact HX.out
  ·rw[if_neg h1]at hg0;by_cases h2:ltK k key=true
   ·rw[if_pos h2]at hg0;have f2:=block_frozen ha.1 7;have CW:Hid (1=1->Calls Tryz.prog 195 #[r.ptr,sd key] w fun e w1=>∃o,e=.returned (.pointer o)/\w1.cell? ⟨b,7,none⟩=some r.ptr/\w1.frozen? ⟨b,7,none⟩=false/\Calls Tryz.prog 226 #[pz b] (w1.setCell ⟨b,7,none⟩ (.pointer o)) fun e w2=>∃t',e=.returned t'.ptr/\Tg (.node b l k u x r) (cutF key (Tr.node b l k u x r).toL) w t' w2):=by
     intro _;refine(ihr key w ha.2.2 hn'.2.2.1 hk.2.2 hs2 hg0 (by omega)).mono ?_;rintro e w1 ⟨r',rfl,g⟩;obtain⟨o,ho⟩:=r'.is_ptr;have hb1:w1.heap[b]?=w.heap[b]?:=g.kept.block b (gsz ha.1) (fun hi=>hn'.1 (by simp[hi]));obtain⟨o1,o2,o3,o4⟩:=Tg.setr ha hn g;rw[ho]at o1 o4;have hlen:r'.toL.length<=r.toL.length:=by rw[g.el,len_cut hs2];split<;>omega
     refine⟨o,by rw[ho],block_cell (hb1.trans ha.1) rfl,block_frozen (hb1.trans ha.1) _,?_⟩;refine(balanced25 ⟨o1,o2,hk.2.1,g.hk,by omega⟩ (by omega)).mono ?_;rintro e w2 ⟨t',rfl,g2⟩;refine⟨t',rfl,Tg.after o3 o4 ?_⟩;simp only[Tr.toL];rw[cut_parts hs,if_neg h1,if_pos h2,<-g.el];exact g2
    have q1:Op.bytesLess (bs key).toList (bs k).toList=false:=by rw[b1];simpa using h1
    have q2:((bs key).toList==(bs k).toList)=false:=by rw[bs_beq];simpa using(ltK_ne h2).symm
    clear ihl ihr ha hn hk hs hg hf hs1 hs2 hg0 hn' hf' b1 b2 h1 h2;generalize cutF key (Tr.node b l k u x r).toL=L at*;simp only[Tr.ptr];generalize Tr.node b l k u x r=t at*;generalize l.ptr=lp at*;generalize r.ptr=rp at*;go_enter Tryz.func195,Tryz.ntmps195;go_wp2_with fail;refine(CW.out (by trivial)).mono ?_;rintro e w1 ⟨o,rfl,d1,d2,d3⟩;have HG:Hid (Calls Tryz.prog 226 #[pz b] (w1.setCell ⟨b,7,none⟩ (.pointer o)) fun e w2=>∃t',e=.returned t'.ptr/\Tg t L w t' w2):=d3;clear d3 CW;go_wp2_with fail;refine HG.out.mono ?_;rintro e w2 ⟨t',rfl,g⟩;obtain⟨o',ho⟩:=t'.is_ptr;have HX:Hid (∃t',(Ending.returned (.pointer o'):Ending)=.returned (Tr.ptr t')/\Tg t L w t' w2):=⟨t',by rw[ho],g⟩;rw[ho];clear g HG ho;go_wp2_with fail;go_ret;exact HX.out
   ·have q1:Op.bytesLess (bs key).toList (bs k).toList=false:=by rw[b1];simpa using h1
    have q2:((bs key).toList==(bs k).toList)=true:=by rw[bs_beq];simpa using ltK_tri (by simpa using h1) (by simpa using h2)
    have hcut:cutF key (Tr.node b l k u x r).toL=l.toL++r.toL:=by simp only[Tr.toL];rw[cut_parts hs,if_neg h1,if_neg h2]
    rw[hcut];clear hcut b1 b2 hg0 hg h1 h2;cases l using Tr.cas with
    |nil=>
     have HG:Hid _:=Tg.side (s:=r) (.inr rfl) ha hn hk;obtain⟨o,ho⟩:=r.is_ptr;have HX:Hid (∃t',(Ending.returned (.pointer o):Ending)=.returned (Tr.ptr t')/\Tg (.node b .nil k u x r) (Tr.toL .nil++r.toL) w t' w):=⟨r,by rw[ho],HG.out⟩;rw[ho]at c3;simp only[Tr.ptr]at c2|-;clear HG ho ihl ihr ha hn hk hs hf hs1 hs2 hn' hf';generalize Tr.toL .nil++r.toL=L at*;generalize Tr.node b .nil k u x r=t at*;go_enter Tryz.func195,Tryz.ntmps195;go_wp2_with fail;go_ret;exact HX.out
    |node c' l1 k1 u1 x1 r1=>
     generalize hlN:Tr.node c' l1 k1 u1 x1 r1=l at*;have hlp:l.ptr=.pointer (some ⟨c',0,none⟩):=by rw[<-hlN];rfl
     clear hlN;cases r using Tr.cas with
     |nil=>
      have HG:Hid _:=Tg.side (s:=l) (.inl rfl) ha hn hk;have HX:Hid (∃t',(Ending.returned (pz c'):Ending)=.returned (Tr.ptr t')/\Tg (.node b l k u x .nil) (l.toL++Tr.toL .nil) w t' w):=⟨l,by rw[hlp],by simp only[Tr.toL,List.append_nil];exact HG.out⟩;rw[hlp]at c2;simp only[Tr.ptr]at c3|-;clear HG hlp ihl ihr ha hn hk hs hf hs1 hs2 hn' hf';generalize l.toL++Tr.toL .nil=L at*;generalize Tr.node b l k u x .nil=t at*;go_enter Tryz.func195,Tryz.ntmps195;go_wp2_with fail;go_ret;exact HX.out
     |node d l2 k2 u2 x2 r2=>
      have CF:Hid (1=1->Calls Tryz.prog 236 #[pz d] w fun e w'=>∃c q u y m s,e=.returned (pz c)/\w'=w/\w.heap[c]?=some (.cells (nl.cells q u y m s) nl.ty (0,0))/\c∈(Tr.node d l2 k2 u2 x2 r2).blocks/\∃R,(Tr.node d l2 k2 u2 x2 r2).toL=(q,u)::R):=fun _=>first26 ha.2.2;generalize hrN:Tr.node d l2 k2 u2 x2 r2=r at*;have hrp:r.ptr=.pointer (some ⟨d,0,none⟩):=by rw[<-hrN];rfl
      clear hrN;have f0:=block_frozen ha.1 0;have f1:=block_frozen ha.1 1;have c10:ce w b 1 (ui u.1.1):=block_cell ha.1 rfl;have f2:=block_frozen ha.1 2;have c11:ce w b 2 (ui u.1.2):=block_cell ha.1 rfl;have f3:=block_frozen ha.1 3;have c12:ce w b 3 (sd u.2.key):=block_cell ha.1 rfl;have f4:=block_frozen ha.1 4;have c13:ce w b 4 (sd u.2.val):=block_cell ha.1 rfl;have f5:=block_frozen ha.1 5;have c14:ce w b 5 (.bool u.2.dead):=block_cell ha.1 rfl;have CD:Hid (∀c q u' y m s R,w.heap[c]?=some (.cells (nl.cells q u' y m s) nl.ty (0,0))->c∈r.blocks->r.toL=(q,u')::R->∀W1,W1=(((((w.setCell ⟨b,0,none⟩ (sd q)).setCell ⟨b,1,none⟩ (ui u'.1.1)).setCell ⟨b,2,none⟩ (ui u'.1.2)).setCell ⟨b,3,none⟩ (sd u'.2.key)).setCell ⟨b,4,none⟩ (sd u'.2.val)).setCell ⟨b,5,none⟩ (.bool u'.2.dead)->c≠b/\W1.cell? ⟨b,7,none⟩=some r.ptr/\ce W1 c 0 (sd q)/\∀W,Sw W1 W->Calls Tryz.prog 195 #[r.ptr,sd q] W fun e w2=>∃o,e=.returned (.pointer o)/\w2.cell? ⟨b,7,none⟩=some r.ptr/\w2.frozen? ⟨b,7,none⟩=false/\∀W3,Sw (w2.setCell ⟨b,7,none⟩ (.pointer o)) W3->Calls Tryz.prog 226 #[pz b] W3 fun e w3=>∃t',e=.returned t'.ptr/\Tg (.node b l k u x r) (l.toL++r.toL) w t' w3):=by
       intro c q u' y m s R hc hcr hR W1 hW1;obtain⟨m1,m2,m3,m4⟩:=moved ha hn hc hcr;rw[<-hW1]at m1 m2 m3;refine⟨m4,block_cell m1.1 rfl,block_cell m3 rfl,fun W hs1'=>?_⟩;have m1':=m1.sw hs1';have hq:getF q r.toL=some u':=(getF_mem hs2).2 (by rw[hR];simp);have hcr2:cutF q r.toL=R:=by rw[hR];simp[cutF]
       refine(ihr q W m1'.2.2 hn'.2.2.1 hk.2.2 hs2 (by rw[hq];rfl) (by omega)).mono ?_;rintro e w2 ⟨r',rfl,g⟩;obtain⟨o,ho⟩:=r'.is_ptr;have hb1:w2.heap[b]?=W.heap[b]?:=g.kept.block b (gsz m1'.1) (fun hi=>hn'.1 (by simp[hi]));obtain⟨o1,o2,o3,o4⟩:=Tg.setr m1' hn g;rw[ho]at o1 o4;have hlen:r'.toL.length<=r.toL.length:=by rw[g.el,len_cut hs2];split<;>omega
       refine⟨o,by rw[ho],block_cell (hb1.trans m1'.1) rfl,block_frozen (hb1.trans m1'.1) _,fun W3 hs3=>?_⟩;have hN:Nd b l r' q u' x W3:=(Nd.mk o1 o2 hk.2.1 g.hk (by omega)).sw hs3;refine(balanced25 hN (by omega)).mono ?_;rintro e w3 ⟨t',rfl,g2⟩;have g3:=Tg.after o3 o4 (hs3.tg g2);have g4:=hs1'.tg g3;have hm2:Kept (fun i=>i∈(Tr.node b l k u x r).blocks) w W1:=m2.mono (fun i e=>by simp[Tr.blocks,e]);have g5:=Tg.after (t:=.node b l k u x r) (t1:=.node b l q u' x r) (fun i hi=>.inl (by simpa[Tr.blocks]using hi)) hm2 g4;refine⟨t',rfl,⟨g5.ok,g5.hk,g5.nd,?_,g5.sub,g5.kept⟩⟩;rw[g5.el,g.el,hcr2,hR]
      rw[hlp]at c2;clear ihl ihr ha hn hk hs hf hs1 hs2 hn' hf' hlp;generalize hLL:l.toL++r.toL=L at*;clear hLL;simp only[Tr.ptr];generalize Tr.node b l k u x r=t at*;rw[hrp]at c3;generalize r.ptr=rp at*;subst hrp;go_enter Tryz.func195,Tryz.ntmps195;go_wp2_with fail;refine(CF.out (by trivial)).mono ?_;rintro e w' ⟨c,q,u',y,m,s,rfl,rfl,hc,hcr,R,hR⟩;obtain⟨e0,e1,-,-,-⟩:=nd_cells hc;obtain⟨e1,e2,e3,e4,e5⟩:=e1;obtain⟨hcb,d3,d4,CC⟩:=CD.out c q u' y m s R hc hcr hR _ rfl;have HC:Hid _:=CC;clear hc hcr hR CF CD CC;go_wp2_with fail;go_region;obtain⟨W,hW⟩:=xj ((((((w'.setCell ⟨b,0,none⟩ (sd q)).setCell ⟨b,1,none⟩ (ui u'.1.1)).setCell ⟨b,2,none⟩ (ui u'.1.2)).setCell ⟨b,3,none⟩ (sd u'.2.key)).setCell ⟨b,4,none⟩ (sd u'.2.val)).setCell ⟨b,5,none⟩ (.bool u'.2.dead)).drew;have d3':ce W b 7 (pz d):=by rw[<-hW];exact((Sw.refl _).drew.cell _).trans d3
      have d4':ce W c 0 (sd q):=by rw[<-hW];exact((Sw.refl _).drew.cell _).trans d4
      have HD:Hid (Calls Tryz.prog 195 #[pz d,sd q] W.drew fun e w2=>∃o,e=.returned (.pointer o)/\ce w2 b 7 (pz d)/\w2.frozen? ⟨b,7,none⟩=false/\Hid (∀W3,Sw (w2.setCell ⟨b,7,none⟩ (.pointer o)) W3->Calls Tryz.prog 226 #[pz b] W3 fun e w3=>∃t',e=.returned t'.ptr/\Tg t L w' t' w3)):=by rw[<-hW];exact HC.out _ (Sw.refl _).drew.drew
      rw[hW];clear HC d3 d4 hW e0 e1 e2 e3 e4 e5 c0 c10 c11 c12 c13 c14 c2 c3 f0 f1 f2 f3 f4 f5;go_wp2_with fail;go_region_with (go_at_call 195;refine HD.out.mono ?_;rintro e w2 ⟨o,rfl,d5,d6,HE⟩)
      all_goals
       go_wp2_with fail;refine(HE.out _ (Sw.refl _)).mono ?_;rintro e w3 ⟨t',rfl,g⟩;obtain⟨o',ho⟩:=t'.is_ptr;have HX:Hid (∃t',(Ending.returned (.pointer o'):Ending)=.returned (Tr.ptr t')/\Tg t L w' t' w3):=⟨t',by rw[ho],g⟩;rw[ho];clear g HE ho;go_wp2_with fail;go_ret;exact HX.out
structure Mp(B p:Nat)(t:Tr)(w:World):Prop where
 box:w.heap[p]?=some (.cells #[t.ptr,.int .i64 t.toL.length] 206 (0,0))
 ok:TrAt nl t w
 srt:Srt t.toL
 hk:Hk t
 pn:p∉t.blocks
 nd:t.blocks.Nodup
 low:B<=p/\∀i∈t.blocks,B<=i
def MapAt(B p:Nat)(F:Nat->Prop)(L:Kv Cv)(w:World):Prop:=∃t,Mp B p t w/\t.toL=L/\F=fun i=>i=p\/i∈t.blocks
theorem Mp.kept{B p:Nat}{t:Tr}{w w':World}{G:Nat->Prop}(h:Mp B p t w)(hk:Kept G w w')(h1:¬G p)(h2:∀i∈t.blocks,¬G i):Mp B p t w':=
 ⟨by rw[hk.block p (gsz h.box) h1];exact h.box,TrAt.kept hk h.ok h2,h.srt,h.hk,h.pn,h.nd,h.low⟩
theorem Mp.cells{B p:Nat}{t:Tr}{w:World}(h:Mp B p t w):w.cell? ⟨p,0,none⟩=some t.ptr/\w.cell? ⟨p,1,none⟩=some (.int .i64 t.toL.length):=⟨block_cell h.box rfl,block_cell h.box rfl⟩
theorem new8(w:World):Calls Tryz.prog 62 #[] w fun e w'=>∃p F,e=.returned (.pointer (some ⟨p,0,none⟩))/\MapAt w.heap.size p F [] w'/\Below w.heap.size w w':=by
 have H:Hid (Mp w.heap.size w.heap.size .nil (w.alloc (.cells #[.pointer none,.int .i64 0] 206))):=
  ⟨heap_alloc_new w _,trivial,List.Pairwise.nil,trivial,by simp[Tr.blocks],by simp[Tr.blocks],Nat.le_refl _,fun i hi=>by simp[Tr.blocks]at hi⟩
 go_enter Tryz.func62,Tryz.ntmps62;go_wp2_with fail;go_ret;exact⟨_,_,rfl,⟨.nil,H.out,rfl,rfl⟩,al _⟩
theorem len15{B p:Nat}{t:Tr}{w:World}(h:Mp B p t w):Calls Tryz.prog 51 #[.pointer (some ⟨p,0,none⟩)] w fun e w'=>e=.returned (.int .i64 t.toL.length)/\Below w.heap.size w w':=by obtain⟨c0,c1⟩:=h.cells;clear h;go_enter Tryz.func51,Tryz.ntmps51;go_wp2_with fail;go_ret;exact⟨rfl,Below.refl _ _⟩
def zc:Cv:=((0,0),⟨[],[],false⟩)
theorem bx5{W:World}{b:Nat}{a0 a1 a2 a3 a4:Value}(v:Cv)(h0:W.heap[b]?=some (.cells #[a0,a1,a2,a3,a4] 129 (0,0))):(((((W.setCell ⟨b,0,none⟩ (.int .u32 v.1.1)).setCell ⟨b,1,none⟩ (.int .u32 v.1.2)).setCell ⟨b,2,none⟩ (.string (bs v.2.key))).setCell ⟨b,3,none⟩ (.string (bs v.2.val))).setCell ⟨b,4,none⟩ (.bool v.2.dead)).heap[b]?=some (.cells #[.int .u32 v.1.1,.int .u32 v.1.2,.string (bs v.2.key),.string (bs v.2.val),.bool v.2.dead] 129 (0,0)):=by have h1:(W.setCell ⟨b,0,none⟩ (.int .u32 v.1.1)).heap[b]?=some (.cells #[.int .u32 v.1.1,a1,a2,a3,a4] 129 (0,0)):=block_set _ h0;generalize W.setCell ⟨b,0,none⟩ (.int .u32 v.1.1)=W1 at*;have h2:(W1.setCell ⟨b,1,none⟩ (.int .u32 v.1.2)).heap[b]?=some (.cells #[.int .u32 v.1.1,.int .u32 v.1.2,a2,a3,a4] 129 (0,0)):=block_set _ h1;generalize W1.setCell ⟨b,1,none⟩ (.int .u32 v.1.2)=W2 at*;have h3:(W2.setCell ⟨b,2,none⟩ (.string (bs v.2.key))).heap[b]?=some (.cells #[.int .u32 v.1.1,.int .u32 v.1.2,.string (bs v.2.key),a3,a4] 129 (0,0)):=block_set _ h2;generalize W2.setCell ⟨b,2,none⟩ (.string (bs v.2.key))=W3 at*;have h4:(W3.setCell ⟨b,3,none⟩ (.string (bs v.2.val))).heap[b]?=some (.cells #[.int .u32 v.1.1,.int .u32 v.1.2,.string (bs v.2.key),.string (bs v.2.val),a4] 129 (0,0)):=block_set _ h3;generalize W3.setCell ⟨b,3,none⟩ (.string (bs v.2.val))=W4 at*;have h5:(W4.setCell ⟨b,4,none⟩ (.bool v.2.dead)).heap[b]?=some (.cells #[.int .u32 v.1.1,.int .u32 v.1.2,.string (bs v.2.key),.string (bs v.2.val),.bool v.2.dead] 129 (0,0)):=block_set _ h4;exact h5
theorem bx5_below{B b:Nat}{w W:World}(v:Cv)(h:Below B w W)(hb:B<=b):Below B w (((((W.setCell ⟨b,0,none⟩ (.int .u32 v.1.1)).setCell ⟨b,1,none⟩ (.int .u32 v.1.2)).setCell ⟨b,2,none⟩ (.string (bs v.2.key))).setCell ⟨b,3,none⟩ (.string (bs v.2.val))).setCell ⟨b,4,none⟩ (.bool v.2.dead)):=(((((h.setCell (p:=⟨b,0,none⟩) hb _).setCell (p:=⟨b,1,none⟩) hb _).setCell (p:=⟨b,2,none⟩) hb _).setCell (p:=⟨b,3,none⟩) hb _).setCell (p:=⟨b,4,none⟩) hb _)
def getV:Option Cv->Value
 |some v=>.tuple #[.agg #[.int .u32 v.1.1,.int .u32 v.1.2,.string (bs v.2.key),.string (bs v.2.val),.bool v.2.dead],.bool true]
 |none=>.tuple #[.agg #[.int .u32 zc.1.1,.int .u32 zc.1.2,.string (bs zc.2.key),.string (bs zc.2.val),.bool zc.2.dead],.bool false]
theorem get13{B p:Nat}{t:Tr}{w:World}(k:List UInt8)(h:Mp B p t w):Calls Tryz.prog 172 #[.pointer (some ⟨p,0,none⟩),.string (bs k)] w fun e w'=>e=.returned (getV (getF k t.toL))/\Below w.heap.size w w':=by
 obtain⟨W0,hW0⟩:=xj (w.alloc (.cells #[.int .u32 0,.int .u32 0,.string ⟨#[]⟩,.string ⟨#[]⟩,.bool false] 129));have hb0:Below w.heap.size w W0:=by rw[<-hW0];exact al _
 have hx0:W0.heap[w.heap.size]?=some (.cells #[.int .u32 0,.int .u32 0,.string ⟨#[]⟩,.string ⟨#[]⟩,.bool false] 129 (0,0)):=by rw[<-hW0];exact heap_alloc_new w _
 have h1:Mp B p t W0:=h.kept (Kept.of_below (F:=fun _=>False) hb0) (fun h=>h) (fun _ _ h=>h);clear h;have CF:Hid (1=1->Calls Tryz.prog 192 #[.pointer (some ⟨p,0,none⟩),.string (bs k)] W0 fun e w'=>e=.returned (ptrO (findT k t))/\w'=W0):=fun _=>find20 p k t W0 h1.cells.1 h1.ok;have hg:=find_get (k:=k) h1.srt;obtain⟨bx,hbx⟩:=xj w.heap.size;have z0:W0.cell? ⟨w.heap.size,0,none⟩=some (.int .u32 0):=block_cell hx0 rfl;have z1:W0.cell? ⟨w.heap.size,1,none⟩=some (.int .u32 0):=block_cell hx0 rfl;have z2:W0.cell? ⟨w.heap.size,2,none⟩=some (.string ⟨#[]⟩):=block_cell hx0 rfl;have z3:W0.cell? ⟨w.heap.size,3,none⟩=some (.string ⟨#[]⟩):=block_cell hx0 rfl;have z4:W0.cell? ⟨w.heap.size,4,none⟩=some (.bool false):=block_cell hx0 rfl;have f0:=block_frozen hx0 0;have f1:=block_frozen hx0 1;have f2:=block_frozen hx0 2;have f3:=block_frozen hx0 3;have f4:=block_frozen hx0 4;rw[hbx]at hx0 z0 z1 z2 z3 z4 f0 f1 f2 f3 f4;have hle:w.heap.size<=bx:=Nat.le_of_eq hbx;cases hf:findT k t with
 |none=>
  rw[hf]at CF hg;have hn:getF k t.toL=none:=by
   cases e:getF k t.toL with
   |none=>rfl
   |some v=>rw[e]at hg;cases hg
  rw[hn];simp only[ptrO]at CF;obtain⟨W1,hW1⟩:=xj (W0.alloc (.cells #[.int .u32 0,.int .u32 0,.string ⟨#[]⟩,.string ⟨#[]⟩,.bool false] 129));have hb1:Below W0.heap.size W0 W1:=by rw[<-hW1];exact al _
  have hx1:W1.heap[bx]?=some (.cells #[.int .u32 0,.int .u32 0,.string ⟨#[]⟩,.string ⟨#[]⟩,.bool false] 129 (0,0)):=(hb1.block bx (gsz hx0)).trans hx0;have hy1:W1.heap[W0.heap.size]?=some (.cells #[.int .u32 0,.int .u32 0,.string ⟨#[]⟩,.string ⟨#[]⟩,.bool false] 129 (0,0)):=by rw[<-hW1];exact heap_alloc_new W0 _
  have HI:Hid _:=bx5 zc hx1;have HBw:Hid _:=bx5_below zc (hb0.trans (hb1.mono hb0.size)) hle;simp only[zc,show bs []=⟨#[]⟩from rfl]at HI HBw;have x0:W1.cell? ⟨bx,0,none⟩=some (.int .u32 0):=block_cell hx1 rfl;have y0:W1.cell? ⟨W0.heap.size,0,none⟩=some (.int .u32 0):=block_cell hy1 rfl;have xf0:=block_frozen hx1 0;have x1:W1.cell? ⟨bx,1,none⟩=some (.int .u32 0):=block_cell hx1 rfl;have y1:W1.cell? ⟨W0.heap.size,1,none⟩=some (.int .u32 0):=block_cell hy1 rfl;have xf1:=block_frozen hx1 1;have x2:W1.cell? ⟨bx,2,none⟩=some (.string ⟨#[]⟩):=block_cell hx1 rfl;have y2:W1.cell? ⟨W0.heap.size,2,none⟩=some (.string ⟨#[]⟩):=block_cell hy1 rfl;have xf2:=block_frozen hx1 2;have x3:W1.cell? ⟨bx,3,none⟩=some (.string ⟨#[]⟩):=block_cell hx1 rfl;have y3:W1.cell? ⟨W0.heap.size,3,none⟩=some (.string ⟨#[]⟩):=block_cell hy1 rfl;have xf3:=block_frozen hx1 3;have x4:W1.cell? ⟨bx,4,none⟩=some (.bool false):=block_cell hx1 rfl;have y4:W1.cell? ⟨W0.heap.size,4,none⟩=some (.bool false):=block_cell hy1 rfl;have xf4:=block_frozen hx1 4;obtain⟨by1,hby⟩:=xj W0.heap.size;rw[hby]at y0 y1 y2 y3 y4;clear h1 hg hn hf hb0 hx0 hx1 hy1 hb1 hle z0 z1 z2 z3 z4 f0 f1 f2 f3 f4;go_enter Tryz.func172,Tryz.ntmps172;go_wp2_with fail;refine(CF.out (by trivial)).mono ?_;rintro e w' ⟨rfl,rfl⟩;go_wp2_with fail;have g:=HI.out;have g0:=block_cell (j:=0) g rfl;have g1:=block_cell (j:=1) g rfl;have g2:=block_cell (j:=2) g rfl;have g3:=block_cell (j:=3) g rfl;have g4:=block_cell (j:=4) g rfl;simp only[List.getElem_toArray,List.getElem_cons_zero,List.getElem_cons_succ]at g0 g1 g2 g3 g4;refine bodyPost_ret (v:=getV none) (by simp[results,Tryz.results172,go_sem,g0,g1,g2,g3,g4,getV,zc,show bs []=⟨#[]⟩from rfl]) rfl ?_;exact⟨rfl,HBw.out⟩
 |some b=>
  rw[hf]at CF;obtain⟨q,v,x,l,r,hb,hv⟩:=find_at h1.srt h1.ok hf;obtain⟨-,⟨c1,c2,c3,c4,c5⟩,-,-,-⟩:=nd_cells hb;rw[hv];simp only[ptrO]at CF;have HI:Hid _:=bx5 v hx0;have HBw:Hid _:=bx5_below v hb0 hle;clear h1 hg hv hf hb hx0 hb0 hle;go_enter Tryz.func172,Tryz.ntmps172;go_wp2_with fail;refine(CF.out (by trivial)).mono ?_;rintro e w' ⟨rfl,rfl⟩;go_wp2_with fail;have g:=HI.out;have g0:=block_cell (j:=0) g rfl;have g1:=block_cell (j:=1) g rfl;have g2:=block_cell (j:=2) g rfl;have g3:=block_cell (j:=3) g rfl;have g4:=block_cell (j:=4) g rfl;simp only[List.getElem_toArray,List.getElem_cons_zero,List.getElem_cons_succ]at g0 g1 g2 g3 g4;refine bodyPost_ret (v:=getV (some v)) (by simp[results,Tryz.results172,go_sem,g0,g1,g2,g3,g4,getV]) rfl ?_;exact⟨rfl,HBw.out⟩
theorem keys17{B p:Nat}{t:Tr}{w:World}(lo hi:List UInt8)(limit:Int)(h:Mp B p t w)(hl:t.toL.length<100000):Calls Tryz.prog 50 #[.pointer (some ⟨p,0,none⟩),.string (bs lo),.string (bs hi),.int .i64 limit] w fun e w'=>∃v',e=.returned v'/\w'.ownsRow w.heap.size 9 1 v' (keysF lo hi limit t.toL).length (kc (keysF lo hi limit t.toL))/\Below w.heap.size w w':=by
 have CG:Hid (1=1->Calls Tryz.prog 106 #[t.ptr,.slice none 0 0,.string (bs lo),.string (bs hi),.int .i64 limit] w fun e w'=>∃v',e=.returned v'/\w'.ownsRow w.heap.size 9 1 v' (keysF lo hi limit t.toL).length (kc (keysF lo hi limit t.toL))/\Below w.heap.size w w'):=fun _=>by have:=gather24 w.heap.size lo hi limit t [] (.slice none 0 0) w h.ok h.ok.lt h.srt (Nat.le_refl _) (own_nil _ _ _ _) (by simp;omega);rw[gat_start]at this;exact this
 obtain⟨c0,-⟩:=h.cells;clear h hl;generalize t.ptr=tp at*;generalize keysF lo hi limit t.toL=y at*;go_enter Tryz.func50,Tryz.ntmps50;go_wp2_with fail;refine(CG.out (by trivial)).mono ?_;rintro e w1 ⟨v1,rfl,ho,hb⟩;obtain⟨sa,sc,rfl,-,-,-,-⟩:=rw_own ho;have H3:Hid _:=And.intro ho hb;clear ho hb CG;go_wp2_with fail;go_ret;exact⟨_,rfl,H3.out⟩
def Post(B p:Nat)(F:Nat->Prop)(L:Kv Cv)(w W:World):Prop:=∃F',MapAt B p F' L W/\Kept F w W/\∀i,F' i->F i\/w.heap.size<=i
def foot8(p:Nat)(t:Tr):Nat->Prop:=fun i=>i=p\/i∈t.blocks
theorem Mp.upd{B p:Nat}{t t':Tr}{L:Kv Cv}{w w1:World}(h:Mp B p t w)(g:Tg t L w t' w1)(hs:Srt L)(n:Int)(hn:n=L.length):
  Post B p (foot8 p t) L w ((w1.setCell ⟨p,0,none⟩ t'.ptr).setCell ⟨p,1,none⟩ (iw n)):=by
 have hp:p<w.heap.size:=(gsz h.box);have h1:w1.heap[p]?=some (.cells #[t.ptr,iw t.toL.length] 206 (0,0)):=by rw[g.kept.block p hp h.pn];exact h.box
 have k1:=set_kept' w1 p 0 t'.ptr;have k2:=set_kept' (w1.setCell ⟨p,0,none⟩ t'.ptr) p 1 (iw n);have kk:=k1.trans k2 (fun i e=>.inl e);have pn:p∉t'.blocks:=fun hi=>by
  rcases g.sub p hi with e|e
  ·exact h.pn e
  ·omega
 refine⟨_,⟨t',⟨?_,TrAt.kept kk g.ok (fun i hi e=>pn (e▸hi)),by rw[g.el];exact hs,g.hk,pn,g.nd,h.low.1,fun i hi=>?_⟩,g.el,rfl⟩,?_,fun i hi=>?_⟩
 ·rw[g.el,<-hn];exact block_set _ (block_set _ h1)
 ·rcases g.sub i hi with e|e
  ·exact h.low.2 i e
  ·have:=h.low.1;omega
 ·exact(g.kept.mono (fun i hi=>.inr hi)).trans kk (fun i e=>.inl (.inl e))
 ·rcases hi with e|e
  ·exact .inl (.inl e)
  ·rcases g.sub i e with e|e
   ·exact .inl (.inr e)
   ·exact .inr e
theorem Mp.put{B p b:Nat}{t:Tr}{w:World}{k:List UInt8}(v:Cv)(h:Mp B p t w)(hf:findT k t=some b):Post B p (foot8 p t) (setF k v t.toL) w (((((w.setCell ⟨b,1,none⟩ (ui v.1.1)).setCell ⟨b,2,none⟩ (ui v.1.2)).setCell ⟨b,3,none⟩ (sd v.2.key)).setCell ⟨b,4,none⟩ (sd v.2.val)).setCell ⟨b,5,none⟩ (.bool v.2.dead)):=by
 have hb:=find_in hf;have hs:(findT k t).isSome=true:=by rw[hf];rfl
 have hl:(putT k v t).toL=setF k v t.toL:=put_toL h.srt hs;have hlen:(putT k v t).toL.length=t.toL.length:=by rw[hl,len_set h.srt,if_pos (by rw[<-find_get h.srt];exact hs)]
 have kk:=five_kept w b v;refine⟨_,⟨putT k v t,⟨?_,put_at h.ok h.nd hf,by rw[hl];exact setF_srt h.srt,put_hk k v h.hk,by rw[put_blocks];exact h.pn,by rw[put_blocks];exact h.nd,by rw[put_blocks];exact h.low⟩,hl,rfl⟩,?_,fun i hi=>.inl ?_⟩
 ·rw[put_ptr,hlen,kk.block p (gsz h.box) (fun e=>h.pn (e▸hb))];exact h.box
 ·exact kk.mono (fun i e=>.inr (e▸hb))
 ·rw[put_blocks]at hi;exact hi
theorem Post.behind{B p:Nat}{F:Nat->Prop}{L:Kv Cv}{w W0 W:World}(hb:Below w.heap.size w W0)(h:Post B p F L W0 W):Post B p F L w W:=by
 obtain⟨F',h1,h2,h3⟩:=h;refine⟨F',h1,(Kept.of_below hb).trans h2 (fun i hi=>.inl hi),fun i hi=>?_⟩;rcases h3 i hi with e|e
 ·exact .inl e
 ·exact .inr (Nat.le_trans hb.size e)
theorem set9{B p:Nat}{t:Tr}{w:World}(k:List UInt8)(v:Cv)(h0:Mp B p t w)(hl:t.toL.length<100000):Calls Tryz.prog 141 #[pz p,sd k,.agg #[ui v.1.1,ui v.1.2,sd v.2.key,sd v.2.val,.bool v.2.dead]] w fun e w'=>e=.returned (.tuple #[])/\Post B p (foot8 p t) (setF k v t.toL) w w':=by
 obtain⟨W0,hW0⟩:=xj (w.alloc (.cells #[ui v.1.1,ui v.1.2,sd v.2.key,sd v.2.val,.bool v.2.dead] 129));have hb0:Below w.heap.size w W0:=by rw[<-hW0];exact al _
 have hx0:W0.heap[w.heap.size]?=some (.cells #[ui v.1.1,ui v.1.2,sd v.2.key,sd v.2.val,.bool v.2.dead] 129 (0,0)):=by rw[<-hW0];exact heap_alloc_new w _
 have h:Mp B p t W0:=h0.kept (Kept.of_below (F:=fun _=>False) hb0) (fun h=>h) (fun _ _ h=>h);clear h0;have z0:ce W0 w.heap.size 0 (ui v.1.1):=block_cell hx0 rfl;have z1:ce W0 w.heap.size 1 (ui v.1.2):=block_cell hx0 rfl;have z2:ce W0 w.heap.size 2 (sd v.2.key):=block_cell hx0 rfl;have z3:ce W0 w.heap.size 3 (sd v.2.val):=block_cell hx0 rfl;have z4:ce W0 w.heap.size 4 (.bool v.2.dead):=block_cell hx0 rfl;have HB:Hid (Below w.heap.size w W0):=hb0;clear hx0 hb0;have CF:Hid (1=1->Calls Tryz.prog 192 #[pz p,sd k] W0 fun e w'=>e=.returned (ptrO (findT k t))/\w'=W0):=fun _=>find20 p k t W0 h.cells.1 h.ok;have hg:=find_get (k:=k) h.srt;cases hf:findT k t with
 |some b=>
  rw[hf]at CF;have HP:Hid (Post B p (foot8 p t) (setF k v t.toL) W0 (((((W0.setCell ⟨b,1,none⟩ (ui v.1.1)).setCell ⟨b,2,none⟩ (ui v.1.2)).setCell ⟨b,3,none⟩ (sd v.2.key)).setCell ⟨b,4,none⟩ (sd v.2.val)).setCell ⟨b,5,none⟩ (.bool v.2.dead))):=h.put v hf;obtain⟨q,u,x,l,r,hb,-⟩:=find_at h.srt h.ok hf;obtain⟨-,⟨c1,c2,c3,c4,c5⟩,-,-,-⟩:=nd_cells hb;have f1:=block_frozen hb 1;have f2:=block_frozen hb 2;have f3:=block_frozen hb 3;have f4:=block_frozen hb 4;have f5:=block_frozen hb 5;simp only[ptrO]at CF;clear h hg hf hb hl;generalize setF k v t.toL=L at*;generalize foot8 p t=F at*;obtain⟨bx,hbx⟩:=xj w.heap.size;rw[hbx]at z0 z1 z2 z3 z4;go_enter Tryz.func141,Tryz.ntmps141;go_wp2_with fail;refine(CF.out (by trivial)).mono ?_;rintro e w' ⟨rfl,rfl⟩;clear hW0 hbx;go_wp2_with fail;refine bodyPost_ret (results_none Tryz.results141 _ _ _) rfl ?_;exact⟨rfl,Post.behind HB.out HP.out⟩
 |none=>
  rw[hf]at CF hg;have hn:getF k t.toL=none:=by
   cases e:getF k t.toL with
   |none=>rfl
   |some v=>rw[e]at hg;cases hg
  have CW:Hid (∀W,Sw W0 W->Calls Tryz.prog 193 #[t.ptr,sd k,.agg #[ui v.1.1,ui v.1.2,sd v.2.key,sd v.2.val,.bool v.2.dead]] W fun e w1=>∃o,e=.returned (.pointer o)/\w1.cell? ⟨p,0,none⟩=some t.ptr/\ce w1 p 1 (iw t.toL.length)/\w1.frozen? ⟨p,0,none⟩=false/\w1.frozen? ⟨p,1,none⟩=false/\Hid (Post B p (foot8 p t) (setF k v t.toL) W0 ((w1.setCell ⟨p,0,none⟩ (.pointer o)).setCell ⟨p,1,none⟩ (iw (t.toL.length+1))))):=fun W hsw=>by
   have hk:Mp B p t W:=h.kept (Kept.of_below (F:=fun _=>False) (hsw.below _)) (fun h=>h) (fun _ _ h=>h);refine(with21 k v t W hk.ok hk.nd hk.hk hk.srt hn hl).mono ?_;rintro e w1 ⟨t',rfl,g⟩;obtain⟨o,ho⟩:=t'.is_ptr;have h1:w1.heap[p]?=some (.cells #[t.ptr,iw t.toL.length] 206 (0,0)):=by rw[g.kept.block p (gsz hk.box) hk.pn];exact hk.box
   refine⟨o,by rw[ho],block_cell h1 rfl,block_cell h1 rfl,block_frozen h1 _,block_frozen h1 _,?_⟩;have:=hk.upd g (setF_srt hk.srt) (t.toL.length+1) (by rw[len_set hk.srt,hn];rfl);rw[ho]at this;exact Post.behind (hsw.below _) this
  obtain⟨c0,c1⟩:=h.cells;have fr0:=block_frozen h.box 0;have fr1:=block_frozen h.box 1;simp only[ptrO]at CF;have hl':((t.toL.length:Nat):Int)<100000:=by omega
  clear h hg hn hf hl;generalize setF k v t.toL=L at*;generalize foot8 p t=F at*;obtain⟨tp,hto⟩:=t.is_ptr;rw[hto]at CW c0;clear hto;generalize t.toL.length=n at*;obtain⟨bx,hbx⟩:=xj w.heap.size;rw[hbx]at z0 z1 z2 z3 z4;go_enter Tryz.func141,Tryz.ntmps141;go_wp2_with fail;refine(CF.out (by trivial)).mono ?_;rintro e w' ⟨rfl,rfl⟩;clear CF hW0 hbx;go_wp2_with fail;go_region_with (go_at_call 193;refine(CW.out _ ?_).mono ?_;exact Sw.drew (Sw.refl _);rintro e w1 ⟨o,rfl,d0,d1,f0,f1,HP⟩)
  all_goals
   go_wp2_with fail;refine bodyPost_end (results_none Tryz.results141 _ _ _) rfl ?_;exact⟨rfl,Post.behind HB.out HP.out⟩
theorem cut11{B p:Nat}{t:Tr}{w:World}(k:List UInt8)(h:Mp B p t w)(hl:t.toL.length<100000):Calls Tryz.prog 145 #[pz p,sd k] w fun e w'=>e=.returned (.bool (getF k t.toL).isSome)/\Post B p (foot8 p t) (cutF k t.toL) w w':=by
 have CF:Hid (1=1->Calls Tryz.prog 192 #[pz p,sd k] w fun e w'=>e=.returned (ptrO (findT k t))/\w'=w):=fun _=>find20 p k t w h.cells.1 h.ok;have hg:=find_get (k:=k) h.srt;rw[<-hg];cases hf:findT k t with
 |none=>
  rw[hf]at CF hg;have hn:getF k t.toL=none:=by
   cases e:getF k t.toL with
   |none=>rfl
   |some v=>rw[e]at hg;cases hg
  have HP:Hid (Post B p (foot8 p t) (cutF k t.toL) w w):=⟨_,⟨t,h,(cut_none hn).symm,rfl⟩,Kept.refl _ _,fun i hi=>.inl hi⟩;simp only[ptrO]at CF;clear h hg hn hf hl;generalize cutF k t.toL=L at*;generalize foot8 p t=F at*;go_enter Tryz.func145,Tryz.ntmps145;go_wp2_with fail;refine(CF.out (by trivial)).mono ?_;rintro e w' ⟨rfl,rfl⟩;go_wp2_with fail;go_ret;exact⟨rfl,HP.out⟩
 |some b=>
  rw[hf]at CF hg;have hs:(getF k t.toL).isSome=true:=hg.symm;have hpos:0<t.toL.length:=by
   cases e:t.toL with
   |nil=>rw[e]at hs;cases hs
   |cons a l=>simp
  have CW:Hid (1=1->Calls Tryz.prog 195 #[t.ptr,sd k] w fun e w1=>∃o,e=.returned (.pointer o)/\w1.cell? ⟨p,0,none⟩=some t.ptr/\ce w1 p 1 (iw t.toL.length)/\w1.frozen? ⟨p,0,none⟩=false/\w1.frozen? ⟨p,1,none⟩=false/\Hid (Post B p (foot8 p t) (cutF k t.toL) w ((w1.setCell ⟨p,0,none⟩ (.pointer o)).setCell ⟨p,1,none⟩ (iw (t.toL.length-1))))):=fun _=>by
   refine(without23 t k w h.ok h.nd h.hk h.srt hs hl).mono ?_;rintro e w1 ⟨t',rfl,g⟩;obtain⟨o,ho⟩:=t'.is_ptr;have h1:w1.heap[p]?=some (.cells #[t.ptr,iw t.toL.length] 206 (0,0)):=by rw[g.kept.block p (gsz h.box) h.pn];exact h.box
   refine⟨o,by rw[ho],block_cell h1 rfl,block_cell h1 rfl,block_frozen h1 _,block_frozen h1 _,?_⟩;have:=h.upd g (cutF_srt h.srt) (t.toL.length-1) (by rw[len_cut h.srt,if_pos hs];omega);rw[ho]at this;exact this
  obtain⟨c0,c1⟩:=h.cells;simp only[ptrO]at CF;have hl':((t.toL.length:Nat):Int)<100000:=by omega
  clear h hg hf hl hs hpos;generalize cutF k t.toL=L at*;generalize foot8 p t=F at*;obtain⟨tp,hto⟩:=t.is_ptr;rw[hto]at CW c0;clear hto;generalize t.toL.length=n at*;go_enter Tryz.func145,Tryz.ntmps145;go_wp2_with fail;refine(CF.out (by trivial)).mono ?_;rintro e w' ⟨rfl,rfl⟩;go_wp2_with fail;refine(CW.out (by trivial)).mono ?_;rintro e w1 ⟨o,rfl,d0,d1,f0,f1,HP⟩;clear CW CF c0 c1;go_wp2_with fail;go_ret;exact⟨rfl,HP.out⟩
def clI(m:Mm)(x:List UInt8×Cv):Ii:=⟨x.2.1.1,x.2.1.2,((getM x.2.1 m).getD zt).sp,((getM x.2.1 m).getD zt).sl,((getM x.2.1 m).getD zt).mp,((getM x.2.1 m).getD zt).ml,((getM x.2.1 m).getD zt).prim,x.2.2.val,x.2.2.dead⟩
def tblF(m:Mm)(L:Kv Cv):Tb:=L.map fun x=>(x.1,clI m x)
structure Rel(L:Kv Cv)(m:Mm)(T:Tb):Prop where
 eq:T=tblF m L
 srt:Srt L
 key:∀x∈L,x.2.2.key=x.1
 has:∀x∈L,(getM x.2.1 m).isSome=true
 nd:(m.map (·.1)).Nodup
 ks:∀k t,getM k m=some t->t.kl=(byF k.1 k.2 T).map (·.1)/\t.kl≠[]/\0<=t.mp/\0<=t.ml
 ok:TOk T
theorem Rel.nil:Rel [] [] []:=⟨rfl,List.Pairwise.nil,by simp,by simp,by simp,(fun _ _ h=>by cases h),TOk.nil⟩
theorem Rel.len{L:Kv Cv}{m:Mm}{T:Tb}(h:Rel L m T):L.length=T.length:=by rw[h.eq];simp[tblF]
theorem Rel.get{L:Kv Cv}{m:Mm}{T:Tb}(h:Rel L m T)(k:List UInt8):getF k T=(getF k L).map fun v=>clI m (k,v):=by rw[h.eq];exact get_map (fun x=>clI m x) k L
theorem Rel.keys{L:Kv Cv}{m:Mm}{T:Tb}(h:Rel L m T):T.map (·.1)=L.map (·.1):=by rw[h.eq,tblF,List.map_map];rfl
theorem Rel.mem{L:Kv Cv}{m:Mm}{T:Tb}(h:Rel L m T){y:List UInt8×Ii}(hy:y∈T):∃x∈L,y=(x.1,clI m x):=by rw[h.eq]at hy;obtain⟨x,hx,rfl⟩:=List.mem_map.1 hy;exact⟨x,hx,rfl⟩
theorem Rel.isSome{L:Kv Cv}{m:Mm}{T:Tb}(h:Rel L m T)(c n:Int):(getM (c,n) m).isSome=decide (0<(byF c n T).length):=by
 cases hg:getM (c,n) m with
 |some t=>
  obtain⟨h1,h2,_⟩:=h.ks _ _ hg;have:0<(byF c n T).length:=by
   rcases Nat.eq_zero_or_pos (byF c n T).length with e|e
   ·rw[List.length_eq_zero_iff]at e;rw[e]at h1;exact absurd h1 h2
   ·exact e
  simp[this]
 |none=>
  have:byF c n T=[]:=by
   unfold byF;rw[List.filter_eq_nil_iff];intro y hy;obtain⟨x,hx,rfl⟩:=h.mem hy;have h1:=h.has x hx;intro h2;have e1:x.2.1=(c,n):=by simp only[ofBy,clI,Bool.and_eq_true,beq_iff_eq]at h2;exact Prod.ext h2.1 h2.2
   rw[e1,hg]at h1;cases h1
  simp[this]
theorem Rel.kl{L:Kv Cv}{m:Mm}{T:Tb}(h:Rel L m T)(c n:Int):((getM (c,n) m).getD zt).kl=(byF c n T).map (·.1):=by
 have hs:=h.isSome c n;cases hg:getM (c,n) m with
 |some t=>exact(h.ks _ _ hg).1
 |none=>
  rw[hg]at hs;have:(byF c n T).length=0:=by
   rcases Nat.eq_zero_or_pos (byF c n T).length with e|e
   ·exact e
   ·simp[e]at hs
  rw[List.length_eq_zero_iff]at this;rw[this];rfl
def intF(T:Tb)(K:List (List UInt8)):Tb:=K.map fun k=>(k,(getF k T).getD zi)
theorem int_of{T:Tb}(hs:Srt T):∀{X:Tb},(∀x∈X,x∈T)->intF T (X.map (·.1))=X
 |[],_=>rfl
 |x::X,h=>by simp only[intF,List.map_cons];have hx:getF x.1 T=some x.2:=(getF_mem hs).2 (h x (List.mem_cons_self ..));have:=int_of hs (X:=X) (fun y hy=>h y (List.mem_cons_of_mem _ hy));simp only[intF]at this;rw[this,hx];rfl
theorem int_by{T:Tb}(hs:Srt T)(c n:Int):intF T ((byF c n T).map (·.1))=byF c n T:=int_of hs (fun _ hx=>(List.mem_filter.1 hx).1)
theorem int_all{T:Tb}(hs:Srt T):intF T (T.map (·.1))=T:=int_of hs (fun _ hx=>hx)
theorem int_len(T:Tb)(K:List (List UInt8)):(intF T K).length=K.length:=by simp[intF]
theorem Rel.raise{L:Kv Cv}{m:Mm}{T:Tb}(h:Rel L m T){c n mp ml:Int}{t:Tm}(hg:getM (c,n) m=some t)(h0:0<=mp/\0<=ml):Rel L (setM (c,n) (if ltT t.mp t.ml mp ml then{t with mp:=mp,ml:=ml}else t) m) (raiseF c n mp ml T):=by
 have hcl:∀x:List UInt8×Cv,clI (setM (c,n) (if ltT t.mp t.ml mp ml then{t with mp:=mp,ml:=ml}else t) m) x=raise1 c n mp ml (clI m x):=by
  intro x;unfold raise1 clI ofBy;rw[get_setM];by_cases e:(c,n)=x.2.1
  ·rw[if_pos e,<-e,hg];have e1:(c==c&&n==n)=true:=by simp
   simp only[Option.getD_some,e1,Bool.true_and];split<;>rfl
  ·rw[if_neg e];have e1:(x.2.1.1==c&&x.2.1.2==n)=false:=by
    cases hb:(x.2.1.1==c&&x.2.1.2==n)with
    |false=>rfl
    |true=>
     simp only[Bool.and_eq_true,beq_iff_eq]at hb;exact absurd (Prod.ext hb.1.symm hb.2.symm) e
   simp only[e1,Bool.false_and];rfl
 refine⟨?_,h.srt,h.key,fun x hx=>?_,nd_setM h.nd,fun k t' hk=>?_,h.ok.raise c n mp ml⟩
 ·rw[h.eq];unfold raiseF tblF;rw[List.map_map];refine List.map_congr_left (fun x _=>?_);simp only[Function.comp_apply,hcl]
 ·rw[get_setM];split
  ·rfl
  ·exact h.has x hx
 ·rw[get_setM]at hk;have hb:(byF k.1 k.2 (raiseF c n mp ml T)).map (·.1)=(byF k.1 k.2 T).map (·.1):=by
   unfold byF raiseF;rw[List.filter_map,List.map_map];have:((fun x:List UInt8×Ii=>ofBy k.1 k.2 x.2)∘fun x:List UInt8×Ii=>(x.1,raise1 c n mp ml x.2))=fun x:List UInt8×Ii=>ofBy k.1 k.2 x.2:=by funext x;exact raise_of
   rw[this];rfl
  rw[hb];split at hk
  ·rename_i e;injection hk with hk;subst hk;obtain⟨h1,h2,h3,h4⟩:=h.ks _ _ hg;rw[<-e];split
   ·exact⟨h1,h2,h0⟩
   ·exact⟨h1,h2,h3,h4⟩
  ·exact h.ks _ _ hk
def cutsF{α:Type}:List (List UInt8)->Kv α->Kv α
 |[],L=>L
 |k::K,L=>cutsF K (cutF k L)
end Go.Proofs.YtdplfgcoaddbdaaGreat.Lat
