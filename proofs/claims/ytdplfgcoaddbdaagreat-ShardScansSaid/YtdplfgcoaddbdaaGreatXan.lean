import Derived.ScopeJumps
import Derived.WalkMore
import Derived.Test.YtdplfgcoaddbdaaGreatXam
set_option maxHeartbeats 4000000
set_option maxRecDepth 100000
set_option linter.unusedVariables false
set_option linter.unusedSimpArgs false
namespace Go.Proofs.YtdplfgcoaddbdaaGreat.Lat
open Go.RowKit
theorem balanced25_no{b:Nat}{l r:Tr}{k:List UInt8}{v:Cv}{x:Nat}{w:World}(h:Nd b l r k v x w)(e2:l.hi-r.hi≠2)(e3:l.hi-r.hi≠ -2):
  Calls Tryz.prog 226 #[.pointer (some ⟨b,0,none⟩)] w fun e w'=>∃t',e=.returned t'.ptr/\Tg (.node b l k v x r) (l.toL++(k,v)::r.toL) w t' w':=by
 obtain⟨-,-,b2,b3,-⟩:=nd_cells h.ok.1;have C1:Hid (∀W,Sw w W->Calls Tryz.prog 254 #[l.ptr] W fun e w'=>e=.returned (.int .i64 l.hi)/\w'=W):=fun W hs=>high27 l W (h.ok.2.1.sw hs);have C2:Hid (∀W,Sw w W->Calls Tryz.prog 254 #[r.ptr] W fun e w'=>e=.returned (.int .i64 r.hi)/\w'=W):=fun W hs=>high27 r W (h.ok.2.2.sw hs);obtain⟨hl0,hl1⟩:=h.bl;obtain⟨hr0,hr1⟩:=h.br;have q2:(l.hi-r.hi==2)=false:=by simp;omega
 have q3:(l.hi-r.hi== -2)=false:=by simp;omega
 have CM:Hid (∀W,Sw w W->Calls Tryz.prog 257 #[.pointer (some ⟨b,0,none⟩)] W fun e w'=>e=.returned (.tuple #[])/\∃t',Tr.ptr t'=.pointer (some ⟨b,0,none⟩)/\Tg (.node b l k v x r) (l.toL++(k,v)::r.toL) w t' w'):=by intro W hs;refine(h.sw hs).mtg.mono ?_;rintro e w' ⟨rfl,t',ht,g⟩;exact⟨rfl,t',ht,hs.tg g⟩
 clear h e2 e3;generalize l.toL++(k,v)::r.toL=L at*;generalize Tr.node b l k v x r=t at*;generalize l.ptr=lp at*;generalize r.ptr=rp at*;generalize l.hi=hl at*;generalize r.hi=hr at*;go_enter Tryz.func226,Tryz.ntmps226;go_wp2_with fail
 go_quiet (first|(go_at_call_of 254 (lp);exact Calls.quiet_of_same (C1.out _ ((Sw.refl _).drewN _)))|(go_at_call_of 254 (rp);exact Calls.quiet_of_same (C2.out _ ((Sw.refl _).drewN _))))
 go_wp2_with fail;refine(CM.out _ ((Sw.refl _).drewN _)).mono ?_;rintro e w1 ⟨rfl,t',ht,g⟩;have HG:Hid (∃t',(Ending.returned (.pointer (some ⟨b,0,none⟩)):Ending)=.returned (Tr.ptr t')/\Tg t L w t' w1):=⟨t',by rw[ht],g⟩;clear ht g CM;go_wp2_with fail;go_ret;exact HG.out
theorem balanced25_l{b c:Nat}{r ll lr:Tr}{k q:List UInt8}{v u:Cv}{x y:Nat}{w:World}(h:Nd b (.node c ll q u y lr) r k v x w)(few:ll.toL.length+lr.toL.length+r.toL.length<99999)(e2:(y:Int)-r.hi=2):
  Calls Tryz.prog 226 #[.pointer (some ⟨b,0,none⟩)] w fun e w'=>∃t',e=.returned t'.ptr/\Tg (.node b (.node c ll q u y lr) k v x r) ((ll.toL++(q,u)::lr.toL)++(k,v)::r.toL) w t' w':=by
 obtain⟨-,-,b2',b3',-⟩:=nd_cells h.ok.1;have bc:w.cell? ⟨b,6,none⟩=some (.pointer (some ⟨c,0,none⟩)):=b2';have bo:w.cell? ⟨b,7,none⟩=some r.ptr:=b3';clear b2' b3';obtain⟨-,-,c2,c3,-⟩:=nd_cells h.ok.2.1.1;have C1:Hid (∀W,Sw w W->Calls Tryz.prog 254 #[.pointer (some ⟨c,0,none⟩)] W fun e w'=>e=.returned (.int .i64 y)/\w'=W):=fun W hs=>high27 (.node c ll q u y lr) W (h.ok.2.1.sw hs);have C2:Hid (∀W,Sw w W->Calls Tryz.prog 254 #[r.ptr] W fun e w'=>e=.returned (.int .i64 r.hi)/\w'=W):=fun W hs=>high27 r W (h.ok.2.2.sw hs);have C3:Hid (∀W,Sw w W->Calls Tryz.prog 254 #[ll.ptr] W fun e w'=>e=.returned (.int .i64 ll.hi)/\w'=W):=fun W hs=>high27 ll W (h.ok.2.1.2.1.sw hs);have C4:Hid (∀W,Sw w W->Calls Tryz.prog 254 #[lr.ptr] W fun e w'=>e=.returned (.int .i64 lr.hi)/\w'=W):=fun W hs=>high27 lr W (h.ok.2.1.2.2.sw hs);obtain⟨hy0,hy1⟩:0<=(y:Int)/\(y:Int)<=1000000:=h.bl;obtain⟨hr0,hr1⟩:=h.br;obtain⟨-,hll,hlr⟩:=h.hl;have hoth:=h.hr;have q2:((y:Int)-r.hi==2)=true:=by simp;omega
 by_cases hlt:ll.hi<lr.hi
 ·obtain⟨d,dm,dq,du,dy,dr,hd⟩:=Hk.node (t:=lr) (by have:=hll.bounds;omega);have fb:=block_frozen h.ok.1 6;have CT:Hid (∀W,Sw w W->Calls Tryz.prog 255 #[.pointer (some ⟨c,0,none⟩)] W fun e w1=>e=.returned (.pointer (some ⟨d,0,none⟩))/\w1.cell? ⟨b,6,none⟩=some (.pointer (some ⟨c,0,none⟩))/\w1.frozen? ⟨b,6,none⟩=false/\Calls Tryz.prog 256 #[.pointer (some ⟨b,0,none⟩)] (w1.setCell ⟨b,6,none⟩ (.pointer (some ⟨d,0,none⟩))) fun e w2=>∃t',e=.returned t'.ptr/\Tg (.node b (.node c ll q u y lr) k v x r) ((ll.toL++(q,u)::lr.toL)++(k,v)::r.toL) w t' w2):=by
   subst hd;intro W hs;obtain⟨-,hdm,hdr⟩:=hlr;have hW:=h.sw hs;have hn:=hW.nd;have hnc:(Tr.node c ll q u y (.node d dm dq du dy dr)).blocks.Nodup/\b∉(Tr.node c ll q u y (.node d dm dq du dy dr)).blocks:=by have hn':=hn;rw[Tr.blocks,List.nodup_cons,List.mem_append,not_or,List.nodup_append]at hn';exact⟨hn'.2.1,hn'.1.1⟩
   refine(leftg hW.ok.2.1 hnc.1 hll hdm hdr (by simp only[Tr.toL,List.length_append,List.length_cons]at few;omega)).mono ?_;rintro e w1 ⟨x',y',rfl,g⟩;have hb1:w1.heap[b]?=W.heap[b]?:=g.kept.block b (Array.getElem?_eq_some_iff.1 hW.ok.1).1 hnc.2;have hk':=g.hk;obtain⟨o1,o2,o3,o4⟩:=Tg.setl hW.ok hn g;refine⟨rfl,?_,?_,?_⟩
   ·exact block_cell (hb1.trans hW.ok.1) rfl
   ·exact block_frozen (hb1.trans hW.ok.1) _
   ·refine(rightg o1 o2 hk'.2.1 hdr hoth (by simp only[Tr.toL,List.length_append,List.length_cons]at few|-;omega)).mono ?_;rintro e w2 ⟨x2,y2,rfl,g2⟩;exact⟨Tr.node d _ _ _ _ _,rfl,hs.tg (Tg.after o3 o4 ⟨g2.ok,g2.hk,g2.nd,by rw[g2.el];simp[Tr.toL],g2.sub,g2.kept⟩)⟩
  clear h hd hll hlr hoth few e2;generalize (ll.toL++(q,u)::lr.toL)++(k,v)::r.toL=L at*;generalize Tr.node b (.node c ll q u y lr) k v x r=t at*;generalize (y:Int)=yi at*;generalize r.ptr=op at*;generalize ll.ptr=llp at*;generalize lr.ptr=lrp at*;generalize r.hi=ho at*;generalize ll.hi=llh at*;generalize lr.hi=lrh at*;go_enter Tryz.func226,Tryz.ntmps226;go_wp2_with fail
  go_quiet (first|(go_at_call_of 254 (Value.pointer (some ⟨c,0,none⟩));exact Calls.quiet_of_same (C1.out _ ((Sw.refl _).drewN _)))|(go_at_call_of 254 (op);exact Calls.quiet_of_same (C2.out _ ((Sw.refl _).drewN _))))
  have HS:Hid (Sw w (w.drewN nq)):=(Sw.refl _).drewN _;have bc':(w.drewN nq).cell? ⟨b,6,none⟩=some (.pointer (some ⟨c,0,none⟩)):=bc;have c2':(w.drewN nq).cell? ⟨c,6,none⟩=some llp:=c2;have c3':(w.drewN nq).cell? ⟨c,7,none⟩=some lrp:=c3;generalize w.drewN nq=W at*;go_wp2_with fail
  go_quiet (first|(go_at_call_of 254 (llp);exact Calls.quiet_of_same (C3.out _ (HS.out.drewN _)))|(go_at_call_of 254 (lrp);exact Calls.quiet_of_same (C4.out _ (HS.out.drewN _))))
  go_wp2_with fail;refine(CT.out _ (HS.out.drewN _)).mono ?_;rintro e w1 ⟨rfl,d1,d2,d3⟩;have HG:Hid (Calls Tryz.prog 256 #[.pointer (some ⟨b,0,none⟩)] (w1.setCell ⟨b,6,none⟩ (.pointer (some ⟨d,0,none⟩))) fun e w2=>∃t',e=.returned t'.ptr/\Tg t L w t' w2):=d3;clear d3 CT C1 C2 C3 C4;go_wp2_with fail;refine HG.out.mono ?_;rintro e w2 ⟨t',rfl,g⟩;obtain⟨o,ho⟩:=t'.is_ptr;have HX:Hid (∃t',(Ending.returned (.pointer o):Ending)=.returned (Tr.ptr t')/\Tg t L w t' w2):=⟨t',by rw[ho],g⟩;rw[ho];clear g HG ho;go_wp2_with fail;go_ret;exact HX.out
 ·have CT:Hid (∀W,Sw w W->Calls Tryz.prog 256 #[.pointer (some ⟨b,0,none⟩)] W fun e w'=>∃t',e=.returned (.pointer (some ⟨c,0,none⟩))/\Tr.ptr t'=.pointer (some ⟨c,0,none⟩)/\Tg (.node b (.node c ll q u y lr) k v x r) ((ll.toL++(q,u)::lr.toL)++(k,v)::r.toL) w t' w'):=by intro W hs;have hW:=h.sw hs;refine(rightg hW.ok hW.nd hll hlr hoth (by omega)).mono ?_;rintro e w' ⟨x',y',rfl,g⟩;exact⟨_,rfl,rfl,hs.tg g⟩
  clear h hll hlr hoth few e2;generalize (ll.toL++(q,u)::lr.toL)++(k,v)::r.toL=L at*;generalize Tr.node b (.node c ll q u y lr) k v x r=t at*;generalize (y:Int)=yi at*;generalize r.ptr=op at*;generalize ll.ptr=llp at*;generalize lr.ptr=lrp at*;generalize r.hi=ho at*;generalize ll.hi=llh at*;generalize lr.hi=lrh at*;go_enter Tryz.func226,Tryz.ntmps226;go_wp2_with fail
  go_quiet (first|(go_at_call_of 254 (Value.pointer (some ⟨c,0,none⟩));exact Calls.quiet_of_same (C1.out _ ((Sw.refl _).drewN _)))|(go_at_call_of 254 (op);exact Calls.quiet_of_same (C2.out _ ((Sw.refl _).drewN _))))
  have HS:Hid (Sw w (w.drewN nq)):=(Sw.refl _).drewN _;have bc':(w.drewN nq).cell? ⟨b,6,none⟩=some (.pointer (some ⟨c,0,none⟩)):=bc;have c2':(w.drewN nq).cell? ⟨c,6,none⟩=some llp:=c2;have c3':(w.drewN nq).cell? ⟨c,7,none⟩=some lrp:=c3;generalize w.drewN nq=W at*;go_wp2_with fail
  go_quiet (first|(go_at_call_of 254 (llp);exact Calls.quiet_of_same (C3.out _ (HS.out.drewN _)))|(go_at_call_of 254 (lrp);exact Calls.quiet_of_same (C4.out _ (HS.out.drewN _))))
  go_wp2_with fail;refine(CT.out _ (HS.out.drewN _)).mono ?_;rintro e w1 ⟨t',rfl,ht,g⟩;have HX:Hid (∃t',(Ending.returned (.pointer (some ⟨c,0,none⟩)):Ending)=.returned (Tr.ptr t')/\Tg t L w t' w1):=⟨t',by rw[ht],g⟩;clear g ht CT;go_wp2_with fail;go_ret;exact HX.out
theorem balanced25_r{b c:Nat}{l ll lr:Tr}{k q:List UInt8}{v u:Cv}{x y:Nat}{w:World}(h:Nd b l (.node c ll q u y lr) k v x w)(few:l.toL.length+ll.toL.length+lr.toL.length<99999)(e2:l.hi-(y:Int)= -2):
  Calls Tryz.prog 226 #[.pointer (some ⟨b,0,none⟩)] w fun e w'=>∃t',e=.returned t'.ptr/\Tg (.node b l k v x (.node c ll q u y lr)) (l.toL++(k,v)::(ll.toL++(q,u)::lr.toL)) w t' w':=by
 obtain⟨-,-,b2',b3',-⟩:=nd_cells h.ok.1;have bc:w.cell? ⟨b,7,none⟩=some (.pointer (some ⟨c,0,none⟩)):=b3';have bo:w.cell? ⟨b,6,none⟩=some l.ptr:=b2';clear b2' b3';obtain⟨-,-,c2,c3,-⟩:=nd_cells h.ok.2.2.1;have C1:Hid (∀W,Sw w W->Calls Tryz.prog 254 #[.pointer (some ⟨c,0,none⟩)] W fun e w'=>e=.returned (.int .i64 y)/\w'=W):=fun W hs=>high27 (.node c ll q u y lr) W (h.ok.2.2.sw hs);have C2:Hid (∀W,Sw w W->Calls Tryz.prog 254 #[l.ptr] W fun e w'=>e=.returned (.int .i64 l.hi)/\w'=W):=fun W hs=>high27 l W (h.ok.2.1.sw hs);have C3:Hid (∀W,Sw w W->Calls Tryz.prog 254 #[ll.ptr] W fun e w'=>e=.returned (.int .i64 ll.hi)/\w'=W):=fun W hs=>high27 ll W (h.ok.2.2.2.1.sw hs);have C4:Hid (∀W,Sw w W->Calls Tryz.prog 254 #[lr.ptr] W fun e w'=>e=.returned (.int .i64 lr.hi)/\w'=W):=fun W hs=>high27 lr W (h.ok.2.2.2.2.sw hs);obtain⟨hy0,hy1⟩:0<=(y:Int)/\(y:Int)<=1000000:=h.br;obtain⟨hr0,hr1⟩:=h.bl;obtain⟨-,hll,hlr⟩:=h.hr;have hoth:=h.hl;have q2:(l.hi-(y:Int)== -2)=true:=by simp;omega
 by_cases hlt:lr.hi<ll.hi
 ·obtain⟨d,dm,dq,du,dy,dr,hd⟩:=Hk.node (t:=ll) (by have:=hlr.bounds;omega);have fb:=block_frozen h.ok.1 7;have CT:Hid (∀W,Sw w W->Calls Tryz.prog 256 #[.pointer (some ⟨c,0,none⟩)] W fun e w1=>e=.returned (.pointer (some ⟨d,0,none⟩))/\w1.cell? ⟨b,7,none⟩=some (.pointer (some ⟨c,0,none⟩))/\w1.frozen? ⟨b,7,none⟩=false/\Calls Tryz.prog 255 #[.pointer (some ⟨b,0,none⟩)] (w1.setCell ⟨b,7,none⟩ (.pointer (some ⟨d,0,none⟩))) fun e w2=>∃t',e=.returned t'.ptr/\Tg (.node b l k v x (.node c ll q u y lr)) (l.toL++(k,v)::(ll.toL++(q,u)::lr.toL)) w t' w2):=by
   subst hd;intro W hs;obtain⟨-,hdm,hdr⟩:=hll;have hW:=h.sw hs;have hn:=hW.nd;have hnc:(Tr.node c (.node d dm dq du dy dr) q u y lr).blocks.Nodup/\b∉(Tr.node c (.node d dm dq du dy dr) q u y lr).blocks:=by have hn':=hn;rw[Tr.blocks,List.nodup_cons,List.mem_append,not_or,List.nodup_append]at hn';exact⟨hn'.2.2.1,hn'.1.2⟩
   refine(rightg hW.ok.2.2 hnc.1 hdm hdr hlr (by simp only[Tr.toL,List.length_append,List.length_cons]at few;omega)).mono ?_;rintro e w1 ⟨x',y',rfl,g⟩;have hb1:w1.heap[b]?=W.heap[b]?:=g.kept.block b (Array.getElem?_eq_some_iff.1 hW.ok.1).1 hnc.2;have hk':=g.hk;obtain⟨o1,o2,o3,o4⟩:=Tg.setr hW.ok hn g;refine⟨rfl,?_,?_,?_⟩
   ·exact block_cell (hb1.trans hW.ok.1) rfl
   ·exact block_frozen (hb1.trans hW.ok.1) _
   ·refine(leftg o1 o2 hoth hdm hk'.2.2 (by simp only[Tr.toL,List.length_append,List.length_cons]at few|-;omega)).mono ?_;rintro e w2 ⟨x2,y2,rfl,g2⟩;exact⟨Tr.node d _ _ _ _ _,rfl,hs.tg (Tg.after o3 o4 ⟨g2.ok,g2.hk,g2.nd,by rw[g2.el];simp[Tr.toL],g2.sub,g2.kept⟩)⟩
  clear h hd hll hlr hoth few e2;generalize l.toL++(k,v)::(ll.toL++(q,u)::lr.toL)=L at*;generalize Tr.node b l k v x (.node c ll q u y lr)=t at*;generalize (y:Int)=yi at*;generalize l.ptr=op at*;generalize ll.ptr=llp at*;generalize lr.ptr=lrp at*;generalize l.hi=ho at*;generalize ll.hi=llh at*;generalize lr.hi=lrh at*;go_enter Tryz.func226,Tryz.ntmps226;go_wp2_with fail
  go_quiet (first|(go_at_call_of 254 (Value.pointer (some ⟨c,0,none⟩));exact Calls.quiet_of_same (C1.out _ ((Sw.refl _).drewN _)))|(go_at_call_of 254 (op);exact Calls.quiet_of_same (C2.out _ ((Sw.refl _).drewN _))))
  have HS:Hid (Sw w (w.drewN nq)):=(Sw.refl _).drewN _;have bc':(w.drewN nq).cell? ⟨b,7,none⟩=some (.pointer (some ⟨c,0,none⟩)):=bc;have c2':(w.drewN nq).cell? ⟨c,6,none⟩=some llp:=c2;have c3':(w.drewN nq).cell? ⟨c,7,none⟩=some lrp:=c3;generalize w.drewN nq=W at*;go_wp2_with fail
  go_quiet (first|(go_at_call_of 254 (llp);exact Calls.quiet_of_same (C3.out _ (HS.out.drewN _)))|(go_at_call_of 254 (lrp);exact Calls.quiet_of_same (C4.out _ (HS.out.drewN _))))
  go_wp2_with fail;refine(CT.out _ (HS.out.drewN _)).mono ?_;rintro e w1 ⟨rfl,d1,d2,d3⟩;have HG:Hid (Calls Tryz.prog 255 #[.pointer (some ⟨b,0,none⟩)] (w1.setCell ⟨b,7,none⟩ (.pointer (some ⟨d,0,none⟩))) fun e w2=>∃t',e=.returned t'.ptr/\Tg t L w t' w2):=d3;clear d3 CT C1 C2 C3 C4;go_wp2_with fail;refine HG.out.mono ?_;rintro e w2 ⟨t',rfl,g⟩;obtain⟨o,ho⟩:=t'.is_ptr;have HX:Hid (∃t',(Ending.returned (.pointer o):Ending)=.returned (Tr.ptr t')/\Tg t L w t' w2):=⟨t',by rw[ho],g⟩;rw[ho];clear g HG ho;go_wp2_with fail;go_ret;exact HX.out
 ·have CT:Hid (∀W,Sw w W->Calls Tryz.prog 255 #[.pointer (some ⟨b,0,none⟩)] W fun e w'=>∃t',e=.returned (.pointer (some ⟨c,0,none⟩))/\Tr.ptr t'=.pointer (some ⟨c,0,none⟩)/\Tg (.node b l k v x (.node c ll q u y lr)) (l.toL++(k,v)::(ll.toL++(q,u)::lr.toL)) w t' w'):=by intro W hs;have hW:=h.sw hs;refine(leftg hW.ok hW.nd hoth hll hlr (by omega)).mono ?_;rintro e w' ⟨x',y',rfl,g⟩;exact⟨_,rfl,rfl,hs.tg g⟩
  clear h hll hlr hoth few e2;generalize l.toL++(k,v)::(ll.toL++(q,u)::lr.toL)=L at*;generalize Tr.node b l k v x (.node c ll q u y lr)=t at*;generalize (y:Int)=yi at*;generalize l.ptr=op at*;generalize ll.ptr=llp at*;generalize lr.ptr=lrp at*;generalize l.hi=ho at*;generalize ll.hi=llh at*;generalize lr.hi=lrh at*;go_enter Tryz.func226,Tryz.ntmps226;go_wp2_with fail
  go_quiet (first|(go_at_call_of 254 (Value.pointer (some ⟨c,0,none⟩));exact Calls.quiet_of_same (C1.out _ ((Sw.refl _).drewN _)))|(go_at_call_of 254 (op);exact Calls.quiet_of_same (C2.out _ ((Sw.refl _).drewN _))))
  have HS:Hid (Sw w (w.drewN nq)):=(Sw.refl _).drewN _;have bc':(w.drewN nq).cell? ⟨b,7,none⟩=some (.pointer (some ⟨c,0,none⟩)):=bc;have c2':(w.drewN nq).cell? ⟨c,6,none⟩=some llp:=c2;have c3':(w.drewN nq).cell? ⟨c,7,none⟩=some lrp:=c3;generalize w.drewN nq=W at*;go_wp2_with fail
  go_quiet (first|(go_at_call_of 254 (llp);exact Calls.quiet_of_same (C3.out _ (HS.out.drewN _)))|(go_at_call_of 254 (lrp);exact Calls.quiet_of_same (C4.out _ (HS.out.drewN _))))
  go_wp2_with fail;refine(CT.out _ (HS.out.drewN _)).mono ?_;rintro e w1 ⟨t',rfl,ht,g⟩;have HX:Hid (∃t',(Ending.returned (.pointer (some ⟨c,0,none⟩)):Ending)=.returned (Tr.ptr t')/\Tg t L w t' w1):=⟨t',by rw[ht],g⟩;clear g ht CT;go_wp2_with fail;go_ret;exact HX.out
theorem balanced25{b:Nat}{l r:Tr}{k:List UInt8}{v:Cv}{x:Nat}{w:World}(h:Nd b l r k v x w)(few:l.toL.length+r.toL.length<100000):
  Calls Tryz.prog 226 #[.pointer (some ⟨b,0,none⟩)] w fun e w'=>∃t',e=.returned t'.ptr/\Tg (.node b l k v x r) (l.toL++(k,v)::r.toL) w t' w':=by
 by_cases e2:l.hi-r.hi=2
 ·obtain⟨c,ll,q,u,y,lr,rfl⟩:=Hk.node (t:=l) (by have:=h.br;omega);exact balanced25_l h (by simp only[Tr.toL,List.length_append,List.length_cons]at few;omega) e2
 ·by_cases e3:l.hi-r.hi= -2
  ·obtain⟨c,ll,q,u,y,lr,rfl⟩:=Hk.node (t:=r) (by have:=h.bl;omega);exact balanced25_r h (by simp only[Tr.toL,List.length_append,List.length_cons]at few;omega) e3
  ·exact balanced25_no h e2 e3
def onJump(J:Nat->Act->World->Prop)(Q:Exit->Act->World->Prop):Exit->Act->World->Prop
 |.goto l,a,w=>J l a w
 |e,a,w=>Q e a w
theorem scope_labels{P:Program}{a:Act}{w:World}{Q:Exit->Act->World->Prop}{c:Code}(J:Nat->Act->World->Prop)(μ:Nat->Act->World->Nat)
  (pass:∀l a w,J l a w->∃rest,findLabel c l=some (Code.skip.seq rest)/\rest.wp P (onJump (fun l' a' w'=>J l' a' w'/\μ l' a' w'<μ l a w) Q) a w)
  (first:(∀l a w rest,findLabel c l=some (Code.skip.seq rest)->J l a w->rest.wp P (onJump J Q) a w)->c.wp P (onJump J Q) a w):(Code.scope c).wp P Q a w:=by
 have first:=first (fun l a w rest hr hJ=>by
  obtain⟨r,hr',hwp⟩:=pass l a w hJ;rw[hr]at hr';injection hr' with hr';injection hr' with _ hr';subst hr';refine Code.wp_mono ?_ hwp;intro e a1 w1 hq;cases e with
  |goto l'=>exact hq.1
  |normal=>exact hq
  |exit id=>exact hq
  |ret=>exact hq
  |panic ch=>exact hq
  |outgrown=>exact hq)
 intro b k cs;have key:∀n l a w rest,findLabel c l=some rest->μ l a w=n->J l a w->∃e a' w',Q e a' w'/\Arrives P (lone (b.at a (.code rest:: .inScope c::k)) cs w) b k cs e a' w':=by
  intro n;induction n using Nat.strongRecOn with
  |ind n ih=>
   intro l a w rest hr hn hJ;obtain⟨rest',hr',hwp⟩:=pass l a w hJ;rw[hr]at hr';injection hr' with hr';subst hr';have hwp2:(Code.skip.seq rest').wp P (onJump (fun l' a' w'=>J l' a' w'/\μ l' a' w'<μ l a w) Q) a w:=wp_seq (wp_skip hwp);obtain⟨e,a1,w1,hq,harr⟩:=hwp2 b (.inScope c::k) cs;cases e with
   |normal=>exact⟨.normal,a1,w1,hq,Steps.trans harr (.one step_inScope)⟩
   |exit id=>exact⟨.exit id,a1,w1,hq,fun k' hk=>harr k' (by simp[exitTo,hk])⟩
   |goto l'=>
    obtain⟨hJ',hlt⟩:=hq;obtain⟨r2,hr2,_⟩:=pass l' a1 w1 hJ';obtain⟨e2,a2,w2,hq2,harr2⟩:=ih _ (by omega) l' a1 w1 _ hr2 rfl hJ';exact⟨e2,a2,w2,hq2,.of_steps (harr _ (by simp[gotoIn,hr2])) harr2⟩
   |ret=>exact⟨_,a1,w1,hq,harr⟩
   |panic ch=>exact⟨_,a1,w1,hq,harr⟩
   |outgrown=>exact⟨_,a1,w1,hq,harr⟩
 obtain⟨e,a1,w1,hq,harr⟩:=first b (.inScope c::k) cs
 cases e with
 |normal=>exact⟨.normal,a1,w1,hq,.head step_scope (Steps.trans harr (.one step_inScope))⟩
 |exit id=>exact⟨.exit id,a1,w1,hq,fun k' hk=>.head step_scope (harr k' (by simp[exitTo,hk]))⟩
 |goto l'=>
  obtain⟨r2,hr2,_⟩:=pass l' a1 w1 hq;obtain⟨e2,a2,w2,hq2,harr2⟩:=key _ l' a1 w1 _ hr2 rfl hq;exact⟨e2,a2,w2,hq2,.of_steps (.head step_scope (harr _ (by simp[gotoIn,hr2]))) harr2⟩
 |ret=>exact⟨_,a1,w1,hq,.of_steps (.one step_scope) harr⟩
 |panic ch=>exact⟨_,a1,w1,hq,.of_steps (.one step_scope) harr⟩
 |outgrown=>exact⟨_,a1,w1,hq,.of_steps (.one step_scope) harr⟩
def AtLook(p:Nat)(key:List UInt8)(o:Value)(a:Act):Prop:=
 ∃u6 u7 u8 u9 u10 u11 u12 u13 u14 u15 u16 u17 u18 u19 u20 u21 u22 u23 u24 u25 u26 u27 u28 u29 u30 u31 u32 u33 u34 u35 u36:Value,a={tmps:=#[pz p,sd key,undef,undef,.pointer none,o,u6,u7,u8,u9,u10,u11,u12,u13,u14,u15,u16,u17,u18,u19,u20,u21,u22,u23,u24,u25,u26,u27,u28,u29,u30,u31,u32,u33,u34,u35,u36],defers:=[]}
theorem atLook{p:Nat}{key:List UInt8}{o:Value}{u6 u7 u8 u9 u10 u11 u12 u13 u14 u15 u16 u17 u18 u19 u20 u21 u22 u23 u24 u25 u26 u27 u28 u29 u30 u31 u32 u33 u34 u35 u36:Value}:AtLook p key o {tmps:=#[pz p,sd key,undef,undef,.pointer none,o,u6,u7,u8,u9,u10,u11,u12,u13,u14,u15,u16,u17,u18,u19,u20,u21,u22,u23,u24,u25,u26,u27,u28,u29,u30,u31,u32,u33,u34,u35,u36],defers:=[]}:=
 ⟨u6,u7,u8,u9,u10,u11,u12,u13,u14,u15,u16,u17,u18,u19,u20,u21,u22,u23,u24,u25,u26,u27,u28,u29,u30,u31,u32,u33,u34,u35,u36,rfl⟩
def ptrO:Option Nat->Value
 |none=>.pointer none
 |some b=>.pointer (some ⟨b,0,none⟩)
theorem find20(p:Nat)(key:List UInt8)(t:Tr)(w:World)(h0:w.cell? ⟨p,0,none⟩=some t.ptr)(ht:TrAt nl t w):
  Calls Tryz.prog 192 #[pz p,sd key] w fun e w'=>e=.returned (ptrO (findT key t))/\w'=w:=by
 obtain⟨szAt,szAt_eq⟩:=szAt_ex;have HSz:Hid (∀{w:World} {s:Tr},TrAt nl s w->szAt w s.ptr=s.size):=szAt_eq;clear szAt_eq;have HT:Hid (TrAt nl t w):=ht;obtain⟨y,hy⟩:=xj (findT key t);rw[hy];have HY:Hid (findT key t=y):=hy;clear ht hy;go_enter Tryz.func192,Tryz.ntmps192;go_wp2;refine scope_labels (fun l a' w'=>w'=w/\l=0/\∃sp,AtLook p key sp a'/\∃s,TrAt nl s w/\findT key s=y/\s.ptr=sp) (fun _ a' _=>szAt w (a'.tmps.getD 5 undef)) ?_ ?_
 ·rintro l a' w' ⟨rfl,rfl,sp,hat,s,hs,hf,rfl⟩;obtain⟨u6,u7,u8,u9,u10,u11,u12,u13,u14,u15,u16,u17,u18,u19,u20,u21,u22,u23,u24,u25,u26,u27,u28,u29,u30,u31,u32,u33,u34,u35,u36,rfl⟩:=hat;refine⟨_,rfl,?_⟩;clear HT HY h0;cases s using Tr.cas with
  |nil=>
   have hy:none=y:=hf;subst hy;simp only[Tr.ptr];clear hs hf;go_wp2;simp only[onJump];go_ret;exact⟨rfl,rfl⟩
  |node c l q u x r=>
   obtain⟨c0,-,c2,c3,-⟩:=nd_cells hs.1;have q0:=bs_beq q key;have q1:=bl key q;simp only[Tr.ptr];by_cases hq:q=key
   ·have hy:some c=y:=by rw[<-hf];simp[findT,hq,ltK_irrefl]
    subst hy;have hq':(q==key)=true:=by simp[hq]
    rw[hq']at q0;clear hs hf hq hq' c2 c3 q1;go_wp2;simp only[onJump];go_ret;exact⟨rfl,rfl⟩
   ·have hq':(q==key)=false:=by simp[hq]
    rw[hq']at q0;by_cases h1:ltK key q=true
    ·rw[h1]at q1;have HN:Hid (TrAt nl l w'/\findT key l=y):=⟨hs.2.1,by rw[<-hf];simp[findT,h1]⟩;have HM:Hid (szAt w' l.ptr<szAt w' (pz c)):=by have e1:=HSz.out hs.2.1;have e2:szAt w' (pz c)=_:=HSz.out hs;show _<_;rw[e1,e2];simp only[Tr.size];omega
     obtain⟨sp,hsp⟩:=xj l.ptr;have HJ:Hid (∃s,TrAt nl s w'/\findT key s=y/\s.ptr=sp):=⟨l,HN.out.1,HN.out.2,hsp⟩;rw[hsp]at HM c2;clear hs hf HN hsp;go_wp2_with fail
     go_step3
     exact⟨⟨rfl,rfl,sp,atLook,HJ.out⟩,HM.out⟩
    ·have h1':ltK key q=false:=by simpa using h1
     have h2:ltK q key=true:=by
      cases e:ltK q key
      ·exact absurd (ltK_tri e h1') hq
      ·rfl
     rw[h1']at q1;have HN:Hid (TrAt nl r w'/\findT key r=y):=⟨hs.2.2,by rw[<-hf];simp[findT,h1',h2]⟩;have HM:Hid (szAt w' r.ptr<szAt w' (pz c)):=by have e1:=HSz.out hs.2.2;have e2:szAt w' (pz c)=_:=HSz.out hs;show _<_;rw[e1,e2];simp only[Tr.size];omega
     obtain⟨sp,hsp⟩:=xj r.ptr;have HJ:Hid (∃s,TrAt nl s w'/\findT key s=y/\s.ptr=sp):=⟨r,HN.out.1,HN.out.2,hsp⟩;rw[hsp]at HM c3;clear hs hf HN hsp;go_wp2_with fail
     go_step3
     exact⟨⟨rfl,rfl,sp,atLook,HJ.out⟩,HM.out⟩
 ·intro hp;obtain⟨tp,htp⟩:=xj t.ptr;have HX:Hid _:=hp;have HJ:Hid (∃s,TrAt nl s w/\findT key s=y/\s.ptr=tp):=⟨t,HT.out,HY.out,htp⟩;rw[htp]at h0;clear HT HY hp htp;go_wp2
  go_step3
  rename_i Z hZ;refine hZ _ _ ?_;exact HX.out 0 _ _ _ rfl ⟨rfl,rfl,tp,atLook,HJ.out⟩
theorem first26{b:Nat}{l r:Tr}{k:List UInt8}{v:Cv}{x:Nat}{w:World}(h:TrAt nl (.node b l k v x r) w):
  Calls Tryz.prog 236 #[pz b] w fun e w'=>∃c q u y m s,e=.returned (pz c)/\w'=w/\w.heap[c]?=some (.cells (nl.cells q u y m s) nl.ty (0,0))/\c∈(Tr.node b l k v x r).blocks/\∃R,(Tr.node b l k v x r).toL=(q,u)::R:=by
 obtain⟨szAt,szAt_eq⟩:=szAt_ex;have HSz:Hid (∀{w:World} {s:Tr},TrAt nl s w->szAt w s.ptr=s.size):=szAt_eq;clear szAt_eq;have HT:Hid (TrAt nl (.node b l k v x r) w):=h;have HB:Hid (TrAt nl (.node b l k v x r) w->∃c m q u y s,(Value.pointer (some ⟨b,0,none⟩):Value)=.pointer (some ⟨c,0,none⟩)/\TrAt nl (.node c m q u y s) w/\(∀i∈(Tr.node c m q u y s).blocks,i∈(Tr.node b l k v x r).blocks)/\∃R,(Tr.node b l k v x r).toL=(Tr.node c m q u y s).toL++R):=fun h=>⟨b,l,k,v,x,r,rfl,h,fun _ hi=>hi,[],by simp⟩;clear h;generalize Tr.node b l k v x r=t at*;go_enter Tryz.func236,Tryz.ntmps236;go_wp2_with fail;go_loopw [0] (fun n wr=>wr=w/\∃c m q u y s,n=.pointer (some ⟨c,0,none⟩)/\TrAt nl (.node c m q u y s) w/\(∀i∈(Tr.node c m q u y s).blocks,i∈t.blocks)/\∃R,t.toL=(Tr.node c m q u y s).toL++R) (fun n _=>szAt w n)
 case atStart=>exact⟨rfl,HB.out HT.out⟩
 case round=>
  obtain⟨rfl,c,m,q,u,y,s,rfl,hc,hbl,R,hR⟩:=hrel;cases m using Tr.cas with
  |nil=>
   obtain⟨-,-,c2,-,-⟩:=nd_cells hc.1;have HR:Hid (wr.heap[c]?=some (.cells (nl.cells q u y (Tr.ptr .nil) s.ptr) nl.ty (0,0))/\c∈t.blocks/\∃R,t.toL=(q,u)::R):=⟨hc.1,hbl c (by simp[Tr.blocks]),s.toL++R,by rw[hR];simp[Tr.toL]⟩;simp only[Tr.ptr]at c2;clear hc hbl hR HB HT;go_wp2_with fail;go_ret;exact⟨c,q,u,y,_,_,rfl,rfl,HR.out⟩
  |node c' m' q' u' y' s'=>
   obtain⟨-,-,c2,-,-⟩:=nd_cells hc.1;have HR:Hid (∃c m q u y s,(Value.pointer (some ⟨c',0,none⟩):Value)=.pointer (some ⟨c,0,none⟩)/\TrAt nl (.node c m q u y s) wr/\(∀i∈(Tr.node c m q u y s).blocks,i∈t.blocks)/\∃R,t.toL=(Tr.node c m q u y s).toL++R):=
    ⟨c',m',q',u',y',s',rfl,hc.2.1,fun i hi=>hbl i (by simp only[Tr.blocks,List.mem_cons,List.mem_append]at hi|-;exact .inr (.inl hi)),(q,u)::s.toL++R,by rw[hR];simp[Tr.toL]⟩
   have HM:Hid (szAt wr (pz c')<szAt wr (pz c)):=by have e1:=HSz.out hc.2.1;have e2:=HSz.out hc;simp only[Tr.ptr]at e1 e2;show _<_;rw[e1,e2];simp only[Tr.size];omega
   simp only[Tr.ptr]at c2;clear hc hbl hR HB HT;go_wp2_with fail;go_roundw
   case rel=>exact⟨trivial,HR.out⟩
   case measure=>exact HM.out
theorem range_len(lo hi:List UInt8)(L:Kv Cv):(rangeF lo hi L).length<=L.length:=by unfold rangeF;exact Nat.le_trans (List.length_filter_le _ _) (by simp)
theorem cut_none{k:List UInt8}:∀{L:Kv Cv},getF k L=none->cutF k L=L
 |[],_=>rfl
 |(a,v)::r,h=>by
  unfold getF at h;split at h
  ·cases h
  ·rename_i e;unfold cutF;rw[if_neg e,cut_none h]
def gatF(lim:Nat)(K A:List (List UInt8)):List (List UInt8):=K++A.take (lim-K.length)
theorem gat_nil(lim:Nat)(K:List (List UInt8)):gatF lim K []=K:=by simp[gatF]
theorem gat_full{lim:Nat}{K:List (List UInt8)}(h:lim<=K.length)(A:List (List UInt8)):gatF lim K A=K:=by unfold gatF;rw[show lim-K.length=0 by omega];simp
theorem gat_append(lim:Nat)(K A C:List (List UInt8)):gatF lim K (A++C)=gatF lim (gatF lim K A) C:=by unfold gatF;rw[List.take_append,List.append_assoc,List.length_append,List.length_take];congr 3;omega
theorem gat_one(lim:Nat)(K:List (List UInt8))(k:List UInt8):gatF lim K [k]=if K.length<lim then K++[k]else K:=by
 by_cases h:K.length<lim
 ·rw[if_pos h];unfold gatF;obtain⟨n,hn⟩:∃n,lim-K.length=n+1:=⟨lim-K.length-1,by omega⟩;rw[hn];simp
 ·rw[if_neg h];exact gat_full (by omega) _
theorem gat_len(lim:Nat)(K A:List (List UInt8)):(gatF lim K A).length<=K.length+A.length:=by unfold gatF;rw[List.length_append,List.length_take];omega
theorem gat_start(lo hi:List UInt8)(limit:Int)(L:Kv Cv):gatF limit.toNat [] (rangeF lo hi L)=keysF lo hi limit L:=by simp[gatF,keysF]
theorem below_lo{lo hi:List UInt8}{A R:Kv Cv}{k:List UInt8}{u:Cv}(hs:Srt (A++(k,u)::R))(h:ltK lo k=false):rangeF lo hi A=[]:=by obtain⟨_,_,h1,_⟩:=srt_parts hs;refine range_none fun x hx=>?_;have:=ltK_le2 (h1 x hx) h;simp[inR,this]
theorem above_hi{lo hi:List UInt8}{A R:Kv Cv}{k:List UInt8}{u:Cv}(hs:Srt (A++(k,u)::R))(h0:hi.isEmpty=false)(h:ltK k hi=false):rangeF lo hi ((k,u)::R)=[]:=by
 obtain⟨_,_,_,h2⟩:=srt_parts hs;refine range_none fun x hx=>?_;have hx':ltK x.1 hi=false:=by
  rcases List.mem_cons.1 hx with rfl|hx
  ·exact h
  ·cases e:ltK x.1 hi
   ·rfl
   ·exact absurd (ltK_trans (h2 x hx) e) (by simp[h])
 simp only[inR,h0,hx',Bool.or_false,Bool.and_false]
theorem gat_stop{lo hi:List UInt8}{A R:Kv Cv}{k:List UInt8}{u:Cv}{lim:Nat}{K:List (List UInt8)}(hs:Srt (A++(k,u)::R))(h0:hi.isEmpty=false)(h:ltK k hi=false):gatF lim K (rangeF lo hi (A++(k,u)::R))=gatF lim K (rangeF lo hi A):=by rw[range_append,above_hi hs h0 h,List.append_nil]
theorem gat_on{lo hi:List UInt8}{A R:Kv Cv}{k:List UInt8}{u:Cv}{lim:Nat}{K:List (List UInt8)}(h:(hi.isEmpty||ltK k hi)=true):
  gatF lim K (rangeF lo hi (A++(k,u)::R))=gatF lim (if ltK k lo=false/\(gatF lim K (rangeF lo hi A)).length<lim then gatF lim K (rangeF lo hi A)++[k]else gatF lim K (rangeF lo hi A)) (rangeF lo hi R):=by
 rw[range_append,range_cons,gat_append];cases h1:ltK k lo
 ·rw[if_pos (by simp only[inR,h1,h];rfl),show k::rangeF lo hi R=[k]++rangeF lo hi R from rfl,gat_append,gat_one];simp
 ·rw[if_neg (by simp[inR,h1])];simp
theorem TrAt.below{Y:Lay}{t:Tr}{B:Nat}{w w':World}(h:TrAt Y t w)(hb:Below B w w')(hB:∀b∈t.blocks,b<B):TrAt Y t w':=TrAt.kept (Kept.of_below' hb) h (fun b hb' e=>by have:=hB b hb';omega)
theorem gather24(B:Nat)(lo hi:List UInt8)(limit:Int)(t:Tr):∀(K:List (List UInt8)) (vs:Value) (w:World),TrAt nl t w->(∀b∈t.blocks,b<B)->Srt t.toL->B<=w.heap.size->w.ownsRow B 9 1 vs K.length (kc K)->K.length+t.toL.length<1000000->
  Calls Tryz.prog 106 #[t.ptr,vs,sd lo,sd hi,iw limit] w fun e w'=>∃v',e=.returned v'/\w'.ownsRow B 9 1 v' (gatF limit.toNat K (rangeF lo hi t.toL)).length (kc (gatF limit.toNat K (rangeF lo hi t.toL)))/\Below B w w':=by
 obtain⟨i0,hin,hi0,hi1,hi2⟩:=info_parts info9;induction t using Tr.ind with
 |nil=>
  intro K vs w _ _ _ _ ho _;obtain⟨sa,sc,rfl,-,-,-,-⟩:=rw_own ho;have HO:Hid _:=ho;clear ho hin hi0 hi1 hi2;simp only[Tr.toL,rangeF,List.map_nil,List.filter_nil,gat_nil,Tr.ptr];go_enter Tryz.func106,Tryz.ntmps106;go_wp2_with fail;go_ret;exact⟨_,rfl,HO.out,Below.refl _ _⟩
 |node b l k u x r ihl ihr=>
  intro K vs w ha hB hs hBw ho hf;obtain⟨sa,sc,rfl,-,-,-,-⟩:=rw_own ho;by_cases hroom:limit<=K.length
  ·have HX:Hid (gatF limit.toNat K (rangeF lo hi (Tr.node b l k u x r).toL)=K):=gat_full (by omega) _;rw[HX.out];have HO:Hid _:=ho;clear ho HX ha hB hs hBw hf ihl ihr hin hi0 hi1 hi2;simp only[Tr.ptr];go_enter Tryz.func106,Tryz.ntmps106;go_wp2_with fail;go_ret;exact⟨_,rfl,HO.out,Below.refl _ _⟩
  ·obtain⟨hs1,hs2,_,_⟩:=srt_parts hs;have hf':=hf;simp only[Tr.toL,List.length_append,List.length_cons]at hf';have hr':¬limit<=(K.length:Int):=by omega
   obtain⟨c0,-,c2,-,-⟩:=nd_cells ha.1;have q1:=bl lo k;have q2:=bl k lo;have q3:=bl k hi;have q4:(bs hi).toList.isEmpty=hi.isEmpty:=by rw[bs_list]
   have HA:Hid (∀w',Below B w w'->TrAt nl (.node b l k u x r) w'):=fun w' hb=>ha.below hb hB;have CL:Hid (1=1->Calls Tryz.prog 106 #[l.ptr,.slice sa K.length sc,sd lo,sd hi,iw limit] w fun e w'=>∃v',e=.returned v'/\w'.ownsRow B 9 1 v' (gatF limit.toNat K (rangeF lo hi l.toL)).length (kc (gatF limit.toNat K (rangeF lo hi l.toL)))/\Below B w w'):=
    fun _=>ihl K _ w ha.2.1 (fun i hi=>hB i (by simp[Tr.blocks,hi])) hs1 hBw ho (by omega)
   have CR:Hid (∀(K2:List (List UInt8)) (v2:Value) (w2:World),Below B w w2->w2.ownsRow B 9 1 v2 K2.length (kc K2)->K2.length+r.toL.length<1000000->Calls Tryz.prog 106 #[r.ptr,v2,sd lo,sd hi,iw limit] w2 fun e w'=>∃v',e=.returned v'/\w'.ownsRow B 9 1 v' (gatF limit.toNat K2 (rangeF lo hi r.toL)).length (kc (gatF limit.toNat K2 (rangeF lo hi r.toL)))/\Below B w2 w'):=
    fun K2 v2 w2 hb ho2 hf2=>ihr K2 v2 w2 (HA.out w2 hb).2.2 (fun i hi=>hB i (by simp[Tr.blocks,hi])) hs2 (Nat.le_trans hBw hb.size) ho2 hf2
   have HZ1:Hid (ltK lo k=false->gatF limit.toNat K (rangeF lo hi l.toL)=K):=fun h=>by rw[below_lo hs h,gat_nil]
   have HZ2:Hid (hi.isEmpty=false->ltK k hi=false->gatF limit.toNat K (rangeF lo hi (Tr.node b l k u x r).toL)=gatF limit.toNat K (rangeF lo hi l.toL)):=fun h0 h=>gat_stop hs h0 h;have HZ3:Hid ((hi.isEmpty||ltK k hi)=true->gatF limit.toNat K (rangeF lo hi (Tr.node b l k u x r).toL)=gatF limit.toNat (if ltK k lo=false/\(gatF limit.toNat K (rangeF lo hi l.toL)).length<limit.toNat then gatF limit.toNat K (rangeF lo hi l.toL)++[k]else gatF limit.toNat K (rangeF lo hi l.toL)) (rangeF lo hi r.toL)):=fun h=>gat_on h;have HO:Hid (w.ownsRow B 9 1 (.slice sa K.length sc) K.length (kc K)):=ho;have HF:Hid ((gatF limit.toNat K (rangeF lo hi l.toL)).length+1+r.toL.length<1000000):=by have:=gat_len limit.toNat K (rangeF lo hi l.toL);have:=range_len lo hi l.toL;show _<_;omega
   clear ihl ihr ha hB hs hf hs1 hs2 hf' ho hroom;generalize gatF limit.toNat K (rangeF lo hi (Tr.node b l k u x r).toL)=Y at*;generalize gatF limit.toNat K (rangeF lo hi l.toL)=K1 at*;obtain⟨lp,hlp⟩:=xj l.ptr;rw[hlp]at c2 CL;clear hlp;simp only[Tr.ptr];generalize ltK lo k=z1 at*;generalize ltK k lo=z2 at*;generalize ltK k hi=z3 at*;generalize hi.isEmpty=z4 at*;go_enter Tryz.func106,Tryz.ntmps106;go_upto_if 25 with fail
   go_cut [1] (fun v wc=>∃sa sc,v=.slice sa K1.length sc/\Hid (wc.ownsRow B 9 1 v K1.length (kc K1)/\Below B w wc))
   case first=>
    cases z1
    ·have h1:=HZ1.out rfl;subst h1;go_wp2_with fail;go_meet;exact⟨sa,sc,rfl,HO.out,Below.refl _ _⟩
    ·go_wp2_with fail;refine(CL.out (by trivial)).mono ?_;rintro e w1 ⟨v1,rfl,ho1,hb1⟩;obtain⟨sa1,sc1,rfl,-,-,-,-⟩:=rw_own ho1;have H1:Hid _:=And.intro ho1 hb1;clear ho1 hb1;go_wp2_with fail;go_meet;exact⟨sa1,sc1,rfl,H1.out⟩
   case rest=>
    obtain⟨sa1,sc1,rfl,H1⟩:=hcut;obtain⟨d0,-,-,-,-⟩:=nd_cells (HA.out wc H1.out.2).1;obtain⟨rp,hrp⟩:=xj r.ptr;have HR:Hid (∀w',Below B w w'->ce w' b 7 rp):=fun w' hb=>by rw[<-hrp];exact(nd_cells (HA.out w' hb).1).2.2.2.1
    rw[hrp]at CR;clear hrp c0 c2 CL HO HZ1 HA;by_cases hstop:z4=false/\z3=false
    ·obtain⟨rfl,rfl⟩:=hstop;have h:=HZ2.out rfl rfl;subst h;go_wp2_with fail;go_ret;exact⟨_,rfl,H1.out⟩
    ·have HY:Hid _:=HZ3.out (by cases z4<;>cases z3<;>simp at hstop|-);have harms:z4=true\/z4=false/\z3=true:=by cases z4<;>cases z3<;>simp at hstop|-
     clear hstop HZ2 HZ3;have CC:Hid (∀(K2:List (List UInt8)) (v2:Value) (w2:World),K2=(if z2=false/\K1.length<limit.toNat then K1++[k]else K1)->w2.ownsRow B 9 1 v2 K2.length (kc K2)->Below B w w2->Calls Tryz.prog 106 #[rp,v2,sd lo,sd hi,iw limit] w2 fun e w'=>∃v',e=.returned v'/\w'.ownsRow B 9 1 v' Y.length (kc Y)/\Below B w w'):=fun K2 v2 w2 hK2 ho hb=>by
      have hl2:K2.length+r.toL.length<1000000:=by have:=HF.out;rw[hK2];split<;>simp<;>omega
      refine(CR.out K2 _ _ hb ho hl2).mono ?_;rintro e w' ⟨v',rfl,ho',hb'⟩;rw[HY.out,<-hK2];exact⟨v',rfl,ho',hb.trans hb'⟩
     clear CR HY;rcases harms with rfl|⟨rfl,rfl⟩
     all_goals
      cases z2
      ·by_cases hlt:(K1.length:Int)<limit
       ·have HOw:Hid (Ow B 9 1 (.slice sa1 K1.length sc1) K1.length (kc K1) (wc.heap.size+1) (.slice (some ⟨wc.heap.size,0,none⟩) 1 1) 1 (kc [k]) (wc.alloc (.cells #[sd k] 9))):=⟨World.ownsRow.alloc H1.out.1 _,ks_one wc k,kc_one _,Nat.le_trans hBw (Nat.le_trans H1.out.2.size (by simp)),by have:=HF.out;omega⟩;have HK:Hid (K1++[k]=(if false=false/\K1.length<limit.toNat then K1++[k]else K1)):=(if_pos ⟨rfl,by omega⟩).symm;go_wp2_with (at_builtin;refine wpList_append_rw HOw.out Tryz.underlying101 hin hi0 hi1 hi2 rfl (by decide) (by decide) (.tmp 58) (.tmp 63) rfl rfl rfl rfl ?_);intro v' w2 hown hg hat;have HB2:Hid (Below B w w2):=below_own (H1.out.2.alloc (Nat.le_trans hBw H1.out.2.size) _) HOw.out.size HOw.out.own hg;obtain⟨sa2,sc2,rfl,-,-,-,-⟩:=rw_own hown;have CR2:Hid (1=1->_):=fun _=>CC.out (K1++[k]) (.slice sa2 (K1.length+1) sc2) w2 HK.out (by rw[kc_append,List.length_append];exact hown) HB2.out;have d3:=HR.out _ HB2.out;clear hown hg hat HOw HK HB2 CC;go_wp2_with fail;refine(CR2.out (by trivial)).mono ?_;rintro e w3 ⟨v3,rfl,ho3,hb3⟩;obtain⟨sa3,sc3,rfl,-,-,-,-⟩:=rw_own ho3;have H3:Hid _:=And.intro ho3 hb3;clear ho3 hb3 CR2;go_wp2_with fail;go_ret;exact⟨_,rfl,H3.out⟩
       ·have hge:¬(K1.length:Int)<limit:=hlt;have HK:Hid (K1=(if false=false/\K1.length<limit.toNat then K1++[k]else K1)):=(if_neg (by omega)).symm;have CR2:Hid (1=1->_):=fun _=>CC.out K1 (.slice sa1 K1.length sc1) wc HK.out H1.out.1 H1.out.2;have d3:=HR.out _ H1.out.2;clear hlt HK CC;go_wp2_with fail;refine(CR2.out (by trivial)).mono ?_;rintro e w3 ⟨v3,rfl,ho3,hb3⟩;obtain⟨sa3,sc3,rfl,-,-,-,-⟩:=rw_own ho3;have H3:Hid _:=And.intro ho3 hb3;clear ho3 hb3 CR2;go_wp2_with fail;go_ret;exact⟨_,rfl,H3.out⟩
      ·have CR2:Hid (1=1->_):=fun _=>CC.out K1 (.slice sa1 K1.length sc1) wc (by simp) H1.out.1 H1.out.2;have d3:=HR.out _ H1.out.2;clear CC;go_wp2_with fail;refine(CR2.out (by trivial)).mono ?_;rintro e w3 ⟨v3,rfl,ho3,hb3⟩;obtain⟨sa3,sc3,rfl,-,-,-,-⟩:=rw_own ho3;have H3:Hid _:=And.intro ho3 hb3;clear ho3 hb3 CR2;go_wp2_with fail;go_ret;exact⟨_,rfl,H3.out⟩
theorem with21(key:List UInt8)(v:Cv)(t:Tr):∀(w:World),TrAt nl t w->t.blocks.Nodup->Hk t->Srt t.toL->getF key t.toL=none->t.toL.length<100000->
  Calls Tryz.prog 193 #[t.ptr,sd key,.agg #[ui v.1.1,ui v.1.2,sd v.2.key,sd v.2.val,.bool v.2.dead]] w fun e w'=>∃t',e=.returned t'.ptr/\Tg t (setF key v t.toL) w t' w':=by
 induction t using Tr.ind with
 |nil=>
  intro w _ _ _ _ _ _;simp only[Tr.ptr];obtain⟨W,hW⟩:=xj (w.alloc (.cells #[ui v.1.1,ui v.1.2,sd v.2.key,sd v.2.val,.bool v.2.dead] 129));have hb:Below w.heap.size w W:=by rw[<-hW];exact al _
  have HG:Hid (Tg .nil (setF key v (Tr.toL .nil)) w (.node W.heap.size .nil key v 1 .nil) (W.alloc (.cells #[sd key,ui v.1.1,ui v.1.2,sd v.2.key,sd v.2.val,.bool v.2.dead,.pointer none,.pointer none,iw 1] 273))):=
   ⟨TrAt.new (Y:=nl) (l:=.nil) (r:=.nil) trivial trivial key v 1,⟨rfl,trivial,trivial⟩,by simp[Tr.blocks],rfl,fun i hi=>by simp[Tr.blocks]at hi;exact .inr (by rw[hi];exact hb.size),Kept.of_below (hb.trans ((al _).mono hb.size))⟩
  have hsz:W.heap.size=w.heap.size+1:=by rw[<-hW];simp
  rw[hsz,<-hW]at HG;clear hb hW hsz;have y0:(w.alloc (.cells #[ui v.1.1,ui v.1.2,sd v.2.key,sd v.2.val,.bool v.2.dead] 129)).cell? ⟨w.heap.size,0,none⟩=some (ui v.1.1):=block_cell (heap_alloc_new w _) rfl;have y1:(w.alloc (.cells #[ui v.1.1,ui v.1.2,sd v.2.key,sd v.2.val,.bool v.2.dead] 129)).cell? ⟨w.heap.size,1,none⟩=some (ui v.1.2):=block_cell (heap_alloc_new w _) rfl;have y2:(w.alloc (.cells #[ui v.1.1,ui v.1.2,sd v.2.key,sd v.2.val,.bool v.2.dead] 129)).cell? ⟨w.heap.size,2,none⟩=some (sd v.2.key):=block_cell (heap_alloc_new w _) rfl;have y3:(w.alloc (.cells #[ui v.1.1,ui v.1.2,sd v.2.key,sd v.2.val,.bool v.2.dead] 129)).cell? ⟨w.heap.size,3,none⟩=some (sd v.2.val):=block_cell (heap_alloc_new w _) rfl;have y4:(w.alloc (.cells #[ui v.1.1,ui v.1.2,sd v.2.key,sd v.2.val,.bool v.2.dead] 129)).cell? ⟨w.heap.size,4,none⟩=some (.bool v.2.dead):=block_cell (heap_alloc_new w _) rfl;go_enter Tryz.func193,Tryz.ntmps193;go_wp2_with fail;go_ret;exact⟨_,rfl,HG.out⟩
 |node b l k u x r ihl ihr=>
  intro w ha hn hk hs hg hf;obtain⟨hs1,hs2,_,_⟩:=srt_parts hs;have hg0:=hg;simp only[Tr.toL]at hg0;rw[get_parts hs]at hg0;have hn':=hn;rw[Tr.blocks,List.nodup_cons,List.nodup_append]at hn';have hf':=hf;simp only[Tr.toL,List.length_append,List.length_cons]at hf';obtain⟨c0,-,c2,c3,-⟩:=nd_cells (ha.on (al (W:=w) (.cells #[ui v.1.1,ui v.1.2,sd v.2.key,sd v.2.val,.bool v.2.dead] 129))).1;have b1:=bl key k;have y0:(w.alloc (.cells #[ui v.1.1,ui v.1.2,sd v.2.key,sd v.2.val,.bool v.2.dead] 129)).cell? ⟨w.heap.size,0,none⟩=some (ui v.1.1):=block_cell (heap_alloc_new w _) rfl;have y1:(w.alloc (.cells #[ui v.1.1,ui v.1.2,sd v.2.key,sd v.2.val,.bool v.2.dead] 129)).cell? ⟨w.heap.size,1,none⟩=some (ui v.1.2):=block_cell (heap_alloc_new w _) rfl;have y2:(w.alloc (.cells #[ui v.1.1,ui v.1.2,sd v.2.key,sd v.2.val,.bool v.2.dead] 129)).cell? ⟨w.heap.size,2,none⟩=some (sd v.2.key):=block_cell (heap_alloc_new w _) rfl;have y3:(w.alloc (.cells #[ui v.1.1,ui v.1.2,sd v.2.key,sd v.2.val,.bool v.2.dead] 129)).cell? ⟨w.heap.size,3,none⟩=some (sd v.2.val):=block_cell (heap_alloc_new w _) rfl;have y4:(w.alloc (.cells #[ui v.1.1,ui v.1.2,sd v.2.key,sd v.2.val,.bool v.2.dead] 129)).cell? ⟨w.heap.size,4,none⟩=some (.bool v.2.dead):=block_cell (heap_alloc_new w _) rfl;by_cases h1:ltK key k=true
  ·rw[if_pos h1]at hg0;have CW:Hid (∀W,Sw (w.alloc (.cells #[ui v.1.1,ui v.1.2,sd v.2.key,sd v.2.val,.bool v.2.dead] 129)) W->Calls Tryz.prog 193 #[l.ptr,sd key,.agg #[ui v.1.1,ui v.1.2,sd v.2.key,sd v.2.val,.bool v.2.dead]] W fun e w1=>∃o,e=.returned (.pointer o)/\w1.cell? ⟨b,6,none⟩=some l.ptr/\w1.frozen? ⟨b,6,none⟩=false/\Hid (∀W3,Sw (w1.setCell ⟨b,6,none⟩ (.pointer o)) W3->Calls Tryz.prog 226 #[pz b] W3 fun e w2=>∃t',e=.returned t'.ptr/\Tg (.node b l k u x r) (setF key v (Tr.node b l k u x r).toL) w t' w2)):=by
    intro W hsw;have ha':=(ha.on (al (W:=w) (.cells #[ui v.1.1,ui v.1.2,sd v.2.key,sd v.2.val,.bool v.2.dead] 129))).sw hsw;refine(ihl W ha'.2.1 hn'.2.1 hk.2.1 hs1 hg0 (by omega)).mono ?_;rintro e w1 ⟨s',rfl,g⟩;obtain⟨o,ho⟩:=s'.is_ptr;have hb1:w1.heap[b]?=W.heap[b]?:=g.kept.block b (gsz ha'.1) (fun hi=>hn'.1 (by simp[hi]));obtain⟨o1,o2,o3,o4⟩:=Tg.setl ha' hn g;rw[ho]at o1 o4;have hlen:s'.toL.length=l.toL.length+1:=by rw[g.el,len_set hs1,hg0];rfl
    refine⟨o,by rw[ho],block_cell (hb1.trans ha'.1) rfl,block_frozen (hb1.trans ha'.1) _,fun W3 hs3=>?_⟩;have hN:Nd b s' r k u x W3:=(Nd.mk o1 o2 g.hk hk.2.2 (by omega)).sw hs3;refine(balanced25 hN (by omega)).mono ?_;rintro e w2 ⟨t',rfl,g2⟩;refine⟨t',rfl,Tg.after (fun i hi=>.inl hi) (Kept.of_below (al (W:=w) (.cells #[ui v.1.1,ui v.1.2,sd v.2.key,sd v.2.val,.bool v.2.dead] 129))) (hsw.tg (Tg.after o3 o4 (hs3.tg ?_)))⟩;simp only[Tr.toL];rw[set_parts hs,if_pos h1,<-g.el];exact g2
   have q1:Op.bytesLess (bs key).toList (bs k).toList=true:=by rw[b1];exact h1
   have f2:(w.alloc (.cells #[ui v.1.1,ui v.1.2,sd v.2.key,sd v.2.val,.bool v.2.dead] 129)).frozen? ⟨b,6,none⟩=false:=block_frozen (TrAt.on ha (al (W:=w) (.cells #[ui v.1.1,ui v.1.2,sd v.2.key,sd v.2.val,.bool v.2.dead] 129))).1 _;clear ihl ihr ha hn hk hs hg hf hs1 hs2 hg0 hn' hf' b1 h1;generalize setF key v (Tr.node b l k u x r).toL=L at*;simp only[Tr.ptr];generalize Tr.node b l k u x r=t at*;generalize l.ptr=lp at*;generalize r.ptr=rp at*;go_enter Tryz.func193,Tryz.ntmps193;go_wp2_with fail;go_region_with (go_at_call 193;refine(CW.out _ ?_).mono ?_;exact Sw.drew (Sw.refl _);rintro e w1 ⟨o,rfl,d5,d6,HE⟩)
   all_goals
    go_wp2_with fail;refine(HE.out _ (Sw.refl _)).mono ?_;rintro e w2 ⟨t',rfl,g⟩;obtain⟨o',ho⟩:=t'.is_ptr;have HX:Hid (∃t',(Ending.returned (.pointer o'):Ending)=.returned (Tr.ptr t')/\Tg t L w t' w2):=⟨t',by rw[ho],g⟩;rw[ho];clear g HE ho;go_wp2_with fail;go_ret;exact HX.out
  ·rw[if_neg h1]at hg0;have h2:ltK k key=true:=by
    by_cases h2:ltK k key=true
    ·exact h2
    ·rw[if_neg h2]at hg0;cases hg0
   rw[if_pos h2]at hg0;have CW:Hid (∀W,Sw (w.alloc (.cells #[ui v.1.1,ui v.1.2,sd v.2.key,sd v.2.val,.bool v.2.dead] 129)) W->Calls Tryz.prog 193 #[r.ptr,sd key,.agg #[ui v.1.1,ui v.1.2,sd v.2.key,sd v.2.val,.bool v.2.dead]] W fun e w1=>∃o,e=.returned (.pointer o)/\w1.cell? ⟨b,7,none⟩=some r.ptr/\w1.frozen? ⟨b,7,none⟩=false/\Hid (∀W3,Sw (w1.setCell ⟨b,7,none⟩ (.pointer o)) W3->Calls Tryz.prog 226 #[pz b] W3 fun e w2=>∃t',e=.returned t'.ptr/\Tg (.node b l k u x r) (setF key v (Tr.node b l k u x r).toL) w t' w2)):=by
    intro W hsw;have ha':=(ha.on (al (W:=w) (.cells #[ui v.1.1,ui v.1.2,sd v.2.key,sd v.2.val,.bool v.2.dead] 129))).sw hsw;refine(ihr W ha'.2.2 hn'.2.2.1 hk.2.2 hs2 hg0 (by omega)).mono ?_;rintro e w1 ⟨s',rfl,g⟩;obtain⟨o,ho⟩:=s'.is_ptr;have hb1:w1.heap[b]?=W.heap[b]?:=g.kept.block b (gsz ha'.1) (fun hi=>hn'.1 (by simp[hi]));obtain⟨o1,o2,o3,o4⟩:=Tg.setr ha' hn g;rw[ho]at o1 o4;have hlen:s'.toL.length=r.toL.length+1:=by rw[g.el,len_set hs2,hg0];rfl
    refine⟨o,by rw[ho],block_cell (hb1.trans ha'.1) rfl,block_frozen (hb1.trans ha'.1) _,fun W3 hs3=>?_⟩;have hN:Nd b l s' k u x W3:=(Nd.mk o1 o2 hk.2.1 g.hk (by omega)).sw hs3;refine(balanced25 hN (by omega)).mono ?_;rintro e w2 ⟨t',rfl,g2⟩;refine⟨t',rfl,Tg.after (fun i hi=>.inl hi) (Kept.of_below (al (W:=w) (.cells #[ui v.1.1,ui v.1.2,sd v.2.key,sd v.2.val,.bool v.2.dead] 129))) (hsw.tg (Tg.after o3 o4 (hs3.tg ?_)))⟩;simp only[Tr.toL];rw[set_parts hs,if_neg h1,if_pos h2,<-g.el];exact g2
   have q1:Op.bytesLess (bs key).toList (bs k).toList=false:=by rw[b1];simpa using h1
   have f2:(w.alloc (.cells #[ui v.1.1,ui v.1.2,sd v.2.key,sd v.2.val,.bool v.2.dead] 129)).frozen? ⟨b,7,none⟩=false:=block_frozen (TrAt.on ha (al (W:=w) (.cells #[ui v.1.1,ui v.1.2,sd v.2.key,sd v.2.val,.bool v.2.dead] 129))).1 _;clear ihl ihr ha hn hk hs hg hf hs1 hs2 hg0 hn' hf' b1 h1 h2;generalize setF key v (Tr.node b l k u x r).toL=L at*;simp only[Tr.ptr];generalize Tr.node b l k u x r=t at*;generalize l.ptr=lp at*;generalize r.ptr=rp at*;go_enter Tryz.func193,Tryz.ntmps193;go_wp2_with fail;go_region_with (go_at_call 193;refine(CW.out _ ?_).mono ?_;exact Sw.drew (Sw.refl _);rintro e w1 ⟨o,rfl,d5,d6,HE⟩)
   all_goals
    go_wp2_with fail;refine(HE.out _ (Sw.refl _)).mono ?_;rintro e w2 ⟨t',rfl,g⟩;obtain⟨o',ho⟩:=t'.is_ptr;have HX:Hid (∃t',(Ending.returned (.pointer o'):Ending)=.returned (Tr.ptr t')/\Tg t L w t' w2):=⟨t',by rw[ho],g⟩;rw[ho];clear g HE ho;go_wp2_with fail;go_ret;exact HX.out
end Go.Proofs.YtdplfgcoaddbdaaGreat.Lat
