import Derived.Test.YtdplfgcoaddbdaaGreatXai
set_option maxHeartbeats 4000000
set_option maxRecDepth 100000
set_option linter.unusedVariables false
set_option linter.unusedSimpArgs false
namespace Go.Proofs.YtdplfgcoaddbdaaGreat.Sto
open Go.RowKit
structure So(B p q:Nat)(t:Tr)(S:Sk)(w:World):Prop where
 box:w.heap[p]?=some (.cells #[pz q] 153 (0,0))
 mc:Mc B q t S w
 low:B<=p
 ne:¬foot8 q t p
 kl:∀x∈S,x.1.length<=32
def footS(p q:Nat)(t:Tr):Nat->Prop:=fun i=>i=p\/foot8 q t i
def SoAt(B p:Nat)(M:Nat->Prop)(S:Sk)(w:World):Prop:=∃q t,So B p q t S w/\M=footS p q t
theorem So.lt{B p q:Nat}{t:Tr}{S:Sk}{w:World}(h:So B p q t S w):∀i,footS p q t i->B<=i/\i<w.heap.size
 |_,.inl e=>e▸⟨h.low,(gsz h.box)⟩
 |i,.inr e=>h.mc.lt i e
theorem So.noVe{B p q:Nat}{t:Tr}{S:Sk}{w:World}(h:So B p q t S w):∀i,footS p q t i->NoVe w i
 |_,.inl e=>e▸noVe_small h.box (by simp)
 |i,.inr e=>h.mc.noVe i e
theorem So.kept{B p q:Nat}{t:Tr}{S:Sk}{w w':World}{G:Nat->Prop}(h:So B p q t S w)(hk:Kept G w w')(h1:∀i,footS p q t i->¬G i)(hG:∀i,G i->NoVe w i):So B p q t S w':=
 ⟨by rw[hk.block p (gsz h.box) (h1 p (.inl rfl))];exact h.box,h.mc.kept hk (fun i hi=>h1 i (.inr hi)) hG,h.low,h.ne,h.kl⟩
theorem So.on{B p q:Nat}{t:Tr}{S:Sk}{w w':World}(h:So B p q t S w)(hb:Below w.heap.size w w'):So B p q t S w':=h.kept (G:=fun _=>False) (Kept.of_below hb) (fun _ _ h=>h) (fun _ h=>h.elim)
theorem So.cell{B p q:Nat}{t:Tr}{S:Sk}{w:World}(h:So B p q t S w):ce w p 0 (pz q):=block_cell h.box rfl
theorem So.post{B p q:Nat}{t:Tr}{S S':Sk}{w w':World}(h:So B p q t S w)(hp:McPost B q t S' w w')(hkl:∀x∈S',x.1.length<=32):∃t',So B p q t' S' w'/\Kept (footS p q t) w w'/\∀i,footS p q t' i->footS p q t i\/w.heap.size<=i:=by
 obtain⟨t',h1,hk,hn⟩:=hp;have hpl:=(gsz h.box);refine⟨t',⟨by rw[hk.block p hpl h.ne];exact h.box,h1,h.low,fun hf=>?_,hkl⟩,⟨hk.os,hk.tape,hk.output,hk.size,fun i hi hf=>hk.block i hi (fun e=>hf (.inr e))⟩,fun i hi=>?_⟩
 ·rcases hn p hf with e|e
  ·exact h.ne e
  ·omega
 ·rcases hi with e|e
  ·exact .inl (.inl e)
  ·rcases hn i e with e|e
   ·exact .inl (.inr e)
   ·exact .inr e
def SoPost(B p:Nat)(M:Nat->Prop)(S':Sk)(w w':World):Prop:=∃M',SoAt B p M' S' w'/\Kept M w w'/\∀i,M' i->M i\/w.heap.size<=i
theorem So.out{B p q:Nat}{t t':Tr}{S':Sk}{w w1 w':World}(hb:Below w.heap.size w w1)(h:So B p q t' S' w')(hk:Kept (footS p q t) w1 w')(hn:∀i,footS p q t' i->footS p q t i\/w1.heap.size<=i):SoPost B p (footS p q t) S' w w':=by
 refine⟨_,⟨q,t',h,rfl⟩,(Kept.of_below hb).trans hk (fun i hi=>.inl hi),fun i hi=>?_⟩;rcases hn i hi with e|e
 ·exact .inl e
 ·exact .inr (Nat.le_trans hb.size e)
theorem so_new(w:World):Calls Tryz.prog 28 #[] w fun e w'=>∃p M,e=.returned (pz p)/\SoAt w.heap.size p M [] w'/\Below w.heap.size w w':=by
 have C:Hid (∀W:World,Below w.heap.size w W->Calls Tryz.prog 61 #[] W fun e w'=>∃q t,e=.returned (pz q)/\Mc w.heap.size q t [] w'/\Below w.heap.size w w'):=fun W hb=>by refine(new8 W).mono ?_;rintro e w' ⟨q,F,rfl,⟨t,h1,h2,rfl⟩,hb'⟩;refine⟨q,t,rfl,⟨⟨h1.box,h1.ok,h1.srt,h1.hk,h1.pn,h1.nd,Nat.le_trans hb.size h1.low.1,fun i hi=>Nat.le_trans hb.size (h1.low.2 i hi)⟩,by rw[h2];exact trivial,SOk.nil⟩,hb.trans (hb'.mono hb.size)⟩
 go_enter Tryz.func28,Tryz.ntmps28;go_wp2_with fail;refine(C.out _ (Below.refl _ _)).mono ?_;rintro e w1 ⟨q,t,rfl,hm,hb⟩;have H:Hid (So w.heap.size w1.heap.size q t [] (w1.alloc (.cells #[pz q] 153))/\Below w.heap.size w (w1.alloc (.cells #[pz q] 153))):=
  ⟨⟨heap_alloc_new w1 _,hm.on (al _),hb.size,fun hf=>by have:=(hm.lt _ hf).2;omega,fun _ h=>by cases h⟩,hb.trans ((al _).mono hb.size)⟩
 clear hm hb C;go_wp2_with fail;go_ret;exact⟨_,_,rfl,⟨q,t,H.out.1,rfl⟩,H.out.2⟩
theorem so_of{B p q:Nat}{t:Tr}{S:Sk}{w:World}(k:List UInt8)(h:So B p q t S w):Calls Tryz.prog 48 #[pz p,sd k] w fun e w'=>∃ao cap,e=.returned (.slice ao (chainF k S).length cap)/\VsAt w'.heap.size (.slice ao (chainF k S).length cap) (chainF k S) w'/\Below w.heap.size w w':=by have c0:=h.cell;have C:Hid (1=1->_):=fun _=>mc_get k h.mc;clear h;go_enter Tryz.func48,Tryz.ntmps48;go_wp2_with fail;refine(C.out (by trivial)).mono ?_;rintro e w1 ⟨ao,cap,rfl,hv,hb⟩;have H:Hid _:=hv;have HB:Hid _:=hb;clear hv hb C c0;generalize (getF k S).isSome=g at*;go_wp2_with fail;go_ret;exact⟨ao,cap,rfl,H.out,HB.out⟩
theorem mc_all{B q:Nat}{t:Tr}{S:Sk}{w:World}(h:Mc B q t S w)(ht:totS S<10000):Calls Tryz.prog 102 #[pz q,su,su,iw S.length] w fun e w'=>∃ka kp,e=.returned (.slice ka S.length kp)/\w'.ownsRow w.heap.size 9 1 (.slice ka S.length kp) (S.map (·.1)).length (kc (S.map (·.1)))/\Below w.heap.size w w':=by have:=mc_keys [] [] S.length h ht;rw[keys_all (Int.le_refl _)]at this;refine Calls.mono this ?_;rintro e w' ⟨v',rfl,ho,hb⟩;obtain⟨ao,cap,rfl,_⟩:=rw_own ho;rw[List.length_map]at ho|-;exact⟨ao,cap,rfl,ho,hb⟩
theorem so_keys{B p q:Nat}{t:Tr}{S:Sk}{w:World}(h:So B p q t S w)(ht:totS S<10000):Calls Tryz.prog 46 #[pz p] w fun e w'=>∃ka kp,e=.returned (.slice ka S.length kp)/\w'.ownsRow w.heap.size 9 1 (.slice ka S.length kp) (S.map (·.1)).length (kc (S.map (·.1)))/\Below w.heap.size w w':=by
 have HS:Hid (So B p q t S w):=h;have c0:=h.cell;have hpl:p<w.heap.size:=World.block_lt_of_cell? _ _ c0;have CL:Hid (∀W,Below w.heap.size w W->_):=fun W hb=>mc_len (h.mc.on hb);have CK:Hid (∀W,Below w.heap.size w W->Calls Tryz.prog 102 #[pz q,su,su,iw S.length] W fun e w'=>∃ka kp,e=.returned (.slice ka S.length kp)/\w'.ownsRow W.heap.size 9 1 (.slice ka S.length kp) (S.map (·.1)).length (kc (S.map (·.1)))/\Below W.heap.size W w'):=fun W hb=>mc_all (h.mc.on hb) ht;clear h ht;go_enter Tryz.func46,Tryz.ntmps46;go_wp2_with fail;have HP:Hid (ce w p 0 (pz q)):=c0;go_region_held3 (fun W=>ce W p 0 (pz q)) (first|exact HP.out|exact H1.out.2|exact H2.out.2.2) (first
  |(go_at_call 103;refine(CL.out _ ((Below.refl _ _).drew)).mono ?_;rintro e W1 ⟨rfl,hb1⟩;have H1:Hid (Below w.heap.size w W1/\ce W1 p 0 (pz q)):=⟨(Below.refl _ _).drew.trans hb1,(HS.out.on ((Below.refl _ _).drew.trans hb1)).cell⟩;clear hb1)
  |(go_at_call 102;refine(CK.out _ H1.out.1).mono ?_;rintro e W2 ⟨ka,kp,rfl,ho2,hb2⟩;have H2:Hid (W2.ownsRow W1.heap.size 9 1 (.slice ka S.length kp) (S.map (·.1)).length (kc (S.map (·.1)))/\Below w.heap.size w W2/\ce W2 p 0 (pz q)):=⟨ho2,H1.out.1.trans (hb2.mono H1.out.1.size),(HS.out.on (H1.out.1.trans (hb2.mono H1.out.1.size))).cell⟩;clear ho2 hb2))
 rename_i hHeld;clear hHeld;go_wp2_with fail;go_ret;exact⟨ka,kp,rfl,own_le H2.out.1 H1.out.1.size,H2.out.2.1⟩
theorem isKey28(k:List UInt8)(w:World):Calls Tryz.prog 200 #[sd k] w fun e w'=>e=.returned (.bool (keyB k))/\w'=w:=by
 have hs:=bs_size k;by_cases h1:k.length<1
 ·have h1':¬(1:Int)<=k.length:=by omega
  have hk:keyB k=false:=by simp[keyB];omega
  rw[hk];clear hk;go_enter Tryz.func200,Tryz.ntmps200;go_wp2_with fail;go_ret;exact⟨rfl,rfl⟩
 ·have h1':(1:Int)<=k.length:=by omega
  by_cases h2:k.length<=32
  ·have h2':(k.length:Int)<=32:=by omega
   have hk:keyB k=true:=by simp[keyB];omega
   rw[hk];clear hk;go_enter Tryz.func200,Tryz.ntmps200;go_wp2_with fail;go_ret;exact⟨rfl,rfl⟩
  ·have h2':¬(k.length:Int)<=32:=by omega
   have hk:keyB k=false:=by simp[keyB];omega
   rw[hk];clear hk;go_enter Tryz.func200,Tryz.ntmps200;go_wp2_with fail;go_ret;exact⟨rfl,rfl⟩
theorem above46(k:List UInt8)(w:World)(h:k.length<=32):Calls Tryz.prog 162 #[sd k] w fun e w'=>e=.returned (.string (bs (k++[0])))/\w'=w:=by
 have hs:=bs_size k;have hj:¬9223372036854775807<k.length+1:=by omega
 have hz:Hid (bs k++⟨#[0]⟩=bs (k++[0])):=by show _=_;apply ByteArray.ext;simp[bs]
 go_enter Tryz.func162,Tryz.ntmps162;go_wp2_with fail;go_ret;rw[<-hz.out];exact⟨rfl,rfl⟩
structure Tv(w:World)(bx:Nat)(p l:Int)(v:Value)(C:List Ve)(W:World):Prop where
 tx:Tx w bx p l W
 vs:VsAt W.heap.size v C W
theorem Tv.on{w W W':World}{bx:Nat}{p l:Int}{v:Value}{C:List Ve}(h:Tv w bx p l v C W)(hb:Below W.heap.size W W'):Tv w bx p l v C W':=⟨h.tx.on hb,(h.vs.on hb).le hb.size⟩
theorem Tv.al{w W:World}{bx:Nat}{p l:Int}{v:Value}{C:List Ve}(h:Tv w bx p l v C W)(o:Obj):Tv w bx p l v C (W.alloc o):=h.on (Go.Proofs.YtdplfgcoaddbdaaGreat.al _)
theorem zero_box2{W W3:World}{o:Obj}(hb:Below (W.alloc o).heap.size (W.alloc o) W3):W3.heap[W.heap.size]?=some o:=by rw[hb.block W.heap.size (by simp)];exact heap_alloc_new W _
theorem get15_of{C:List Ve}(pv:Value)(k:List UInt8)(p l:Int)(w:World)(CC:Hid (∀W,Below w.heap.size w W->Calls Tryz.prog 48 #[pv,sd k] W fun e w'=>∃ao cap,e=.returned (.slice ao C.length cap)/\VsAt w'.heap.size (.slice ao C.length cap) C w'/\Below W.heap.size W w')):
  Calls Tryz.prog 85 #[pv,sd k,.agg #[uw p,ui l]] w fun e w'=>e=.returned (.tuple #[.string (bs (getV (seeF C p l)).1),.bool (getV (seeF C p l)).2])/\Below w.heap.size w w':=by
 have CP:Hid (∀W ao cap bx,Tv w bx p l (.slice ao C.length cap) C W->Calls Tryz.prog 160 #[.slice ao C.length cap,.agg #[uw p,ui l]] W fun e w'=>e=.returned (.tuple #[veV ((atF C p l).getD dv),.bool (atF C p l).isSome])/\Below W.heap.size W w'):=fun W ao cap bx h=>at10 W.heap.size C _ p l W h.vs (Nat.le_refl _);have HY:Hid _:=see_at C p l;have HT:Hid (Tx w w.heap.size p l (w.alloc (.cells #[uw p,ui l] 28))):=tx_new w p l;generalize getV (seeF C p l)=Y at*;generalize (atF C p l).isSome=z at*;generalize (atF C p l).getD dv=u at*;obtain⟨up,ul,uc,un,us,ud⟩:=u;simp only[veV]at CP;dsimp only at HY;go_enter Tryz.func85,Tryz.ntmps85;go_wp2_with fail;obtain⟨W0,hW0⟩:=xj (w.alloc (.cells #[uw p,ui l] 28));rw[hW0]at HT|-;obtain⟨bx,hbx⟩:=xj w.heap.size;rw[hbx]at HT;have HBX:Hid (w.heap.size=bx):=hbx;clear hW0;rw[hbx];clear hbx;obtain⟨x0,x1,-⟩:=HT.out.two;have HN0:Hid (bx<W0.heap.size/\w.heap.size<=W0.heap.size):=⟨World.block_lt_of_cell? _ _ x0,HT.out.bel.size⟩;go_cut [8,9] (fun s8 s9 wc=>∃vb,s8=.pointer (some ⟨vb,0,none⟩)/\s9=.bool z/\VeAt wc vb 0 ⟨up,ul,uc,un,us,ud⟩/\Below w.heap.size w wc)
 case first=>
  go_region_held3 (fun W=>ce W bx 0 (uw p)/\ce W bx 1 (ui l)/\Tx w bx p l W) ((with_reducible refine Tx.two ?_;with_reducible repeat (first|exact HT.out|exact H1.out.tx|exact H2.out|refine Tx.dr ?_|refine Tx.al ?_ _|refine Tx.st ?_ HN0.out _ _|refine Tx.st ?_ HN1.out _ _))) (first
   |(go_at_call 48;refine(CC.out _ (Tx.bel (bx:=bx) (p:=p) (l:=l) (by with_reducible repeat (first|exact HT.out|refine Tx.dr ?_|refine Tx.al ?_ _)))).mono ?_;rintro e W1 ⟨ao,cap,rfl,hv1,hb1⟩;have H1:Hid (Tv w bx p l (.slice ao C.length cap) C W1):=⟨(by refine Tx.on ?_ hb1;with_reducible repeat (first|exact HT.out|refine Tx.dr ?_|refine Tx.al ?_ _)),hv1⟩;have HN1:Hid (bx<W1.heap.size/\w.heap.size<=W1.heap.size):=⟨World.block_lt_of_cell? _ _ H1.out.tx.c0,H1.out.tx.bel.size⟩;clear hv1;first|((with_reducible have Y3:=zero_box hb1);have Y4:Hid (W1.heap[W0.heap.size]?=some (.cells #[uw 0,ui 0,ui 0,ui 0,su,.bool false] 120 (0,0))):=Y3;clear Y3 hb1)|clear hb1)
   |(go_at_call 160;refine(CP.out _ ao cap bx (by with_reducible repeat (first|exact H1.out|refine Tv.dr ?_|refine Tv.al ?_ _))).mono ?_;rintro e W2 ⟨rfl,hb2⟩;have H2:Hid (Tx w bx p l W2):=(by refine Tx.on ?_ hb2;refine Tv.tx (v:=.slice ao C.length cap) (C:=C) ?_;with_reducible repeat (first|exact H1.out|refine Tv.dr ?_|refine Tv.al ?_ _));first|(have Z4:Hid (W2.heap[W0.heap.size]?=some (.cells #[uw 0,ui 0,ui 0,ui 0,su,.bool false] 120 (0,0))):=(by show _=_;rw[hb2.block W0.heap.size (gsz Y4.out)];exact Y4.out);obtain⟨z0,z1,z2,z3,z4,z5,y0,y1,y2,y3,y4,y5⟩:=zero_cells Z4.out;clear hb2)|((with_reducible have Z3:=zero_box2 hb2);have Z4:Hid (W2.heap[W1.heap.size]?=some (.cells #[uw 0,ui 0,ui 0,ui 0,su,.bool false] 120 (0,0))):=Z3;clear Z3;obtain⟨z0,z1,z2,z3,z4,z5,y0,y1,y2,y3,y4,y5⟩:=zero_cells Z4.out;clear hb2)|clear hb2))
  all_goals
   go_wp2_with fail;go_meet;first
   |(
      with_reducible refine⟨_,rfl,rfl,six_set ?_,?_⟩
      exact Z4.out;exact Tx.bel (bx:=bx) (p:=p) (l:=l) (by with_reducible repeat (first|exact H2.out|refine Tx.st ?_ HN0.out _ _|refine Tx.st ?_ HN1.out _ _)))
   |exact⟨_,rfl,rfl,ve_new _ _ _ _ _ _ _,(H2.out.al _).bel⟩
 case rest=>
  obtain⟨vb,rfl,rfl,hve,hbl⟩:=hcut;obtain⟨-,-,-,-,v4,v5⟩:=hve;simp only[Nat.zero_add]at v4 v5;have HBl:Hid _:=hbl;clear hbl x0 x1 HT CC CP HN0 HBX;cases z
  ·have hY:Y=([],false):=by rw[HY.out];simp
   subst hY;go_wp2_with fail;refine bodyPost_ret (v:=.tuple #[su,.bool false]) (by simp[results,Tryz.results85,go_sem]) rfl ?_;exact⟨rfl,HBl.out⟩
  ·cases ud
   ·have hY:Y=(us,true):=by rw[HY.out];simp
    subst hY;go_wp2_with fail;refine bodyPost_ret (v:=.tuple #[sd us,.bool true]) (by simp[results,Tryz.results85,go_sem]) rfl ?_;exact⟨rfl,HBl.out⟩
   ·have hY:Y=([],false):=by rw[HY.out];simp
    subst hY;go_wp2_with fail;refine bodyPost_ret (v:=.tuple #[su,.bool false]) (by simp[results,Tryz.results85,go_sem]) rfl ?_;exact⟨rfl,HBl.out⟩
theorem count19_of{C:List Ve}(pv:Value)(k:List UInt8)(w:World)(CC:Hid (∀W,Below w.heap.size w W->Calls Tryz.prog 48 #[pv,sd k] W fun e w'=>∃ao cap,e=.returned (.slice ao C.length cap)/\VsAt w'.heap.size (.slice ao C.length cap) C w'/\Below W.heap.size W w')):
  Calls Tryz.prog 164 #[pv,sd k] w fun e w'=>e=.returned (iw C.length)/\Below w.heap.size w w':=by
 go_enter Tryz.func164,Tryz.ntmps164;go_wp2_with fail;refine(CC.out _ (Below.refl _ _)).mono ?_;rintro e w1 ⟨ao,cap,rfl,_,hb⟩;have HB:Hid _:=hb;clear hb CC;go_wp2_with fail;go_ret;exact⟨rfl,HB.out⟩
theorem newest17_of{C:List Ve}(pv:Value)(k:List UInt8)(w:World)(CC:Hid (∀W,Below w.heap.size w W->Calls Tryz.prog 48 #[pv,sd k] W fun e w'=>∃ao cap,e=.returned (.slice ao C.length cap)/\VsAt w'.heap.size (.slice ao C.length cap) C w'/\Below W.heap.size W w')):
  Calls Tryz.prog 163 #[pv,sd k] w fun e w'=>e=.returned (.agg #[uw (newF C).1,ui (newF C).2])/\Below w.heap.size w w':=by
 have CN:Hid (∀W ao cap,VsAt W.heap.size (.slice ao C.length cap) C W->Calls Tryz.prog 205 #[.slice ao C.length cap] W fun e w'=>e=.returned (.agg #[uw (newF C).1,ui (newF C).2])/\Below W.heap.size W w'):=fun W ao cap hv=>newest15 W.heap.size C _ W hv (Nat.le_refl _);have HT:Hid (Tx w w.heap.size 0 0 (w.alloc (.cells #[uw 0,ui 0] 28))):=tx_new w 0 0;generalize newF C=y at*;obtain⟨yp,yl⟩:=y;dsimp only at CN|-;go_enter Tryz.func163,Tryz.ntmps163;go_wp2_with fail;refine(CC.out _ HT.out.bel).mono ?_;rintro e w1 ⟨ao,cap,rfl,hv,hb⟩;have HV:Hid _:=hv;have HB1:Hid _:=hb;clear hv hb;go_wp2_with fail;refine(CN.out _ _ _ HV.out).mono ?_;rintro e w2 ⟨rfl,hb2⟩;have HB:Hid (w2.heap[w.heap.size]?=some (.cells #[uw 0,ui 0] 28 (0,0))):=by show _=_;have hl:w.heap.size<w1.heap.size:=Nat.lt_of_lt_of_le (by simp) HB1.out.size;rw[hb2.block w.heap.size hl,HB1.out.block w.heap.size (by simp)];exact heap_alloc_new w _
 have c0:ce w2 w.heap.size 0 (uw 0):=block_cell HB.out rfl;have c1:ce w2 w.heap.size 1 (ui 0):=block_cell HB.out rfl;have f0:=block_frozen HB.out 0;have f1:=block_frozen HB.out 1;have HT2:Hid (Below w.heap.size w w2):=((HT.out.on HB1.out).on hb2).bel;clear hb2 CC CN HT HV HB1;have HW:Hid (((w2.setCell ⟨w.heap.size,0,none⟩ (uw yp)).setCell ⟨w.heap.size,1,none⟩ (ui yl)).heap[w.heap.size]?=some (.cells #[uw yp,ui yl] 28 (0,0))):=block_set _ (block_set _ HB.out);have d0:((w2.setCell ⟨w.heap.size,0,none⟩ (uw yp)).setCell ⟨w.heap.size,1,none⟩ (ui yl)).cell? ⟨w.heap.size,0,none⟩=some (uw yp):=block_cell HW.out rfl;have d1:((w2.setCell ⟨w.heap.size,0,none⟩ (uw yp)).setCell ⟨w.heap.size,1,none⟩ (ui yl)).cell? ⟨w.heap.size,1,none⟩=some (ui yl):=block_cell HW.out rfl;go_wp2_with fail;refine bodyPost_ret (v:=.agg #[uw yp,ui yl]) (by simp[results,Tryz.results163,go_sem,d0,d1]) rfl ?_;exact⟨rfl,(HT2.out.setCell (p:=⟨w.heap.size,0,none⟩) (Nat.le_refl _) _).setCell (p:=⟨w.heap.size,1,none⟩) (Nat.le_refl _) _⟩
theorem So.self{B p q:Nat}{t:Tr}{S:Sk}{w w':World}(h:So B p q t S w)(hb:Below w.heap.size w w'):SoPost B p (footS p q t) S w w':=⟨_,⟨q,t,h.on hb,rfl⟩,Kept.of_below hb,fun _ hi=>.inl hi⟩
theorem so_put{B p q:Nat}{t:Tr}{S:Sk}{w:World}(k:List UInt8)(x:Ve)(h:So B p q t S w)(ht:totS S<10000):
  Calls Tryz.prog 154 #[pz p,sd k,veV x] w fun e w'=>e=.returned (iw (putS k x S).2)/\SoPost B p (footS p q t) (putS k x S).1 w w':=by
 obtain⟨xp,xl,xc,xn,xs,xd⟩:=x;have HBx:Hid (Bx w w.heap.size ⟨xp,xl,xc,xn,xs,xd⟩ (w.alloc (.cells #[uw xp,ui xl,ui xc,ui xn,sd xs,.bool xd] 120))):=⟨ve_new _ _ _ _ _ _ _,(Below.refl _ _).alloc (Nat.le_refl _) _⟩;have HS:Hid (So B p q t S w):=h;have c0:=h.cell;have hpl:p<w.heap.size:=World.block_lt_of_cell? _ _ c0;have CI:Hid (∀W,Calls Tryz.prog 200 #[sd k] W fun e w'=>e=.returned (.bool (keyB k))/\w'=W):=fun W=>isKey28 k W;cases hkb:keyB k
 ·have hk:putS k ⟨xp,xl,xc,xn,xs,xd⟩ S=(S,1):=by unfold putS;rw[if_neg (by simp[hkb])]
  rw[hk];rw[hkb]at CI;clear h hk hkb;simp only[veV];go_enter Tryz.func154,Tryz.ntmps154;go_wp2_with fail;refine(CI.out _).mono ?_;rintro e w1 ⟨rfl,rfl⟩;go_wp2_with fail;go_ret;exact⟨rfl,HS.out.self HBx.out.bel⟩
 ·have HKl:Hid (k.length<=32):=by show _<=_;simp[keyB]at hkb;exact hkb.2
  have HP:Hid (putS k ⟨xp,xl,xc,xn,xs,xd⟩ S=if(putF (chainF k S) ⟨xp,xl,xc,xn,xs,xd⟩).2=0 then(setF k (putF (chainF k S) ⟨xp,xl,xc,xn,xs,xd⟩).1 S,0)else(S,(putF (chainF k S) ⟨xp,xl,xc,xn,xs,xd⟩).2)):=by show _=_;unfold putS;rw[if_pos hkb]
  rw[hkb]at CI;have HZ:Hid ((putF (chainF k S) ⟨xp,xl,xc,xn,xs,xd⟩).2=0->Ch (putF (chainF k S) ⟨xp,xl,xc,xn,xs,xd⟩).1/\(putF (chainF k S) ⟨xp,xl,xc,xn,xs,xd⟩).1≠[]):=fun h0=>⟨(put_good h0).1,(put_good h0).2.1⟩;have CG:Hid (∀W,Below w.heap.size w W->_):=fun W hb=>so_of k (h.on hb);have CP:Hid (∀W ao cap,VsAt W.heap.size (.slice ao (chainF k S).length cap) (chainF k S) W->Calls Tryz.prog 201 #[.slice ao (chainF k S).length cap,veV ⟨xp,xl,xc,xn,xs,xd⟩] W fun e w'=>∃v',e=.returned (.tuple #[v',iw (putF (chainF k S) ⟨xp,xl,xc,xn,xs,xd⟩).2])/\VsAt w'.heap.size v' (putF (chainF k S) ⟨xp,xl,xc,xn,xs,xd⟩).1 w'/\Below W.heap.size W w'):=fun W ao cap hv=>put8 W.heap.size (chainF k S) _ ⟨xp,xl,xc,xn,xs,xd⟩ W hv (Nat.le_refl _);generalize putS k ⟨xp,xl,xc,xn,xs,xd⟩ S=Y at*;generalize hpq:putF (chainF k S) ⟨xp,xl,xc,xn,xs,xd⟩=P at*;generalize chainF k S=C at*;have HT:Hid _:=ht;clear hpq h ht hkb;obtain⟨D,er⟩:=P;dsimp only at CP HZ HP;simp only[veV]at CP|-;go_enter Tryz.func154,Tryz.ntmps154;go_wp2_with fail;refine(CI.out _).mono ?_;rintro e w0 ⟨rfl,rfl⟩;clear CI;obtain⟨bx,hbx⟩:=xj w.heap.size;obtain⟨W0,hW0⟩:=xj (w.alloc (.cells #[uw xp,ui xl,ui xc,ui xn,sd xs,.bool xd] 120));rw[hW0]at HBx|-;rw[hbx]at HBx|-;have HBX:Hid (w.heap.size=bx):=hbx;clear hW0 hbx;obtain⟨x0,x1,x2,x3,x4,x5,-⟩:=HBx.out.s7;go_wp2_with fail;go_region_held3 (fun w'=>ce w' bx 0 (uw xp)/\ce w' bx 1 (ui xl)/\ce w' bx 2 (ui xc)/\ce w' bx 3 (ui xn)/\ce w' bx 4 (sd xs)/\ce w' bx 5 (.bool xd)/\Hid (Bx w bx ⟨xp,xl,xc,xn,xs,xd⟩ w')) (first|exact HBx.out.dr.s7|exact HBx.out.s7|exact H1.out.1.s7|exact H2.out.1.s7) (first
   |(go_at_call 48;refine(CG.out _ HBx.out.dr.bel).mono ?_;rintro e w1 ⟨ao,cap,rfl,hv,hb⟩;have H1:Hid (Bx w bx ⟨xp,xl,xc,xn,xs,xd⟩ w1/\VsAt w1.heap.size (.slice ao C.length cap) C w1):=⟨HBx.out.dr.on hb,hv⟩;clear hv hb)
   |(go_at_call 201;refine(CP.out _ _ _ H1.out.2).mono ?_;rintro e w2 ⟨v2,rfl,hv2,hb2⟩;have H2:Hid (Bx w bx ⟨xp,xl,xc,xn,xs,xd⟩ w2/\VsAt w2.heap.size v2 D w2):=⟨H1.out.1.on hb2,hv2⟩;clear hv2 hb2))
  rename_i hHeld;clear hHeld;obtain⟨ao2,cap2,rfl⟩:∃ao2 cap2,v2=.slice ao2 D.length cap2:=by obtain⟨a,c,e,_⟩:=H2.out.2;exact⟨a,c,e⟩
  have HB2:Hid (Below w.heap.size w w2):=H2.out.1.bel;have HS2:Hid (So B p q t S w2):=HS.out.on HB2.out;clear CP CG H1 HS x0 x1 x2 x3 x4 x5 c0 hpl HBx;by_cases he:er=0
  ·have hY:Y=(setF k D S,0):=by rw[HP.out,if_pos he]
   obtain⟨hD1,hD2⟩:=HZ.out he;have CS:Hid (1=1->_):=fun _=>mc_set k HS2.out.mc HT.out H2.out.2 hD1 hD2;have HKs:Hid (∀y∈setF k D S,y.1.length<=32):=fun y hy=>by
    rcases setF_keys hy with rfl|hy
    ·exact HKl.out
    ·exact HS2.out.kl y hy
   have c0:=HS2.out.cell;subst hY he;clear HP HZ hD1 hD2;go_wp2_with fail;refine(CS.out (by trivial)).mono ?_;rintro e w3 ⟨rfl,h3⟩;have H3:Hid _:=h3;clear h3 CS c0;go_wp2_with fail;go_ret;obtain⟨t',h4,h5,h6⟩:=HS2.out.post H3.out HKs.out;exact⟨rfl,So.out HB2.out h4 h5 h6⟩
  ·have hY:Y=(S,er):=by rw[HP.out,if_neg he]
   have he':(er==0)=false:=by rw[beq_eq_false_iff_ne];exact he
   subst hY;clear HP HZ;go_wp2_with fail;go_ret;exact⟨rfl,_,⟨q,t,HS2.out,rfl⟩,Kept.of_below HB2.out,fun _ hi=>.inl hi⟩
structure Slp(B p q bx:Nat)(t:Tr)(sp sl:Int)(v:Value)(K:List (List UInt8))(w:World)(T:Sk)(t':Tr)(W:World):Prop where
 so:So B p q t' T W
 new:∀i,footS p q t' i->footS p q t i\/w.heap.size<=i
 kept:Kept (footS p q t) w W
 x:W.heap[bx]?=some (.cells #[uw sp,ui sl] 28 (0,0))
 xn:¬footS p q t' bx
 own:W.ownsRow w.heap.size 9 1 v K.length (kc K)
 on:∀k,v.ownBlock=some k->¬footS p q t' k
theorem own_lt{base e size n k:Nat}{v:Value}{cs:List Value}{w:World}(h:w.ownsRow base e size v n cs)(hk:v.ownBlock=some k):base<=k/\k<w.heap.size:=World.ownsRow.lt h k hk
theorem Slp.step{B p q bx:Nat}{t t':Tr}{sp sl:Int}{v:Value}{K:List (List UInt8)}{w W W':World}{T:Sk}(h:Slp B p q bx t sp sl v K w T t' W)(hb:Below W.heap.size W W'):Slp B p q bx t sp sl v K w T t' W':=
 ⟨h.so.on hb,h.new,h.kept.trans (Kept.of_below (F:=fun _=>False) hb) (fun _ h=>h.elim),by rw[hb.block bx (gsz h.x)];exact h.x,h.xn,own_on h.own hb,h.on⟩
theorem Slp.post{B p q bx:Nat}{t t':Tr}{sp sl:Int}{v:Value}{K:List (List UInt8)}{w W W':World}{T T':Sk}(h:Slp B p q bx t sp sl v K w T t' W)(hp:McPost B q t' T' W W')(hkl:∀x∈T',x.1.length<=32):∃t'',Slp B p q bx t sp sl v K w T' t'' W':=by
 obtain⟨t'',h1,hk,hn⟩:=h.so.post hp hkl;have hs:=h.kept.size;refine⟨t'',h1,fun i hi=>?_,h.kept.trans hk h.new,?_,fun hf=>?_,own_kept h.own hk h.on,fun k hk' hf=>?_⟩
 ·rcases hn i hi with e|e
  ·exact h.new i e
  ·exact .inr (by omega)
 ·rw[hk.block bx (gsz h.x) h.xn];exact h.x
 ·rcases hn bx hf with e|e
  ·exact h.xn e
  ·have:=(gsz h.x);omega
 ·rcases hn k hf with e|e
  ·exact h.on k hk' e
  ·have:=(own_lt h.own hk').2;omega
theorem Slp.key{B p q bx:Nat}{t t':Tr}{sp sl:Int}{ao:Option Addr}{n cap:Nat}{K:List (List UInt8)}{w W:World}{T:Sk}(hn:n=K.length)(h:Slp B p q bx t sp sl (.slice ao n cap) K w T t' W){m:Nat}(hm:m<n):∃b off,ao=some ⟨b,off,none⟩/\ce W b (off+m) (.string (bs (K.getD m []))):=by subst hn;obtain⟨b,off,e,_,hc⟩:=RwAt.cellAt (rw_own h.own) (j:=m) (by rw[kc_length];exact hm);exact⟨b,off,e,hc m _ (by simp[kc,List.getD,hm])⟩
theorem Slp.stamp{B p q bx:Nat}{t t':Tr}{sp sl:Int}{v:Value}{K:List (List UInt8)}{w W:World}{T:Sk}(h:Slp B p q bx t sp sl v K w T t' W):ce W bx 0 (uw sp)/\ce W bx 1 (ui sl)/\ce W p 0 (pz q):=⟨block_cell h.x rfl,block_cell h.x rfl,h.so.cell⟩
theorem Slp.out{B p q bx:Nat}{t t':Tr}{sp sl:Int}{v:Value}{K:List (List UInt8)}{w W:World}{T:Sk}(h:Slp B p q bx t sp sl v K w T t' W):SoPost B p (footS p q t) T w W:=⟨_,⟨q,t',h.so,rfl⟩,h.kept,h.new⟩
theorem Slp.begin{B p q:Nat}{t:Tr}{sp sl:Int}{v:Value}{K:List (List UInt8)}{w W W':World}{S:Sk}(h:So B p q t S w)(hx:W.heap[w.heap.size]?=some (.cells #[uw sp,ui sl] 28 (0,0)))(hb:Below w.heap.size w W)(ho:W'.ownsRow W.heap.size 9 1 v K.length (kc K))(hb':Below W.heap.size W W'):Slp B p q w.heap.size t sp sl v K w S t W':=by
 have hbb:=hb.trans (hb'.mono hb.size);refine⟨h.on hbb,fun i hi=>.inl hi,Kept.of_below hbb,?_,fun hf=>?_,own_le ho hb.size,fun k hk hf=>?_⟩
 ·rw[hb'.block w.heap.size (gsz hx)];exact hx
 ·have:=(h.lt _ hf).2;omega
 ·have h1:=(own_lt ho hk).1;have:=(h.lt _ hf).2;have:=hb.size;omega
theorem prT_kl{p l:Int}{S:Sk}(m:Nat)(h:∀x∈S,x.1.length<=32):∀x∈prT p l S m,x.1.length<=32:=fun x hx=>by
 unfold prT at hx;rcases List.mem_append.1 hx with hx|hx
 ·obtain⟨y,hy,rfl,_⟩:=pruneS_mem.1 hx;exact h y (List.mem_of_mem_take hy)
 ·exact h x (List.mem_of_mem_drop hx)
theorem so_prune{B p q:Nat}{t:Tr}{S:Sk}{w:World}(sp sl:Int)(h:So B p q t S w)(ht:totS S<10000):
  Calls Tryz.prog 74 #[pz p,.agg #[uw sp,ui sl]] w fun e w'=>e=.returned (iw (goneS sp sl S))/\SoPost B p (footS p q t) (pruneS sp sl S) w w':=by
 have HS:Hid (So B p q t S w):=h;have HX:Hid ((w.alloc (.cells #[uw sp,ui sl] 28)).heap[w.heap.size]?=some (.cells #[uw sp,ui sl] 28 (0,0))/\Below w.heap.size w (w.alloc (.cells #[uw sp,ui sl] 28))):=⟨heap_alloc_new w _,al _⟩;have HT:Hid (totS S<10000):=ht;have CK:Hid (∀W,Below w.heap.size w W->Calls Tryz.prog 46 #[pz p] W fun e w'=>∃ka kp,e=.returned (.slice ka S.length kp)/\w'.ownsRow W.heap.size 9 1 (.slice ka S.length kp) (S.map (·.1)).length (kc (S.map (·.1)))/\Below W.heap.size W w'):=fun W hb=>so_keys (h.on hb) ht;clear h ht;go_enter Tryz.func74,Tryz.ntmps74;go_wp2_with fail;refine(CK.out _ HX.out.2).mono ?_;rintro e W2 ⟨ka,kp,rfl,ho2,hb2⟩;have HL:Hid (Slp B p q w.heap.size t sp sl (.slice ka S.length kp) (S.map (·.1)) w S t W2):=Slp.begin HS.out HX.out.1 HX.out.2 ho2 hb2;have HSok:Hid (SOk S):=HS.out.mc.sok;have HKl:Hid (∀x∈S,x.1.length<=32):=HS.out.kl;clear ho2 hb2 HX CK HS;have hkp:S.length<10000:=by have:=len_tot HSok.out.all;have:=HT.out;omega
 generalize hbx:w.heap.size=bx at*;have HBX:Hid _:=hbx;clear hbx;go_wp2_with fail;go_loopw [5,13] (fun n i wr=>∃(m:Nat) (t':Tr),m<=S.length/\i=iw m/\n=iw (goneS sp sl (S.take m))/\Slp B p q bx t sp sl (.slice ka S.length kp) (S.map (·.1)) w (prT sp sl S m) t' wr) (fun _ i _=>S.length-(intOf i).toNat)
 case atStart=>exact⟨0,t,Nat.zero_le _,rfl,rfl,HL.out⟩
 case round=>
  obtain⟨m,t',hm,rfl,rfl,hsl⟩:=hrel;have H3:Hid _:=hsl;clear hsl HL;by_cases hml:m<S.length
  ·have hml':(m:Int)<S.length:=by omega
   have hgn:=gone_snoc (p:=sp) (l:=sl) hml;have hch:Ch (S.getD m ds).2:=(HSok.out.all _ (getD_mem hml)).1;have HPC:Hid (Ch (pruneF (S.getD m ds).2 sp sl)):=(prune_ch hch sp sl).2;have hple:=prune_le hch sp sl;have hgb:goneS sp sl (S.take m)<1000000:=by have:=gone_le (p:=sp) (l:=sl) (S:=S.take m);have:=tot_take S m;have:=HT.out;omega
   have hcl:(S.getD m ds).2.length<=1000:=hch.len;have HTm:Hid (totS (prT sp sl S m)<10000):=by show _<_;have:=prT_tot (p:=sp) (l:=sl) m HSok.out;have:=HT.out;omega
   have HSet:Hid (¬pruneF (S.getD m ds).2 sp sl=[]->setF (S.getD m ds).1 (pruneF (S.getD m ds).2 sp sl) (prT sp sl S m)=prT sp sl S (m+1)):=prT_set HSok.out hml;have HCut:Hid (pruneF (S.getD m ds).2 sp sl=[]->cutF (S.getD m ds).1 (prT sp sl S m)=prT sp sl S (m+1)):=prT_cut HSok.out hml;have HCh:Hid (chainF (S.getD m ds).1 (prT sp sl S m)=(S.getD m ds).2):=prT_chain HSok.out hml;obtain⟨b,off,rfl,e0⟩:=H3.out.key (by simp) hml;rw[map_at S hml]at e0;obtain⟨gn1,hgn1⟩:=xj (goneS sp sl (S.take (m+1)));have HGn:Hid (goneS sp sl (S.take (m+1))=gn1):=hgn1;rw[hgn1]at hgn;clear hgn1;generalize goneS sp sl (S.take m)=gn at*;generalize S.getD m ds=x at*;obtain⟨a,c⟩:=x;dsimp only at e0 hgn HSet HCut HPC hple hch hcl HCh;have CG:Hid (1=1->Calls Tryz.prog 48 #[pz p,sd a] wr fun e w'=>∃ao cap,e=.returned (.slice ao c.length cap)/\VsAt w'.heap.size (.slice ao c.length cap) c w'/\Slp B p q bx t sp sl (.slice (some ⟨b,off,none⟩) S.length kp) (S.map (·.1)) w (prT sp sl S m) t' w'):=fun _=>by have:=so_of a H3.out.so;rw[HCh.out]at this;refine Calls.mono this ?_;rintro e w' ⟨ao,cap,rfl,hv,hb⟩;exact⟨ao,cap,rfl,hv,H3.out.step hb⟩
   have CP:Hid (∀W ao cap,VsAt W.heap.size (.slice ao c.length cap) c W->Slp B p q bx t sp sl (.slice (some ⟨b,off,none⟩) S.length kp) (S.map (·.1)) w (prT sp sl S m) t' W->Calls Tryz.prog 146 #[.slice ao c.length cap,.agg #[uw sp,ui sl]] W fun e w'=>∃ao2 cap2,e=.returned (.slice ao2 (pruneF c sp sl).length cap2)/\VsAt w'.heap.size (.slice ao2 (pruneF c sp sl).length cap2) (pruneF c sp sl) w'/\Slp B p q bx t sp sl (.slice (some ⟨b,off,none⟩) S.length kp) (S.map (·.1)) w (prT sp sl S m) t' w'):=fun W ao cap hv hs=>by refine(prune17 W.heap.size c _ sp sl W hv (Nat.le_refl _)).mono ?_;rintro e w' ⟨v',rfl,hv',hb⟩;obtain⟨ao2,cap2,rfl,h9⟩:=hv';exact⟨ao2,cap2,rfl,⟨ao2,cap2,rfl,h9⟩,hs.step hb⟩
   have CC:Hid (∀W,Slp B p q bx t sp sl (.slice (some ⟨b,off,none⟩) S.length kp) (S.map (·.1)) w (prT sp sl S m) t' W->pruneF c sp sl=[]->Calls Tryz.prog 147 #[pz q,sd a] W fun e w'=>∃g t'',e=.returned (.bool g)/\Slp B p q bx t sp sl (.slice (some ⟨b,off,none⟩) S.length kp) (S.map (·.1)) w (prT sp sl S (m+1)) t'' w'):=fun W hs hD=>by refine(mc_cut a hs.so.mc HTm.out).mono ?_;rintro e w' ⟨rfl,hp⟩;rw[HCut.out hD]at hp;obtain⟨t'',h9⟩:=hs.post hp (prT_kl (m+1) HKl.out);exact⟨_,t'',rfl,h9⟩
   have CS:Hid (∀W ao cap,Slp B p q bx t sp sl (.slice (some ⟨b,off,none⟩) S.length kp) (S.map (·.1)) w (prT sp sl S m) t' W->VsAt W.heap.size (.slice ao (pruneF c sp sl).length cap) (pruneF c sp sl) W->¬pruneF c sp sl=[]->Calls Tryz.prog 148 #[pz q,sd a,.slice ao (pruneF c sp sl).length cap] W fun e w'=>∃t'',e=.returned (.tuple #[])/\Slp B p q bx t sp sl (.slice (some ⟨b,off,none⟩) S.length kp) (S.map (·.1)) w (prT sp sl S (m+1)) t'' w'):=fun W ao cap hs hv hD=>by refine(mc_set a hs.so.mc HTm.out hv HPC.out hD).mono ?_;rintro e w' ⟨rfl,hp⟩;rw[HSet.out hD]at hp;obtain⟨t'',h9⟩:=hs.post hp (prT_kl (m+1) HKl.out);exact⟨t'',rfl,h9⟩
   generalize pruneF c sp sl=D at*;have hdl:D.length<=1000:=by omega
   have HGe:Hid ((gn:Int)+(c.length-D.length)=gn1):=by show _=_;omega
   obtain⟨y0,y1,y2⟩:=H3.out.stamp;clear HSet HCut HPC hgn HCh HTm hch;go_wp2_with fail;refine(CG.out (by trivial)).mono ?_;rintro e w4 ⟨ao,cap,rfl,hv4,h4⟩;have H4:Hid (VsAt w4.heap.size (.slice ao c.length cap) c w4/\Slp B p q bx t sp sl (.slice (some ⟨b,off,none⟩) S.length kp) (S.map (·.1)) w (prT sp sl S m) t' w4):=⟨hv4,h4⟩;clear hv4 h4 CG e0 y0 y1 y2 H3;obtain⟨y0,y1,y2⟩:=H4.out.2.stamp;go_wp2_with fail;refine(CP.out _ _ _ H4.out.1 H4.out.2).mono ?_;rintro e w5 ⟨ao2,cap2,rfl,hv5,h5⟩;have H5:Hid (VsAt w5.heap.size (.slice ao2 D.length cap2) D w5/\Slp B p q bx t sp sl (.slice (some ⟨b,off,none⟩) S.length kp) (S.map (·.1)) w (prT sp sl S m) t' w5):=⟨hv5,h5⟩;clear hv5 h5 CP y0 y1 y2 H4;obtain⟨y0,y1,y2⟩:=H5.out.2.stamp;by_cases hD:D=[]
   ·have CX:Hid (1=1->_):=fun _=>CC.out w5 H5.out.2 hD;have hD0:D.length=0:=by rw[hD];rfl
    generalize D.length=dn at*;subst hD0;clear CC CS;go_wp2_with fail;refine(CX.out (by trivial)).mono ?_;rintro e w6 ⟨g6,t6,rfl,h6⟩;have H6:Hid _:=h6;clear h6 CX y0 y1 y2 H5;go_wp2_with fail;go_roundw
    case rel=>exact⟨m+1,t6,by omega,by go_num,by rw[HGn.out,<-HGe.out];simp,H6.out⟩
    case measure=>simp[intOf];omega
   ·have CX:Hid (1=1->_):=fun _=>CS.out w5 ao2 cap2 H5.out.2 H5.out.1 hD;have hD0:((D.length:Int)==0)=false:=by rw[beq_eq_false_iff_ne];have:=List.length_pos_iff.2 hD;omega
    clear CC CS;go_wp2_with fail;refine(CX.out (by trivial)).mono ?_;rintro e w6 ⟨t6,rfl,h6⟩;have H6:Hid _:=h6;clear h6 CX y0 y1 y2 H5;go_wp2_with fail;go_roundw
    case rel=>exact⟨m+1,t6,by omega,by go_num,by rw[HGn.out,<-HGe.out],H6.out⟩
    case measure=>simp[intOf];omega
  ·have hml':¬(m:Int)<S.length:=by omega
   have HZ:Hid (goneS sp sl (S.take m)=goneS sp sl S/\SoPost B p (footS p q t) (pruneS sp sl S) w wr):=by have h9:=H3.out.out;rw[prT_end (by omega)]at h9;exact⟨by rw[List.take_of_length_le (by omega)],h9⟩
   clear H3;go_wp2_with fail;go_ret;rw[HZ.out.1];exact⟨rfl,HZ.out.2⟩
theorem keys_at{ka:Option Addr}{n kp:Nat}{K:List (List UInt8)}{B0:Nat}{W2 W:World}(hn:n=K.length)(ho:W2.ownsRow B0 9 1 (.slice ka n kp) K.length (kc K))(hb:Below W2.heap.size W2 W){m:Nat}(hm:m<n):∃b off,ka=some ⟨b,off,none⟩/\ce W b (off+m) (.string (bs (K.getD m []))):=by subst hn;obtain⟨b,off,e,_,hc⟩:=RwAt.cellAt (RwAt.on (rw_own ho) hb) (j:=m) (by rw[kc_length];exact hm);exact⟨b,off,e,hc m _ (by simp[kc,List.getD,hm])⟩
theorem clone_new(B:Nat)(C:List Ve)(v:Value)(w:World)(hv:VsAt B v C w)(hB:B<=w.heap.size)(hl:C.length<=1048576):
  Calls Tryz.prog 47 #[v] w fun e w'=>∃v',e=.returned v'/\VsOwn w.heap.size v' C w'/\Below w.heap.size w w':=by
 have hv':=hv;obtain⟨ao,cap,rfl,hlc,hcm,hx⟩:=hv;have H:Hid (VsAt B (.slice ao C.length cap) C w):=hv';have q22:∀(w:World) (a:Option Addr) (n c n' c':Nat),(binOp .eql 63 (.slice a n c) (.slice none n' c')).run Tryz.prog w=.ok (.bool a.isNone) w:=fun w a n c n' c'=>Lib.run_eql_slice_nil w _ _ a n c n' c' Tryz.underlying63;cases ao with
 |none=>
  have h0:C=[]:=by
   cases C with
   |nil=>rfl
   |cons a X=>
    obtain⟨b,o,e,_⟩:=hx (by simp at hlc;omega);cases e
  subst h0;clear hx hv';go_enter Tryz.func47,Tryz.ntmps47;go_wp2;go_ret;exact⟨_,rfl,VsOwn.nil _ _,Below.refl _ _⟩
 |some ad=>
  clear hx hv';have HL:Hid _:=hl;have HB:Hid _:=hB;have HM:Hid (VsOwn w.heap.size (.slice (some ⟨w.heap.size,0,none⟩) 0 0) [] (w.alloc (.cells #[] 120))):=VsOwn.made _ w (Nat.le_refl _);clear hl hB hlc hcm;go_enter Tryz.func47,Tryz.ntmps47;go_wp2_with (at_builtin;refine wpList_append_vs rfl _ _ rfl w.heap.size w.heap.size [] C _ _ rfl rfl HM.out ((H.out.le HB.out).on ((Below.refl _ w).alloc (Nat.le_refl _) _)) (by simp) (by simpa using HL.out) ?_);intro v' w1 hown hg;have HO:Hid (VsOwn w.heap.size v' C w1):=hown;have HG:Hid (Below w.heap.size w w1):=below_grown ((Below.refl _ w).alloc (Nat.le_refl _) _) (by simp) HM.out hg;clear hown hg;go_wp2;go_ret;exact⟨_,rfl,HO.out,HG.out⟩
def Apt(row:Option Nat)(L:Kv Sv):Prop:=∀x∈L,∀a:Addr,x.2.1=some a->0<x.2.2.1->row≠some a.block
theorem Chs.apart{w w':World}{row:Option Nat}(hk:Kept (fun k=>row=some k) w w'):∀{L:Kv Sv} {S:Sk},Chs w L S->Apt row L->Chs w' L S
 |[],[],_,_=>trivial
 |(k,s)::L,(q,c)::S,h,ha=>by refine⟨h.1,?_,Chs.apart hk h.2.2 (fun x hx=>ha x (List.mem_cons_of_mem _ hx))⟩;obtain⟨ao,cap,e,h1,h2,h3⟩:=h.2.1;refine⟨ao,cap,e,h1,h2,fun h0=>?_⟩;obtain⟨b,off,e1,hb,hc⟩:=h3 h0;simp only[svV,Value.slice.injEq]at e;refine⟨b,off,e1,fun h=>Nat.lt_of_lt_of_le (hb h) hk.size,fun i hi=>(hc i hi).kept hk (fun hg=>ha (k,s) (by simp) ⟨b,off,none⟩ (by rw[e.1,e1]) (by show 0<s.2.1;rw[e.2.1];omega) hg)⟩
theorem Chs.blk{w:World}:∀{L:Kv Sv} {S:Sk},Chs w L S->Apt (some w.heap.size) L
 |[],[],_=>fun _ h=>by cases h
 |(k,s)::L,(q,c)::S,h=>fun x hx a ha h0=>by
  rcases List.mem_cons.1 hx with rfl|hx
  ·obtain⟨ao,cap,e,h1,h2,h3⟩:=h.2.1;simp only[svV,Value.slice.injEq]at e;dsimp only at ha h0;obtain⟨b,off,e1,hb,_⟩:=h3 (by omega);rw[e.1,e1]at ha;injection ha with ha;subst ha;have:=hb (by omega);intro h9;injection h9 with h9;simp only at h9;omega
  ·exact Chs.blk h.2.2 x hx a ha h0
theorem Chs.snoc{w:World}{k:List UInt8}{s:Sv}{c:List Ve}(hv:VsAt w.heap.size (svV s) c w):∀{L:Kv Sv} {S:Sk},Chs w L S->Chs w (L++[(k,s)]) (S++[(k,c)])
 |[],[],_=>⟨rfl,hv,trivial⟩
 |(_,_)::_,(_,_)::_,h=>⟨h.1,h.2.1,Chs.snoc hv h.2.2⟩
structure Iw(W2:World)(S:Sk)(m:Nat)(vv:Value)(L:Kv Sv)(W:World):Prop where
 len:L.length=m
 chs:Chs W L (S.take m)
 apt:Apt vv.ownBlock L
 own:W.ownsRow W2.heap.size 65 2 vv m (itc L)
 bel:Below W2.heap.size W2 W
theorem Iw.on{W2 W W':World}{S:Sk}{m:Nat}{vv:Value}{L:Kv Sv}(h:Iw W2 S m vv L W)(hb:Below W.heap.size W W'):Iw W2 S m vv L W':=
 ⟨h.len,h.chs.on hb,h.apt,own_on h.own hb,h.bel.trans (hb.mono h.bel.size)⟩
theorem Iw.snoc{W2 W W':World}{S:Sk}{m:Nat}{vv v':Value}{L:Kv Sv}{a:List UInt8}{s:Sv}{c:List Ve}(h:Iw W2 S m vv L W)(hS:S.take (m+1)=S.take m++[(a,c)])(hv:VsAt W.heap.size (svV s) c W)(hs:∀ad:Addr,s.1=some ad->vv.ownBlock≠some ad.block)
  (hown:W'.ownsRow W2.heap.size 65 2 v' (m+1) (itc (L++[(a,s)]))) (hg:W.grownBy W' vv.ownBlock) (hat:v'.ownBlock=vv.ownBlock\/v'.ownBlock=some W.heap.size):Iw W2 S (m+1) v' (L++[(a,s)]) W':=by
 have hap:Apt vv.ownBlock (L++[(a,s)]):=fun x hx ad h1 h2=>by
  rcases List.mem_append.1 hx with hx|hx
  ·exact h.apt x hx ad h1 h2
  ·simp only[List.mem_singleton]at hx;subst hx;exact hs ad h1
 have hch:Chs W (L++[(a,s)]) (S.take (m+1)):=by rw[hS];exact Chs.snoc hv h.chs
 refine⟨by simp[h.len],hch.apart (grown_kept hg) hap,?_,hown,below_own h.bel h.bel.size h.own hg⟩;rcases hat with e|e
 ·rw[e];exact hap
 ·rw[e];exact hch.blk
theorem Iw.begin(W2:World)(S:Sk):Iw W2 S 0 sy [] W2:=⟨rfl,trivial,(fun _ h=>by cases h),own_nil _ _ _ _,Below.refl _ _⟩
theorem own_tag{w:World}{base e size n k:Nat}{v:Value}{cs:List Value}(h:w.ownsRow base e size v n cs)(hk:v.ownBlock=some k):∃c,w.heap[k]?=some (.cells c e (0,0)):=by
 rcases h.2 with⟨rfl,_⟩|⟨g,cap,cur,rfl,_,hg,_⟩
 ·cases hk
 ·simp only[Value.ownBlock,Option.some.injEq]at hk;subst hk;exact⟨cur,hg⟩
theorem own_blk{base e size n k:Nat}{v:Value}{cs:List Value}{w:World}(h:w.ownsRow base e size v n cs)(hk:v.ownBlock=some k):k<w.heap.size:=(World.ownsRow.lt h k hk).2
theorem so_items{B p q:Nat}{t:Tr}{S:Sk}{w:World}(h:So B p q t S w)(ht:totS S<10000):
  Calls Tryz.prog 24 #[pz p] w fun e w'=>∃v' L,e=.returned v'/\ItAt v' L S w'/\(∀k,v'.ownBlock=some k->w.heap.size<=k/\∃cs,w'.heap[k]?=some (.cells cs 65 (0,0)))/\Below w.heap.size w w':=by
 obtain⟨i0,hin,hi0,hi1,hi2⟩:=info_parts info57;have HS:Hid (So B p q t S w):=h;have HT:Hid (totS S<10000):=ht;have CK:Hid (1=1->_):=fun _=>so_keys h ht;clear h ht;go_enter Tryz.func24,Tryz.ntmps24;go_wp2_with fail;refine(CK.out (by trivial)).mono ?_;rintro e W2 ⟨ka,kp,rfl,ho2,hb2⟩;have H2:Hid (W2.ownsRow w.heap.size 9 1 (.slice ka S.length kp) (S.map (·.1)).length (kc (S.map (·.1)))/\Below w.heap.size w W2):=⟨ho2,hb2⟩;have HS2:Hid (So B p q t S W2):=HS.out.on hb2;have hkp:S.length<10000:=by have:=len_tot HS.out.mc.sok.all;have:=HT.out;omega
 clear ho2 hb2 CK HS;go_wp2_with fail;go_loopw [3,9] (fun vv i wr=>∃(m:Nat) (L:Kv Sv),m<=S.length/\i=iw m/\Iw W2 S m vv L wr) (fun _ i _=>S.length-(intOf i).toNat)
 case atStart=>exact⟨0,[],Nat.zero_le _,rfl,Iw.begin W2 S⟩
 case round=>
  obtain⟨m,L,hm,rfl,hiw⟩:=hrel;obtain⟨sa,sc,rfl,-,-,-,-⟩:=rw_own hiw.own;have HI:Hid (Iw W2 S m (.slice sa m sc) L wr):=hiw;clear hiw;by_cases hml:m<S.length
  ·obtain⟨b,off,rfl,e0⟩:=keys_at (by simp) H2.out.1 HI.out.bel hml;have hml':(m:Int)<S.length:=by omega
   rw[map_at S hml]at e0;have HCh:Hid (chainF (S.getD m ds).1 S=(S.getD m ds).2):=chain_mem HS2.out.mc.sok (getD_mem hml);have HTk:Hid (S.take (m+1)=S.take m++[S.getD m ds]):=stk_snoc hml;have hcl:(S.getD m ds).2.length<=1000:=(HS2.out.mc.sok.all _ (getD_mem hml)).1.len;generalize S.getD m ds=x at*;obtain⟨a,c⟩:=x;dsimp only at e0 HCh hcl;have CG:Hid (1=1->Calls Tryz.prog 48 #[pz p,sd a] wr fun e w'=>∃ao cap,e=.returned (.slice ao c.length cap)/\VsAt w'.heap.size (.slice ao c.length cap) c w'/\Iw W2 S m (.slice sa m sc) L w'):=fun _=>by have:=so_of a (HS2.out.on HI.out.bel);rw[HCh.out]at this;refine Calls.mono this ?_;rintro e w' ⟨ao,cap,rfl,hv,hb⟩;exact⟨ao,cap,rfl,hv,HI.out.on hb⟩
   have CC:Hid (∀W ao cap,VsAt W.heap.size (.slice ao c.length cap) c W->Iw W2 S m (.slice sa m sc) L W->Calls Tryz.prog 47 #[.slice ao c.length cap] W fun e w'=>∃s1 s3,e=.returned (.slice s1 c.length s3)/\VsAt w'.heap.size (svV (s1,c.length,s3)) c w'/\(∀ad:Addr,s1=some ad->(Value.slice sa m sc).ownBlock≠some ad.block)/\Iw W2 S m (.slice sa m sc) L w'):=fun W ao cap hv hi=>by refine(clone_new W.heap.size c _ W hv (Nat.le_refl _) (by omega)).mono ?_;rintro e w' ⟨v',rfl,ho,hb⟩;have hv':=ho.at;obtain⟨s1,s3,rfl,h9⟩:=hv';refine⟨s1,s3,rfl,⟨s1,s3,rfl,h9⟩,fun ad had hbk=>?_,hi.on hb⟩;subst had;have h1:=own_blk hi.own hbk;have h2:=(World.ownsRow.lt ho ad.block rfl).1;omega
   clear hcl;go_wp2_with fail;refine(CG.out (by trivial)).mono ?_;rintro e w3 ⟨ao,cap,rfl,hv3,hi3⟩;have H3:Hid (VsAt w3.heap.size (.slice ao c.length cap) c w3/\Iw W2 S m (.slice sa m sc) L w3):=⟨hv3,hi3⟩;clear hv3 hi3 CG HI e0;go_wp2_with fail;refine(CC.out _ _ _ H3.out.1 H3.out.2).mono ?_;rintro e w4 ⟨s1,s3,rfl,hv4,hs4,hi4⟩;have H4:Hid (VsAt w4.heap.size (svV (s1,c.length,s3)) c w4/\(∀ad:Addr,s1=some ad->(Value.slice sa m sc).ownBlock≠some ad.block)/\Iw W2 S m (.slice sa m sc) L w4):=⟨hv4,hs4,hi4⟩;have HOw:Hid (Ow W2.heap.size 65 2 (.slice sa m sc) m (itc L) (w4.heap.size+1) (.slice (some ⟨w4.heap.size,0,none⟩) 1 1) 1 (itc [(a,s1,c.length,s3)]) (w4.alloc (.cells #[sd a,.slice s1 c.length s3] 65))):=it_ow a (s1,c.length,s3) hi4.own hi4.bel.size (by omega);clear hv4 hs4 hi4 CC H3;go_wp2_with (at_builtin;refine wpList_append_rw HOw.out Tryz.underlying45 hin hi0 hi1 hi2 rfl (by decide) (by decide) (.tmp 13) (.tmp 20) rfl rfl rfl rfl ?_);intro v' w5 hown hg hat;have HI5:Hid (Iw W2 S (m+1) v' (L++[(a,s1,c.length,s3)]) w5):=by have hbl:Below w4.heap.size w4 (w4.alloc (.cells #[sd a,.slice s1 c.length s3] 65)):=al _;refine Iw.snoc (H4.out.2.2.on hbl) HTk.out ((VsAt.on H4.out.1 hbl).le hbl.size) H4.out.2.1 ?_ hg (by simpa using hat);rw[itc_append];exact hown
   clear hown hg hat HOw H4;go_wp2_with fail;go_roundw
   case rel=>exact⟨m+1,_,by omega,by go_num,HI5.out⟩
   case measure=>simp[intOf];omega
  ·have hml':¬(m:Int)<S.length:=by omega
   have HZ:Hid (ItAt (.slice sa m sc) L S wr/\(∀k,(Value.slice sa m sc).ownBlock=some k->w.heap.size<=k/\∃cs,wr.heap[k]?=some (.cells cs 65 (0,0)))/\Below w.heap.size w wr):=by have h1:=rw_own HI.out.own;have h4:∀k,(Value.slice sa m sc).ownBlock=some k->w.heap.size<=k/\∃cs,wr.heap[k]?=some (.cells cs 65 (0,0)):=fun k hk=>⟨Nat.le_trans H2.out.2.size (World.ownsRow.lt HI.out.own k hk).1,own_tag HI.out.own hk⟩;have h2:=HI.out.chs;rw[List.take_of_length_le (by omega)]at h2;have h3:=HI.out.len;subst h3;exact⟨⟨h1,h2⟩,h4,H2.out.2.trans (HI.out.bel.mono H2.out.2.size)⟩
   go_wp2_with fail;go_ret;exact⟨_,rfl,⟨L,HZ.out.1⟩,HZ.out.2⟩
end Go.Proofs.YtdplfgcoaddbdaaGreat.Sto
