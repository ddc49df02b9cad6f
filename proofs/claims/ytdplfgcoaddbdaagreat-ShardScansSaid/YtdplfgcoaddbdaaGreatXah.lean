import Derived.Test.YtdplfgcoaddbdaaGreatXag
set_option maxHeartbeats 4000000
set_option maxRecDepth 100000
set_option linter.unusedVariables false
set_option linter.unusedSimpArgs false
namespace Go.Proofs.YtdplfgcoaddbdaaGreat.Sto
open Go.RowKit
theorem TrAt.below{Y:Lay}{t:Tr}{B:Nat}{w w':World}(h:TrAt Y t w)(hb:Below B w w')(hB:∀b∈t.blocks,b<B):TrAt Y t w':=TrAt.kept (Kept.of_below' hb) h (fun b hb' e=>by have:=hB b hb';omega)
theorem gather24(B:Nat)(lo hi:List UInt8)(limit:Int)(t:Tr):∀(K:List (List UInt8)) (vs:Value) (w:World),TrAt nl t w->(∀b∈t.blocks,b<B)->Srt t.toL->B<=w.heap.size->w.ownsRow B 9 1 vs K.length (kc K)->K.length+t.toL.length<1000000->
  Calls Tryz.prog 170 #[t.ptr,vs,sd lo,sd hi,iw limit] w fun e w'=>∃v',e=.returned v'/\w'.ownsRow B 9 1 v' (gatF limit.toNat K (rangeF lo hi t.toL)).length (kc (gatF limit.toNat K (rangeF lo hi t.toL)))/\Below B w w':=by
 obtain⟨i0,hin,hi0,hi1,hi2⟩:=info_parts info9;induction t using Tr.ind with
 |nil=>
  intro K vs w _ _ _ _ ho _;obtain⟨sa,sc,rfl,-,-,-,-⟩:=rw_own ho;have HO:Hid _:=ho;clear ho hin hi0 hi1 hi2;simp only[Tr.toL,rangeF,List.map_nil,List.filter_nil,gat_nil,Tr.ptr];go_enter Tryz.func170,Tryz.ntmps170;go_wp2_with fail;go_ret;exact⟨_,rfl,HO.out,Below.refl _ _⟩
 |node b l k u x r ihl ihr=>
  intro K vs w ha hB hs hBw ho hf;obtain⟨sa,sc,rfl,-,-,-,-⟩:=rw_own ho;by_cases hroom:limit<=K.length
  ·have HX:Hid (gatF limit.toNat K (rangeF lo hi (Tr.node b l k u x r).toL)=K):=gat_full (by omega) _;rw[HX.out];have HO:Hid _:=ho;clear ho HX ha hB hs hBw hf ihl ihr hin hi0 hi1 hi2;simp only[Tr.ptr];go_enter Tryz.func170,Tryz.ntmps170;go_wp2_with fail;go_ret;exact⟨_,rfl,HO.out,Below.refl _ _⟩
  ·obtain⟨hs1,hs2,_,_⟩:=srt_parts hs;have hf':=hf;simp only[Tr.toL,List.length_append,List.length_cons]at hf';have hr':¬limit<=(K.length:Int):=by omega
   obtain⟨c0,-,c2,-,-⟩:=nd_cells ha.1;have q1:=bl lo k;have q2:=bl k lo;have q3:=bl k hi;have q4:(bs hi).toList.isEmpty=hi.isEmpty:=by rw[bs_list]
   have HA:Hid (∀w',Below B w w'->TrAt nl (.node b l k u x r) w'):=fun w' hb=>ha.below hb hB;have CL:Hid (1=1->Calls Tryz.prog 170 #[l.ptr,.slice sa K.length sc,sd lo,sd hi,iw limit] w fun e w'=>∃v',e=.returned v'/\w'.ownsRow B 9 1 v' (gatF limit.toNat K (rangeF lo hi l.toL)).length (kc (gatF limit.toNat K (rangeF lo hi l.toL)))/\Below B w w'):=
    fun _=>ihl K _ w ha.2.1 (fun i hi=>hB i (by simp[Tr.blocks,hi])) hs1 hBw ho (by omega)
   have CR:Hid (∀(K2:List (List UInt8)) (v2:Value) (w2:World),Below B w w2->w2.ownsRow B 9 1 v2 K2.length (kc K2)->K2.length+r.toL.length<1000000->Calls Tryz.prog 170 #[r.ptr,v2,sd lo,sd hi,iw limit] w2 fun e w'=>∃v',e=.returned v'/\w'.ownsRow B 9 1 v' (gatF limit.toNat K2 (rangeF lo hi r.toL)).length (kc (gatF limit.toNat K2 (rangeF lo hi r.toL)))/\Below B w2 w'):=
    fun K2 v2 w2 hb ho2 hf2=>ihr K2 v2 w2 (HA.out w2 hb).2.2 (fun i hi=>hB i (by simp[Tr.blocks,hi])) hs2 (Nat.le_trans hBw hb.size) ho2 hf2
   have HZ1:Hid (ltK lo k=false->gatF limit.toNat K (rangeF lo hi l.toL)=K):=fun h=>by rw[below_lo hs h,gat_nil]
   have HZ2:Hid (hi.isEmpty=false->ltK k hi=false->gatF limit.toNat K (rangeF lo hi (Tr.node b l k u x r).toL)=gatF limit.toNat K (rangeF lo hi l.toL)):=fun h0 h=>gat_stop hs h0 h;have HZ3:Hid ((hi.isEmpty||ltK k hi)=true->gatF limit.toNat K (rangeF lo hi (Tr.node b l k u x r).toL)=gatF limit.toNat (if ltK k lo=false/\(gatF limit.toNat K (rangeF lo hi l.toL)).length<limit.toNat then gatF limit.toNat K (rangeF lo hi l.toL)++[k]else gatF limit.toNat K (rangeF lo hi l.toL)) (rangeF lo hi r.toL)):=fun h=>gat_on h;have HO:Hid (w.ownsRow B 9 1 (.slice sa K.length sc) K.length (kc K)):=ho;have HF:Hid ((gatF limit.toNat K (rangeF lo hi l.toL)).length+1+r.toL.length<1000000):=by have:=gat_len limit.toNat K (rangeF lo hi l.toL);have:=range_len lo hi l.toL;show _<_;omega
   clear ihl ihr ha hB hs hf hs1 hs2 hf' ho hroom;generalize gatF limit.toNat K (rangeF lo hi (Tr.node b l k u x r).toL)=Y at*;generalize gatF limit.toNat K (rangeF lo hi l.toL)=K1 at*;obtain⟨lp,hlp⟩:=xj l.ptr;rw[hlp]at c2 CL;clear hlp;simp only[Tr.ptr];generalize ltK lo k=z1 at*;generalize ltK k lo=z2 at*;generalize ltK k hi=z3 at*;generalize hi.isEmpty=z4 at*;go_enter Tryz.func170,Tryz.ntmps170;go_upto_if 25 with fail
   go_cut [1] (fun v wc=>∃sa sc,v=.slice sa K1.length sc/\Hid (wc.ownsRow B 9 1 v K1.length (kc K1)/\Below B w wc))
   case first=>
    cases z1
    ·have h1:=HZ1.out rfl;subst h1;go_wp2_with fail;go_meet;exact⟨sa,sc,rfl,HO.out,Below.refl _ _⟩
    ·go_wp2_with fail;refine(CL.out (by trivial)).mono ?_;rintro e w1 ⟨v1,rfl,ho1,hb1⟩;obtain⟨sa1,sc1,rfl,-,-,-,-⟩:=rw_own ho1;have H1:Hid _:=And.intro ho1 hb1;clear ho1 hb1;go_wp2_with fail;go_meet;exact⟨sa1,sc1,rfl,H1.out⟩
   case rest=>
    obtain⟨sa1,sc1,rfl,H1⟩:=hcut;obtain⟨d0,-,-,-,-⟩:=nd_cells (HA.out wc H1.out.2).1;obtain⟨rp,hrp⟩:=xj r.ptr;have HR:Hid (∀w',Below B w w'->ce w' b 3 rp):=fun w' hb=>by rw[<-hrp];exact(nd_cells (HA.out w' hb).1).2.2.2.1
    rw[hrp]at CR;clear hrp c0 c2 CL HO HZ1 HA;by_cases hstop:z4=false/\z3=false
    ·obtain⟨rfl,rfl⟩:=hstop;have h:=HZ2.out rfl rfl;subst h;go_wp2_with fail;go_ret;exact⟨_,rfl,H1.out⟩
    ·have HY:Hid _:=HZ3.out (by cases z4<;>cases z3<;>simp at hstop|-);have harms:z4=true\/z4=false/\z3=true:=by cases z4<;>cases z3<;>simp at hstop|-
     clear hstop HZ2 HZ3;have CC:Hid (∀(K2:List (List UInt8)) (v2:Value) (w2:World),K2=(if z2=false/\K1.length<limit.toNat then K1++[k]else K1)->w2.ownsRow B 9 1 v2 K2.length (kc K2)->Below B w w2->Calls Tryz.prog 170 #[rp,v2,sd lo,sd hi,iw limit] w2 fun e w'=>∃v',e=.returned v'/\w'.ownsRow B 9 1 v' Y.length (kc Y)/\Below B w w'):=fun K2 v2 w2 hK2 ho hb=>by
      have hl2:K2.length+r.toL.length<1000000:=by have:=HF.out;rw[hK2];split<;>simp<;>omega
      refine(CR.out K2 _ _ hb ho hl2).mono ?_;rintro e w' ⟨v',rfl,ho',hb'⟩;rw[HY.out,<-hK2];exact⟨v',rfl,ho',hb.trans hb'⟩
     clear CR HY;rcases harms with rfl|⟨rfl,rfl⟩
     all_goals
      cases z2
      ·by_cases hlt:(K1.length:Int)<limit
       ·have HOw:Hid (Ow B 9 1 (.slice sa1 K1.length sc1) K1.length (kc K1) (wc.heap.size+1) (.slice (some ⟨wc.heap.size,0,none⟩) 1 1) 1 (kc [k]) (wc.alloc (.cells #[sd k] 9))):=⟨World.ownsRow.alloc H1.out.1 _,ks_one wc k,kc_one _,Nat.le_trans hBw (Nat.le_trans H1.out.2.size (by simp)),by have:=HF.out;omega⟩;have HK:Hid (K1++[k]=(if false=false/\K1.length<limit.toNat then K1++[k]else K1)):=(if_pos ⟨rfl,by omega⟩).symm;go_wp2_with (at_builtin;refine wpList_append_rw HOw.out Tryz.underlying101 hin hi0 hi1 hi2 rfl (by decide) (by decide) (.tmp 58) (.tmp 63) rfl rfl rfl rfl ?_);intro v' w2 hown hg hat;have HB2:Hid (Below B w w2):=below_own (H1.out.2.alloc (Nat.le_trans hBw H1.out.2.size) _) HOw.out.size HOw.out.own hg;obtain⟨sa2,sc2,rfl,-,-,-,-⟩:=rw_own hown;have CR2:Hid (1=1->_):=fun _=>CC.out (K1++[k]) (.slice sa2 (K1.length+1) sc2) w2 HK.out (by rw[kc_append,List.length_append];exact hown) HB2.out;have d3:=HR.out _ HB2.out;clear hown hg hat HOw HK HB2 CC;go_wp2_with fail;refine(CR2.out (by trivial)).mono ?_;rintro e w3 ⟨v3,rfl,ho3,hb3⟩;obtain⟨sa3,sc3,rfl,-,-,-,-⟩:=rw_own ho3;have H3:Hid _:=And.intro ho3 hb3;clear ho3 hb3 CR2;go_wp2_with fail;go_ret;exact⟨_,rfl,H3.out⟩
       ·have hge:¬(K1.length:Int)<limit:=hlt;have HK:Hid (K1=(if false=false/\K1.length<limit.toNat then K1++[k]else K1)):=(if_neg (by omega)).symm;have CR2:Hid (1=1->_):=fun _=>CC.out K1 (.slice sa1 K1.length sc1) wc HK.out H1.out.1 H1.out.2;have d3:=HR.out _ H1.out.2;clear hlt HK CC;go_wp2_with fail;refine(CR2.out (by trivial)).mono ?_;rintro e w3 ⟨v3,rfl,ho3,hb3⟩;obtain⟨sa3,sc3,rfl,-,-,-,-⟩:=rw_own ho3;have H3:Hid _:=And.intro ho3 hb3;clear ho3 hb3 CR2;go_wp2_with fail;go_ret;exact⟨_,rfl,H3.out⟩
      ·have CR2:Hid (1=1->_):=fun _=>CC.out K1 (.slice sa1 K1.length sc1) wc (by simp) H1.out.1 H1.out.2;have d3:=HR.out _ H1.out.2;clear CC;go_wp2_with fail;refine(CR2.out (by trivial)).mono ?_;rintro e w3 ⟨v3,rfl,ho3,hb3⟩;obtain⟨sa3,sc3,rfl,-,-,-,-⟩:=rw_own ho3;have H3:Hid _:=And.intro ho3 hb3;clear ho3 hb3 CR2;go_wp2_with fail;go_ret;exact⟨_,rfl,H3.out⟩
theorem Tr.is_ptr(t:Tr):∃o,t.ptr=.pointer o:=by
 cases t using Tr.cas with
 |nil=>exact⟨_,rfl⟩
 |node b l k v x r=>exact⟨_,rfl⟩
structure Nd(b:Nat)(l r:Tr)(k:List UInt8)(v:Sv)(x:Nat)(w:World):Prop where
 ok:TrAt nl (.node b l k v x r) w
 nd:(Tr.node b l k v x r).blocks.Nodup
 hl:Hk l
 hr:Hk r
 few:l.toL.length+r.toL.length<200000
theorem Nd.bl{b:Nat}{l r:Tr}{k:List UInt8}{v:Sv}{x:Nat}{w:World}(h:Nd b l r k v x w):0<=l.hi/\l.hi<=1000000:=by have:=h.hl.bounds;have:=h.few;omega
theorem Nd.br{b:Nat}{l r:Tr}{k:List UInt8}{v:Sv}{x:Nat}{w:World}(h:Nd b l r k v x w):0<=r.hi/\r.hi<=1000000:=by have:=h.hr.bounds;have:=h.few;omega
theorem Nd.measure{b:Nat}{l r:Tr}{k:List UInt8}{v:Sv}{x:Nat}{w:World}(h:Nd b l r k v x w):
  Calls Tryz.prog 265 #[pz b] w fun e w'=>e=.returned (.tuple #[])/\Nd b l r k v (1+max l.hn r.hn) w'/\Kept (fun i=>i=b) w w':=by
 refine(measure30 h.ok h.bl h.br).mono ?_;rintro e w' ⟨rfl,hb,hk⟩;have hn:=h.nd;simp only[Tr.blocks,List.nodup_cons,List.mem_append,not_or]at hn;exact⟨rfl,⟨TrAt.write hk hb h.ok.2.1 h.ok.2.2 hn.1.1 hn.1.2,h.nd,h.hl,h.hr,h.few⟩,hk⟩
theorem rotl{b c:Nat}{l m r:Tr}{k q:List UInt8}{v u:Sv}{x y:Nat}{w:World}(h:TrAt nl (.node b l k v x (.node c m q u y r)) w)(hn:(Tr.node b l k v x (.node c m q u y r)).blocks.Nodup)(hl:Hk l)(hm:Hk m)(hr:Hk r)(few:l.toL.length+m.toL.length+r.toL.length<100000):
  Nd b l m k v x ((w.setCell ⟨b,3,none⟩ m.ptr).setCell ⟨c,2,none⟩ (pz b))/\Kept (fun i=>i=b\/i=c) w ((w.setCell ⟨b,3,none⟩ m.ptr).setCell ⟨c,2,none⟩ (pz b))/\(∀W',Nd b l m k v (1+max l.hn m.hn) W'->Kept (fun i=>i=b) ((w.setCell ⟨b,3,none⟩ m.ptr).setCell ⟨c,2,none⟩ (pz b)) W'->Nd c (.node b l k v (1+max l.hn m.hn) m) r q u y W'):=by
 have hn0:=hn;obtain⟨h1,h2,h3,h4,h5⟩:=h;simp only[Tr.blocks,List.nodup_cons,List.mem_append,List.mem_cons,not_or,List.nodup_append]at hn;obtain⟨⟨nbl,nbc,nbm,nbr⟩,n1,⟨⟨ncm,ncr⟩,n2,n3,n4⟩,n5⟩:=hn;have ncl:c∉l.blocks:=fun hc=>n5 c hc c (.inl rfl) rfl;have k1:=set_kept' w b 3 m.ptr;have k2:=set_kept' (w.setCell ⟨b,3,none⟩ m.ptr) c 2 (pz b);have kk:Kept (fun i=>i=b\/i=c) w ((w.setCell ⟨b,3,none⟩ m.ptr).setCell ⟨c,2,none⟩ (pz b)):=by refine⟨k2.os.trans k1.os,k2.tape.trans k1.tape,k2.output.trans k1.output,Nat.le_trans k1.size k2.size,fun i hi hF=>?_⟩;rw[k2.block i (Nat.lt_of_lt_of_le hi k1.size) (fun e=>hF (.inr e)),k1.block i hi (fun e=>hF (.inl e))]
 have eb:((w.setCell ⟨b,3,none⟩ m.ptr).setCell ⟨c,2,none⟩ (pz b)).heap[b]?=some (.cells (nl.cells k v x l.ptr m.ptr) nl.ty (0,0)):=by rw[k2.block b (Nat.lt_of_lt_of_le (gsz h1) k1.size) nbc];exact block_set _ h1
 have ec:((w.setCell ⟨b,3,none⟩ m.ptr).setCell ⟨c,2,none⟩ (pz b)).heap[c]?=some (.cells (nl.cells q u y (pz b) r.ptr) nl.ty (0,0)):=by refine block_set _ (?_:_=some (Obj.cells (nl.cells q u y m.ptr r.ptr) nl.ty (0,0)));rw[k1.block c (gsz h3) (fun e=>nbc e.symm)];exact h3
 have tl:TrAt nl l ((w.setCell ⟨b,3,none⟩ m.ptr).setCell ⟨c,2,none⟩ (pz b)):=TrAt.kept kk h2 (fun i hi e=>by rcases e with rfl|rfl;exact nbl hi;exact ncl hi);have tm:TrAt nl m ((w.setCell ⟨b,3,none⟩ m.ptr).setCell ⟨c,2,none⟩ (pz b)):=TrAt.kept kk h4 (fun i hi e=>by rcases e with rfl|rfl;exact nbm hi;exact ncm hi);have tr:TrAt nl r ((w.setCell ⟨b,3,none⟩ m.ptr).setCell ⟨c,2,none⟩ (pz b)):=TrAt.kept kk h5 (fun i hi e=>by rcases e with rfl|rfl;exact nbr hi;exact ncr hi);have hp:(c::((b::(l.blocks++m.blocks))++r.blocks)).Nodup:=by refine(List.Perm.nodup_iff ?_).1 hn0;rw[List.perm_iff_count];intro a;simp only[Tr.blocks,List.count_cons,List.count_append];omega
 refine⟨⟨⟨eb,tl,tm⟩,?_,hl,hm,by omega⟩,kk,fun W' hN hk=>⟨⟨?_,hN.ok,TrAt.kept hk tr (fun i hi e=>nbr (e▸hi))⟩,hp,⟨rfl,hl,hm⟩,hr,?_⟩⟩
 ·simp only[Tr.blocks,List.nodup_cons,List.mem_append,not_or,List.nodup_append];exact⟨⟨nbl,nbm⟩,n1,n2,fun i hi j hj=>n5 i hi j (.inr (.inl hj))⟩
 ·rw[hk.block c (gsz ec) (fun e=>nbc e.symm)];exact ec
 ·simp only[Tr.toL,List.length_append,List.length_cons];omega
theorem left28{b c:Nat}{l m r:Tr}{k q:List UInt8}{v u:Sv}{x y:Nat}{w:World}(h:TrAt nl (.node b l k v x (.node c m q u y r)) w)(hn:(Tr.node b l k v x (.node c m q u y r)).blocks.Nodup)(hl:Hk l)(hm:Hk m)(hr:Hk r)(few:l.toL.length+m.toL.length+r.toL.length<100000):
  Calls Tryz.prog 263 #[pz b] w fun e w'=>∃x' y',e=.returned (pz c)/\TrAt nl (.node c (.node b l k v x' m) q u y' r) w'/\Hk (.node c (.node b l k v x' m) q u y' r)/\Kept (fun i=>i=b\/i=c) w w':=by
 obtain⟨-,-,-,b3',-⟩:=nd_cells h.1;have b3:ce w b 3 (pz c):=b3';obtain⟨-,-,c2,-,-⟩:=nd_cells h.2.2.1;have fb:=block_frozen h.1 3;have fc:=block_frozen h.2.2.1 2;have H:Hid _:=rotl h hn hl hm hr few;have hbc:b≠c:=by intro e;subst e;simp[Tr.blocks]at hn
 have HL:Hid (Hk l/\Hk m/\Hk r):=⟨hl,hm,hr⟩;clear h hn few hl hm hr b3';obtain⟨mo,hmo⟩:=m.is_ptr;rw[hmo]at c2 H;clear hmo;go_enter Tryz.func263,Tryz.ntmps263;go_wp2_with fail;refine H.out.1.measure.mono ?_;rintro e w1 ⟨rfl,h1,k1⟩;have H2:Hid _:=H.out.2.2 w1 h1 k1;have K1:Hid (Kept (fun i=>i=b\/i=c) w w1):=H.out.2.1.trans k1 (fun i e=>.inl (.inl e));clear h1 k1 H b3 c2 fb fc;go_wp2_with fail;refine H2.out.measure.mono ?_;rintro e w2 ⟨rfl,h2,k2⟩;have H3:Hid _:=h2;have K2:Hid (Kept (fun i=>i=b\/i=c) w w2):=K1.out.trans k2 (fun i e=>.inl (.inr e));clear h2 k2 H2 K1;go_wp2_with fail;go_ret;exact⟨_,_,rfl,H3.out.ok,⟨rfl,H3.out.hl,H3.out.hr⟩,K2.out⟩
theorem rotr{b c:Nat}{l m r:Tr}{k q:List UInt8}{v u:Sv}{x y:Nat}{w:World}(h:TrAt nl (.node b (.node c l q u y m) k v x r) w)(hn:(Tr.node b (.node c l q u y m) k v x r).blocks.Nodup)(hl:Hk l)(hm:Hk m)(hr:Hk r)(few:l.toL.length+m.toL.length+r.toL.length<100000):
  Nd b m r k v x ((w.setCell ⟨b,2,none⟩ m.ptr).setCell ⟨c,3,none⟩ (pz b))/\Kept (fun i=>i=b\/i=c) w ((w.setCell ⟨b,2,none⟩ m.ptr).setCell ⟨c,3,none⟩ (pz b))/\(∀W',Nd b m r k v (1+max m.hn r.hn) W'->Kept (fun i=>i=b) ((w.setCell ⟨b,2,none⟩ m.ptr).setCell ⟨c,3,none⟩ (pz b)) W'->Nd c l (.node b m k v (1+max m.hn r.hn) r) q u y W'):=by
 have hn0:=hn;obtain⟨h1,⟨h3,h2,h4⟩,h5⟩:=h;simp only[Tr.blocks,List.cons_append,List.nodup_cons,List.mem_append,List.mem_cons,not_or,List.nodup_append]at hn;obtain⟨⟨nbc,⟨nbl,nbm⟩,nbr⟩,⟨⟨ncl,ncm⟩,ncr⟩,⟨n1,n2,n4⟩,n3,n5⟩:=hn;have k1:=set_kept' w b 2 m.ptr;have k2:=set_kept' (w.setCell ⟨b,2,none⟩ m.ptr) c 3 (pz b);have kk:Kept (fun i=>i=b\/i=c) w ((w.setCell ⟨b,2,none⟩ m.ptr).setCell ⟨c,3,none⟩ (pz b)):=by refine⟨k2.os.trans k1.os,k2.tape.trans k1.tape,k2.output.trans k1.output,Nat.le_trans k1.size k2.size,fun i hi hF=>?_⟩;rw[k2.block i (Nat.lt_of_lt_of_le hi k1.size) (fun e=>hF (.inr e)),k1.block i hi (fun e=>hF (.inl e))]
 have eb:((w.setCell ⟨b,2,none⟩ m.ptr).setCell ⟨c,3,none⟩ (pz b)).heap[b]?=some (.cells (nl.cells k v x m.ptr r.ptr) nl.ty (0,0)):=by rw[k2.block b (Nat.lt_of_lt_of_le (gsz h1) k1.size) nbc];exact block_set _ h1
 have ec:((w.setCell ⟨b,2,none⟩ m.ptr).setCell ⟨c,3,none⟩ (pz b)).heap[c]?=some (.cells (nl.cells q u y l.ptr (pz b)) nl.ty (0,0)):=by refine block_set _ (?_:_=some (Obj.cells (nl.cells q u y l.ptr m.ptr) nl.ty (0,0)));rw[k1.block c (gsz h3) (fun e=>nbc e.symm)];exact h3
 have tl:TrAt nl l ((w.setCell ⟨b,2,none⟩ m.ptr).setCell ⟨c,3,none⟩ (pz b)):=TrAt.kept kk h2 (fun i hi e=>by rcases e with rfl|rfl;exact nbl hi;exact ncl hi);have tm:TrAt nl m ((w.setCell ⟨b,2,none⟩ m.ptr).setCell ⟨c,3,none⟩ (pz b)):=TrAt.kept kk h4 (fun i hi e=>by rcases e with rfl|rfl;exact nbm hi;exact ncm hi);have tr:TrAt nl r ((w.setCell ⟨b,2,none⟩ m.ptr).setCell ⟨c,3,none⟩ (pz b)):=TrAt.kept kk h5 (fun i hi e=>by rcases e with rfl|rfl;exact nbr hi;exact ncr hi);have hp:(c::(l.blocks++(b::(m.blocks++r.blocks)))).Nodup:=by refine(List.Perm.nodup_iff ?_).1 hn0;rw[List.perm_iff_count];intro a;simp only[Tr.blocks,List.count_cons,List.count_append];omega
 refine⟨⟨⟨eb,tm,tr⟩,?_,hm,hr,by omega⟩,kk,fun W' hN hk=>⟨⟨?_,TrAt.kept hk tl (fun i hi e=>nbl (e▸hi)),hN.ok⟩,hp,hl,⟨rfl,hm,hr⟩,?_⟩⟩
 ·simp only[Tr.blocks,List.nodup_cons,List.mem_append,not_or,List.nodup_append];exact⟨⟨nbm,nbr⟩,n2,n3,fun i hi j hj=>n5 i (.inr hi) j hj⟩
 ·rw[hk.block c (gsz ec) (fun e=>nbc e.symm)];exact ec
 ·simp only[Tr.toL,List.length_append,List.length_cons];omega
theorem right29{b c:Nat}{l m r:Tr}{k q:List UInt8}{v u:Sv}{x y:Nat}{w:World}(h:TrAt nl (.node b (.node c l q u y m) k v x r) w)(hn:(Tr.node b (.node c l q u y m) k v x r).blocks.Nodup)(hl:Hk l)(hm:Hk m)(hr:Hk r)(few:l.toL.length+m.toL.length+r.toL.length<100000):
  Calls Tryz.prog 264 #[pz b] w fun e w'=>∃x' y',e=.returned (pz c)/\TrAt nl (.node c l q u y' (.node b m k v x' r)) w'/\Hk (.node c l q u y' (.node b m k v x' r))/\Kept (fun i=>i=b\/i=c) w w':=by
 obtain⟨-,-,b3',-,-⟩:=nd_cells h.1;have b3:ce w b 2 (pz c):=b3';obtain⟨-,-,-,c2,-⟩:=nd_cells h.2.1.1;have fb:=block_frozen h.1 2;have fc:=block_frozen h.2.1.1 3;have H:Hid _:=rotr h hn hl hm hr few;have hbc:b≠c:=by intro e;subst e;simp[Tr.blocks]at hn
 have HL:Hid (Hk l/\Hk m/\Hk r):=⟨hl,hm,hr⟩;clear h hn few hl hm hr b3';obtain⟨mo,hmo⟩:=m.is_ptr;rw[hmo]at c2 H;clear hmo;go_enter Tryz.func264,Tryz.ntmps264;go_wp2_with fail;refine H.out.1.measure.mono ?_;rintro e w1 ⟨rfl,h1,k1⟩;have H2:Hid _:=H.out.2.2 w1 h1 k1;have K1:Hid (Kept (fun i=>i=b\/i=c) w w1):=H.out.2.1.trans k1 (fun i e=>.inl (.inl e));clear h1 k1 H b3 c2 fb fc;go_wp2_with fail;refine H2.out.measure.mono ?_;rintro e w2 ⟨rfl,h2,k2⟩;have H3:Hid _:=h2;have K2:Hid (Kept (fun i=>i=b\/i=c) w w2):=K1.out.trans k2 (fun i e=>.inl (.inr e));clear h2 k2 H2 K1;go_wp2_with fail;go_ret;exact⟨_,_,rfl,H3.out.ok,⟨rfl,H3.out.hl,H3.out.hr⟩,K2.out⟩
structure Tg(t:Tr)(L:Kv Sv)(w:World)(t':Tr)(w':World):Prop where
 ok:TrAt nl t' w'
 hk:Hk t'
 nd:t'.blocks.Nodup
 el:t'.toL=L
 sub:∀i∈t'.blocks,i∈t.blocks\/w.heap.size<=i
 kept:Kept (fun i=>i∈t.blocks) w w'
theorem perm_nodup{a b:List Nat}(h:a.Nodup)(p:∀i,a.count i=b.count i):b.Nodup:=(List.Perm.nodup_iff (List.perm_iff_count.2 p)).1 h
theorem count_mem{a b:List Nat}(p:∀i,a.count i=b.count i){i:Nat}(h:i∈b):i∈a:=(List.Perm.mem_iff (List.perm_iff_count.2 p)).2 h
theorem Sw.kept{F:Nat->Prop}{w W w':World}(s:Sw w W)(h:Kept F W w'):Kept F w w':=⟨h.os.trans s.os,h.tape.trans s.tape,h.output.trans s.output,by have:=h.size;rw[s.heap]at this;exact this,fun k hk hF=>by rw[h.block k (by rw[s.heap];exact hk) hF,s.heap]⟩
theorem Sw.tg{t t':Tr}{L:Kv Sv}{w W w':World}(s:Sw w W)(h:Tg t L W t' w'):Tg t L w t' w':=⟨h.ok,h.hk,h.nd,h.el,fun i hi=>by have:=h.sub i hi;rw[s.heap]at this;exact this,s.kept h.kept⟩
theorem Nd.sw{b:Nat}{l r:Tr}{k:List UInt8}{v:Sv}{x:Nat}{w W:World}(h:Nd b l r k v x w)(s:Sw w W):Nd b l r k v x W:=⟨h.ok.sw s,h.nd,h.hl,h.hr,h.few⟩
theorem Tg.after{t t1 t2:Tr}{L:Kv Sv}{w W w2:World}(hs:∀i∈t1.blocks,i∈t.blocks\/w.heap.size<=i)(hk:Kept (fun i=>i∈t.blocks) w W)(g:Tg t1 L W t2 w2):Tg t L w t2 w2:=
 ⟨g.ok,g.hk,g.nd,g.el,fun i hi=>by
  rcases g.sub i hi with h|h
  ·exact hs i h
  ·exact .inr (Nat.le_trans hk.size h),hk.trans g.kept hs⟩
theorem Tg.setl{b:Nat}{l r l':Tr}{k:List UInt8}{v:Sv}{x:Nat}{L:Kv Sv}{w w1:World}(h:TrAt nl (.node b l k v x r) w)(hn:(Tr.node b l k v x r).blocks.Nodup)(g:Tg l L w l' w1):
  TrAt nl (.node b l' k v x r) (w1.setCell ⟨b,2,none⟩ l'.ptr)/\(Tr.node b l' k v x r).blocks.Nodup/\(∀i∈(Tr.node b l' k v x r).blocks,i∈(Tr.node b l k v x r).blocks\/w.heap.size<=i)/\Kept (fun i=>i∈(Tr.node b l k v x r).blocks) w (w1.setCell ⟨b,2,none⟩ l'.ptr):=by
 simp only[Tr.blocks,List.nodup_cons,List.mem_append,not_or,List.nodup_append]at hn;obtain⟨⟨nbl,nbr⟩,n1,n2,n3⟩:=hn;have hb:b<w.heap.size:=(gsz h.1);have hrlt:=TrAt.lt h.2.2;have h1:w1.heap[b]?=some (.cells (nl.cells k v x l.ptr r.ptr) nl.ty (0,0)):=by rw[g.kept.block b hb nbl];exact h.1
 have tr:TrAt nl r w1:=TrAt.kept g.kept h.2.2 (fun i hi e=>n3 i e i hi rfl);have ks:=set_kept' w1 b 2 l'.ptr;have nbl':b∉l'.blocks:=fun hi=>by
  rcases g.sub b hi with e|e
  ·exact nbl e
  ·omega
 have dis:∀i∈l'.blocks,∀j∈r.blocks,i≠j:=fun i hi j hj e=>by
  subst e;rcases g.sub i hi with e|e
  ·exact n3 i e i hj rfl
  ·have:=hrlt i hj;omega
 refine⟨⟨block_set _ h1,TrAt.kept ks g.ok (fun i hi e=>nbl' (e▸hi)),TrAt.kept ks tr (fun i hi e=>nbr (e▸hi))⟩,?_,fun i hi=>?_,?_⟩
 ·simp only[Tr.blocks,List.nodup_cons,List.mem_append,not_or,List.nodup_append];exact⟨⟨nbl',nbr⟩,g.nd,n2,dis⟩
 ·simp only[Tr.blocks,List.mem_cons,List.mem_append]at hi|-;rcases hi with e|e|e
  ·exact .inl (.inl e)
  ·rcases g.sub i e with e|e
   ·exact .inl (.inr (.inl e))
   ·exact .inr e
  ·exact .inl (.inr (.inr e))
 ·refine(g.kept.mono (fun i hi=>?_)).trans ks (fun i hi=>.inl ?_)
  ·simp[Tr.blocks,hi]
  ·simp[Tr.blocks,hi]
theorem Tg.setr{b:Nat}{l r r':Tr}{k:List UInt8}{v:Sv}{x:Nat}{L:Kv Sv}{w w1:World}(h:TrAt nl (.node b l k v x r) w)(hn:(Tr.node b l k v x r).blocks.Nodup)(g:Tg r L w r' w1):
  TrAt nl (.node b l k v x r') (w1.setCell ⟨b,3,none⟩ r'.ptr)/\(Tr.node b l k v x r').blocks.Nodup/\(∀i∈(Tr.node b l k v x r').blocks,i∈(Tr.node b l k v x r).blocks\/w.heap.size<=i)/\Kept (fun i=>i∈(Tr.node b l k v x r).blocks) w (w1.setCell ⟨b,3,none⟩ r'.ptr):=by
 simp only[Tr.blocks,List.nodup_cons,List.mem_append,not_or,List.nodup_append]at hn;obtain⟨⟨nbl,nbr⟩,n1,n2,n3⟩:=hn;have hb:b<w.heap.size:=(gsz h.1);have hllt:=TrAt.lt h.2.1;have h1:w1.heap[b]?=some (.cells (nl.cells k v x l.ptr r.ptr) nl.ty (0,0)):=by rw[g.kept.block b hb nbr];exact h.1
 have tl:TrAt nl l w1:=TrAt.kept g.kept h.2.1 (fun i hi e=>n3 i hi i e rfl);have ks:=set_kept' w1 b 3 r'.ptr;have nbr':b∉r'.blocks:=fun hi=>by
  rcases g.sub b hi with e|e
  ·exact nbr e
  ·omega
 have dis:∀i∈l.blocks,∀j∈r'.blocks,i≠j:=fun i hi j hj e=>by
  subst e;rcases g.sub i hj with e|e
  ·exact n3 i hi i e rfl
  ·have:=hllt i hi;omega
 refine⟨⟨block_set _ h1,TrAt.kept ks tl (fun i hi e=>nbl (e▸hi)),TrAt.kept ks g.ok (fun i hi e=>nbr' (e▸hi))⟩,?_,fun i hi=>?_,?_⟩
 ·simp only[Tr.blocks,List.nodup_cons,List.mem_append,not_or,List.nodup_append];exact⟨⟨nbl,nbr'⟩,n1,g.nd,dis⟩
 ·simp only[Tr.blocks,List.mem_cons,List.mem_append]at hi|-;rcases hi with e|e|e
  ·exact .inl (.inl e)
  ·exact .inl (.inr (.inl e))
  ·rcases g.sub i e with e|e
   ·exact .inl (.inr (.inr e))
   ·exact .inr e
 ·refine(g.kept.mono (fun i hi=>?_)).trans ks (fun i hi=>.inl ?_)
  ·simp[Tr.blocks,hi]
  ·simp[Tr.blocks,hi]
theorem Nd.mtg{b:Nat}{l r:Tr}{k:List UInt8}{v:Sv}{x:Nat}{w:World}(h:Nd b l r k v x w):
  Calls Tryz.prog 265 #[pz b] w fun e w'=>e=.returned (.tuple #[])/\∃t',Tr.ptr t'=.pointer (some ⟨b,0,none⟩)/\Tg (.node b l k v x r) (l.toL++(k,v)::r.toL) w t' w':=by
 refine h.measure.mono ?_;rintro e w' ⟨rfl,h1,hk⟩;exact⟨rfl,.node b l k v (1+max l.hn r.hn) r,rfl,h1.ok,⟨rfl,h1.hl,h1.hr⟩,h1.nd,rfl,fun i hi=>.inl hi,hk.mono (fun i e=>by simp[Tr.blocks,e])⟩
theorem leftg{b c:Nat}{l m r:Tr}{k q:List UInt8}{v u:Sv}{x y:Nat}{w:World}(h:TrAt nl (.node b l k v x (.node c m q u y r)) w)(hn:(Tr.node b l k v x (.node c m q u y r)).blocks.Nodup)(hl:Hk l)(hm:Hk m)(hr:Hk r)(few:l.toL.length+m.toL.length+r.toL.length<100000):
  Calls Tryz.prog 263 #[pz b] w fun e w'=>∃x' y',e=.returned (pz c)/\Tg (.node b l k v x (.node c m q u y r)) (l.toL++(k,v)::(m.toL++(q,u)::r.toL)) w (.node c (.node b l k v x' m) q u y' r) w':=by
 refine(left28 h hn hl hm hr few).mono ?_;rintro e w' ⟨x',y',rfl,h1,h2,hk⟩;have hp:∀i,(Tr.node b l k v x (.node c m q u y r)).blocks.count i=(Tr.node c (.node b l k v x' m) q u y' r).blocks.count i:=fun i=>by simp only[Tr.blocks,List.count_cons,List.count_append];omega
 exact⟨x',y',rfl,h1,h2,perm_nodup hn hp,by simp[Tr.toL],fun i hi=>.inl (count_mem hp hi),hk.mono (fun i e=>by rcases e with e|e<;>simp[Tr.blocks,e])⟩
theorem rightg{b c:Nat}{l m r:Tr}{k q:List UInt8}{v u:Sv}{x y:Nat}{w:World}(h:TrAt nl (.node b (.node c l q u y m) k v x r) w)(hn:(Tr.node b (.node c l q u y m) k v x r).blocks.Nodup)(hl:Hk l)(hm:Hk m)(hr:Hk r)(few:l.toL.length+m.toL.length+r.toL.length<100000):
  Calls Tryz.prog 264 #[pz b] w fun e w'=>∃x' y',e=.returned (pz c)/\Tg (.node b (.node c l q u y m) k v x r) ((l.toL++(q,u)::m.toL)++(k,v)::r.toL) w (.node c l q u y' (.node b m k v x' r)) w':=by
 refine(right29 h hn hl hm hr few).mono ?_;rintro e w' ⟨x',y',rfl,h1,h2,hk⟩;have hp:∀i,(Tr.node b (.node c l q u y m) k v x r).blocks.count i=(Tr.node c l q u y' (.node b m k v x' r)).blocks.count i:=fun i=>by simp only[Tr.blocks,List.count_cons,List.count_append];omega
 exact⟨x',y',rfl,h1,h2,perm_nodup hn hp,by simp[Tr.toL],fun i hi=>.inl (count_mem hp hi),hk.mono (fun i e=>by rcases e with e|e<;>simp[Tr.blocks,e])⟩
theorem balanced25_no{b:Nat}{l r:Tr}{k:List UInt8}{v:Sv}{x:Nat}{w:World}(h:Nd b l r k v x w)(e2:l.hi-r.hi≠2)(e3:l.hi-r.hi≠ -2):
  Calls Tryz.prog 239 #[.pointer (some ⟨b,0,none⟩)] w fun e w'=>∃t',e=.returned t'.ptr/\Tg (.node b l k v x r) (l.toL++(k,v)::r.toL) w t' w':=by
 obtain⟨-,-,b2,b3,-⟩:=nd_cells h.ok.1;have C1:Hid (∀W,Sw w W->Calls Tryz.prog 262 #[l.ptr] W fun e w'=>e=.returned (.int .i64 l.hi)/\w'=W):=fun W hs=>high27 l W (h.ok.2.1.sw hs);have C2:Hid (∀W,Sw w W->Calls Tryz.prog 262 #[r.ptr] W fun e w'=>e=.returned (.int .i64 r.hi)/\w'=W):=fun W hs=>high27 r W (h.ok.2.2.sw hs);obtain⟨hl0,hl1⟩:=h.bl;obtain⟨hr0,hr1⟩:=h.br;have q2:(l.hi-r.hi==2)=false:=by simp;omega
 have q3:(l.hi-r.hi== -2)=false:=by simp;omega
 have CM:Hid (∀W,Sw w W->Calls Tryz.prog 265 #[.pointer (some ⟨b,0,none⟩)] W fun e w'=>e=.returned (.tuple #[])/\∃t',Tr.ptr t'=.pointer (some ⟨b,0,none⟩)/\Tg (.node b l k v x r) (l.toL++(k,v)::r.toL) w t' w'):=by intro W hs;refine(h.sw hs).mtg.mono ?_;rintro e w' ⟨rfl,t',ht,g⟩;exact⟨rfl,t',ht,hs.tg g⟩
 clear h e2 e3;generalize l.toL++(k,v)::r.toL=L at*;generalize Tr.node b l k v x r=t at*;generalize l.ptr=lp at*;generalize r.ptr=rp at*;generalize l.hi=hl at*;generalize r.hi=hr at*;go_enter Tryz.func239,Tryz.ntmps239;go_wp2_with fail
 go_quiet (first|(go_at_call_of 262 (lp);exact Calls.quiet_of_same (C1.out _ ((Sw.refl _).drewN _)))|(go_at_call_of 262 (rp);exact Calls.quiet_of_same (C2.out _ ((Sw.refl _).drewN _))))
 go_wp2_with fail;refine(CM.out _ ((Sw.refl _).drewN _)).mono ?_;rintro e w1 ⟨rfl,t',ht,g⟩;have HG:Hid (∃t',(Ending.returned (.pointer (some ⟨b,0,none⟩)):Ending)=.returned (Tr.ptr t')/\Tg t L w t' w1):=⟨t',by rw[ht],g⟩;clear ht g CM;go_wp2_with fail;go_ret;exact HG.out
theorem balanced25_l{b c:Nat}{r ll lr:Tr}{k q:List UInt8}{v u:Sv}{x y:Nat}{w:World}(h:Nd b (.node c ll q u y lr) r k v x w)(few:ll.toL.length+lr.toL.length+r.toL.length<99999)(e2:(y:Int)-r.hi=2):
  Calls Tryz.prog 239 #[.pointer (some ⟨b,0,none⟩)] w fun e w'=>∃t',e=.returned t'.ptr/\Tg (.node b (.node c ll q u y lr) k v x r) ((ll.toL++(q,u)::lr.toL)++(k,v)::r.toL) w t' w':=by
 obtain⟨-,-,b2',b3',-⟩:=nd_cells h.ok.1;have bc:w.cell? ⟨b,2,none⟩=some (.pointer (some ⟨c,0,none⟩)):=b2';have bo:w.cell? ⟨b,3,none⟩=some r.ptr:=b3';clear b2' b3';obtain⟨-,-,c2,c3,-⟩:=nd_cells h.ok.2.1.1;have C1:Hid (∀W,Sw w W->Calls Tryz.prog 262 #[.pointer (some ⟨c,0,none⟩)] W fun e w'=>e=.returned (.int .i64 y)/\w'=W):=fun W hs=>high27 (.node c ll q u y lr) W (h.ok.2.1.sw hs);have C2:Hid (∀W,Sw w W->Calls Tryz.prog 262 #[r.ptr] W fun e w'=>e=.returned (.int .i64 r.hi)/\w'=W):=fun W hs=>high27 r W (h.ok.2.2.sw hs);have C3:Hid (∀W,Sw w W->Calls Tryz.prog 262 #[ll.ptr] W fun e w'=>e=.returned (.int .i64 ll.hi)/\w'=W):=fun W hs=>high27 ll W (h.ok.2.1.2.1.sw hs);have C4:Hid (∀W,Sw w W->Calls Tryz.prog 262 #[lr.ptr] W fun e w'=>e=.returned (.int .i64 lr.hi)/\w'=W):=fun W hs=>high27 lr W (h.ok.2.1.2.2.sw hs);obtain⟨hy0,hy1⟩:0<=(y:Int)/\(y:Int)<=1000000:=h.bl;obtain⟨hr0,hr1⟩:=h.br;obtain⟨-,hll,hlr⟩:=h.hl;have hoth:=h.hr;have q2:((y:Int)-r.hi==2)=true:=by simp;omega
 by_cases hlt:ll.hi<lr.hi
 ·obtain⟨d,dm,dq,du,dy,dr,hd⟩:=Hk.node (t:=lr) (by have:=hll.bounds;omega);have fb:=block_frozen h.ok.1 2;have CT:Hid (∀W,Sw w W->Calls Tryz.prog 263 #[.pointer (some ⟨c,0,none⟩)] W fun e w1=>e=.returned (.pointer (some ⟨d,0,none⟩))/\w1.cell? ⟨b,2,none⟩=some (.pointer (some ⟨c,0,none⟩))/\w1.frozen? ⟨b,2,none⟩=false/\Calls Tryz.prog 264 #[.pointer (some ⟨b,0,none⟩)] (w1.setCell ⟨b,2,none⟩ (.pointer (some ⟨d,0,none⟩))) fun e w2=>∃t',e=.returned t'.ptr/\Tg (.node b (.node c ll q u y lr) k v x r) ((ll.toL++(q,u)::lr.toL)++(k,v)::r.toL) w t' w2):=by
   subst hd;intro W hs;obtain⟨-,hdm,hdr⟩:=hlr;have hW:=h.sw hs;have hn:=hW.nd;have hnc:(Tr.node c ll q u y (.node d dm dq du dy dr)).blocks.Nodup/\b∉(Tr.node c ll q u y (.node d dm dq du dy dr)).blocks:=by have hn':=hn;rw[Tr.blocks,List.nodup_cons,List.mem_append,not_or,List.nodup_append]at hn';exact⟨hn'.2.1,hn'.1.1⟩
   refine(leftg hW.ok.2.1 hnc.1 hll hdm hdr (by simp only[Tr.toL,List.length_append,List.length_cons]at few;omega)).mono ?_;rintro e w1 ⟨x',y',rfl,g⟩;have hb1:w1.heap[b]?=W.heap[b]?:=g.kept.block b (Array.getElem?_eq_some_iff.1 hW.ok.1).1 hnc.2;have hk':=g.hk;obtain⟨o1,o2,o3,o4⟩:=Tg.setl hW.ok hn g;refine⟨rfl,?_,?_,?_⟩
   ·exact block_cell (hb1.trans hW.ok.1) rfl
   ·exact block_frozen (hb1.trans hW.ok.1) _
   ·refine(rightg o1 o2 hk'.2.1 hdr hoth (by simp only[Tr.toL,List.length_append,List.length_cons]at few|-;omega)).mono ?_;rintro e w2 ⟨x2,y2,rfl,g2⟩;exact⟨Tr.node d _ _ _ _ _,rfl,hs.tg (Tg.after o3 o4 ⟨g2.ok,g2.hk,g2.nd,by rw[g2.el];simp[Tr.toL],g2.sub,g2.kept⟩)⟩
  clear h hd hll hlr hoth few e2;generalize (ll.toL++(q,u)::lr.toL)++(k,v)::r.toL=L at*;generalize Tr.node b (.node c ll q u y lr) k v x r=t at*;generalize (y:Int)=yi at*;generalize r.ptr=op at*;generalize ll.ptr=llp at*;generalize lr.ptr=lrp at*;generalize r.hi=ho at*;generalize ll.hi=llh at*;generalize lr.hi=lrh at*;go_enter Tryz.func239,Tryz.ntmps239;go_wp2_with fail
  go_quiet (first|(go_at_call_of 262 (Value.pointer (some ⟨c,0,none⟩));exact Calls.quiet_of_same (C1.out _ ((Sw.refl _).drewN _)))|(go_at_call_of 262 (op);exact Calls.quiet_of_same (C2.out _ ((Sw.refl _).drewN _))))
  have HS:Hid (Sw w (w.drewN nq)):=(Sw.refl _).drewN _;have bc':(w.drewN nq).cell? ⟨b,2,none⟩=some (.pointer (some ⟨c,0,none⟩)):=bc;have c2':(w.drewN nq).cell? ⟨c,2,none⟩=some llp:=c2;have c3':(w.drewN nq).cell? ⟨c,3,none⟩=some lrp:=c3;generalize w.drewN nq=W at*;go_wp2_with fail
  go_quiet (first|(go_at_call_of 262 (llp);exact Calls.quiet_of_same (C3.out _ (HS.out.drewN _)))|(go_at_call_of 262 (lrp);exact Calls.quiet_of_same (C4.out _ (HS.out.drewN _))))
  go_wp2_with fail;refine(CT.out _ (HS.out.drewN _)).mono ?_;rintro e w1 ⟨rfl,d1,d2,d3⟩;have HG:Hid (Calls Tryz.prog 264 #[.pointer (some ⟨b,0,none⟩)] (w1.setCell ⟨b,2,none⟩ (.pointer (some ⟨d,0,none⟩))) fun e w2=>∃t',e=.returned t'.ptr/\Tg t L w t' w2):=d3;clear d3 CT C1 C2 C3 C4;go_wp2_with fail;refine HG.out.mono ?_;rintro e w2 ⟨t',rfl,g⟩;obtain⟨o,ho⟩:=t'.is_ptr;have HX:Hid (∃t',(Ending.returned (.pointer o):Ending)=.returned (Tr.ptr t')/\Tg t L w t' w2):=⟨t',by rw[ho],g⟩;rw[ho];clear g HG ho;go_wp2_with fail;go_ret;exact HX.out
 ·have CT:Hid (∀W,Sw w W->Calls Tryz.prog 264 #[.pointer (some ⟨b,0,none⟩)] W fun e w'=>∃t',e=.returned (.pointer (some ⟨c,0,none⟩))/\Tr.ptr t'=.pointer (some ⟨c,0,none⟩)/\Tg (.node b (.node c ll q u y lr) k v x r) ((ll.toL++(q,u)::lr.toL)++(k,v)::r.toL) w t' w'):=by intro W hs;have hW:=h.sw hs;refine(rightg hW.ok hW.nd hll hlr hoth (by omega)).mono ?_;rintro e w' ⟨x',y',rfl,g⟩;exact⟨_,rfl,rfl,hs.tg g⟩
  clear h hll hlr hoth few e2;generalize (ll.toL++(q,u)::lr.toL)++(k,v)::r.toL=L at*;generalize Tr.node b (.node c ll q u y lr) k v x r=t at*;generalize (y:Int)=yi at*;generalize r.ptr=op at*;generalize ll.ptr=llp at*;generalize lr.ptr=lrp at*;generalize r.hi=ho at*;generalize ll.hi=llh at*;generalize lr.hi=lrh at*;go_enter Tryz.func239,Tryz.ntmps239;go_wp2_with fail
  go_quiet (first|(go_at_call_of 262 (Value.pointer (some ⟨c,0,none⟩));exact Calls.quiet_of_same (C1.out _ ((Sw.refl _).drewN _)))|(go_at_call_of 262 (op);exact Calls.quiet_of_same (C2.out _ ((Sw.refl _).drewN _))))
  have HS:Hid (Sw w (w.drewN nq)):=(Sw.refl _).drewN _;have bc':(w.drewN nq).cell? ⟨b,2,none⟩=some (.pointer (some ⟨c,0,none⟩)):=bc;have c2':(w.drewN nq).cell? ⟨c,2,none⟩=some llp:=c2;have c3':(w.drewN nq).cell? ⟨c,3,none⟩=some lrp:=c3;generalize w.drewN nq=W at*;go_wp2_with fail
  go_quiet (first|(go_at_call_of 262 (llp);exact Calls.quiet_of_same (C3.out _ (HS.out.drewN _)))|(go_at_call_of 262 (lrp);exact Calls.quiet_of_same (C4.out _ (HS.out.drewN _))))
  go_wp2_with fail;refine(CT.out _ (HS.out.drewN _)).mono ?_;rintro e w1 ⟨t',rfl,ht,g⟩;have HX:Hid (∃t',(Ending.returned (.pointer (some ⟨c,0,none⟩)):Ending)=.returned (Tr.ptr t')/\Tg t L w t' w1):=⟨t',by rw[ht],g⟩;clear g ht CT;go_wp2_with fail;go_ret;exact HX.out
theorem balanced25_r{b c:Nat}{l ll lr:Tr}{k q:List UInt8}{v u:Sv}{x y:Nat}{w:World}(h:Nd b l (.node c ll q u y lr) k v x w)(few:l.toL.length+ll.toL.length+lr.toL.length<99999)(e2:l.hi-(y:Int)= -2):
  Calls Tryz.prog 239 #[.pointer (some ⟨b,0,none⟩)] w fun e w'=>∃t',e=.returned t'.ptr/\Tg (.node b l k v x (.node c ll q u y lr)) (l.toL++(k,v)::(ll.toL++(q,u)::lr.toL)) w t' w':=by
 obtain⟨-,-,b2',b3',-⟩:=nd_cells h.ok.1;have bc:w.cell? ⟨b,3,none⟩=some (.pointer (some ⟨c,0,none⟩)):=b3';have bo:w.cell? ⟨b,2,none⟩=some l.ptr:=b2';clear b2' b3';obtain⟨-,-,c2,c3,-⟩:=nd_cells h.ok.2.2.1;have C1:Hid (∀W,Sw w W->Calls Tryz.prog 262 #[.pointer (some ⟨c,0,none⟩)] W fun e w'=>e=.returned (.int .i64 y)/\w'=W):=fun W hs=>high27 (.node c ll q u y lr) W (h.ok.2.2.sw hs);have C2:Hid (∀W,Sw w W->Calls Tryz.prog 262 #[l.ptr] W fun e w'=>e=.returned (.int .i64 l.hi)/\w'=W):=fun W hs=>high27 l W (h.ok.2.1.sw hs);have C3:Hid (∀W,Sw w W->Calls Tryz.prog 262 #[ll.ptr] W fun e w'=>e=.returned (.int .i64 ll.hi)/\w'=W):=fun W hs=>high27 ll W (h.ok.2.2.2.1.sw hs);have C4:Hid (∀W,Sw w W->Calls Tryz.prog 262 #[lr.ptr] W fun e w'=>e=.returned (.int .i64 lr.hi)/\w'=W):=fun W hs=>high27 lr W (h.ok.2.2.2.2.sw hs);obtain⟨hy0,hy1⟩:0<=(y:Int)/\(y:Int)<=1000000:=h.br;obtain⟨hr0,hr1⟩:=h.bl;obtain⟨-,hll,hlr⟩:=h.hr;have hoth:=h.hl;have q2:(l.hi-(y:Int)== -2)=true:=by simp;omega
 by_cases hlt:lr.hi<ll.hi
 ·obtain⟨d,dm,dq,du,dy,dr,hd⟩:=Hk.node (t:=ll) (by have:=hlr.bounds;omega);have fb:=block_frozen h.ok.1 3;have CT:Hid (∀W,Sw w W->Calls Tryz.prog 264 #[.pointer (some ⟨c,0,none⟩)] W fun e w1=>e=.returned (.pointer (some ⟨d,0,none⟩))/\w1.cell? ⟨b,3,none⟩=some (.pointer (some ⟨c,0,none⟩))/\w1.frozen? ⟨b,3,none⟩=false/\Calls Tryz.prog 263 #[.pointer (some ⟨b,0,none⟩)] (w1.setCell ⟨b,3,none⟩ (.pointer (some ⟨d,0,none⟩))) fun e w2=>∃t',e=.returned t'.ptr/\Tg (.node b l k v x (.node c ll q u y lr)) (l.toL++(k,v)::(ll.toL++(q,u)::lr.toL)) w t' w2):=by
   subst hd;intro W hs;obtain⟨-,hdm,hdr⟩:=hll;have hW:=h.sw hs;have hn:=hW.nd;have hnc:(Tr.node c (.node d dm dq du dy dr) q u y lr).blocks.Nodup/\b∉(Tr.node c (.node d dm dq du dy dr) q u y lr).blocks:=by have hn':=hn;rw[Tr.blocks,List.nodup_cons,List.mem_append,not_or,List.nodup_append]at hn';exact⟨hn'.2.2.1,hn'.1.2⟩
   refine(rightg hW.ok.2.2 hnc.1 hdm hdr hlr (by simp only[Tr.toL,List.length_append,List.length_cons]at few;omega)).mono ?_;rintro e w1 ⟨x',y',rfl,g⟩;have hb1:w1.heap[b]?=W.heap[b]?:=g.kept.block b (Array.getElem?_eq_some_iff.1 hW.ok.1).1 hnc.2;have hk':=g.hk;obtain⟨o1,o2,o3,o4⟩:=Tg.setr hW.ok hn g;refine⟨rfl,?_,?_,?_⟩
   ·exact block_cell (hb1.trans hW.ok.1) rfl
   ·exact block_frozen (hb1.trans hW.ok.1) _
   ·refine(leftg o1 o2 hoth hdm hk'.2.2 (by simp only[Tr.toL,List.length_append,List.length_cons]at few|-;omega)).mono ?_;rintro e w2 ⟨x2,y2,rfl,g2⟩;exact⟨Tr.node d _ _ _ _ _,rfl,hs.tg (Tg.after o3 o4 ⟨g2.ok,g2.hk,g2.nd,by rw[g2.el];simp[Tr.toL],g2.sub,g2.kept⟩)⟩
  clear h hd hll hlr hoth few e2;generalize l.toL++(k,v)::(ll.toL++(q,u)::lr.toL)=L at*;generalize Tr.node b l k v x (.node c ll q u y lr)=t at*;generalize (y:Int)=yi at*;generalize l.ptr=op at*;generalize ll.ptr=llp at*;generalize lr.ptr=lrp at*;generalize l.hi=ho at*;generalize ll.hi=llh at*;generalize lr.hi=lrh at*;go_enter Tryz.func239,Tryz.ntmps239;go_wp2_with fail
  go_quiet (first|(go_at_call_of 262 (Value.pointer (some ⟨c,0,none⟩));exact Calls.quiet_of_same (C1.out _ ((Sw.refl _).drewN _)))|(go_at_call_of 262 (op);exact Calls.quiet_of_same (C2.out _ ((Sw.refl _).drewN _))))
  have HS:Hid (Sw w (w.drewN nq)):=(Sw.refl _).drewN _;have bc':(w.drewN nq).cell? ⟨b,3,none⟩=some (.pointer (some ⟨c,0,none⟩)):=bc;have c2':(w.drewN nq).cell? ⟨c,2,none⟩=some llp:=c2;have c3':(w.drewN nq).cell? ⟨c,3,none⟩=some lrp:=c3;generalize w.drewN nq=W at*;go_wp2_with fail
  go_quiet (first|(go_at_call_of 262 (llp);exact Calls.quiet_of_same (C3.out _ (HS.out.drewN _)))|(go_at_call_of 262 (lrp);exact Calls.quiet_of_same (C4.out _ (HS.out.drewN _))))
  go_wp2_with fail;refine(CT.out _ (HS.out.drewN _)).mono ?_;rintro e w1 ⟨rfl,d1,d2,d3⟩;have HG:Hid (Calls Tryz.prog 263 #[.pointer (some ⟨b,0,none⟩)] (w1.setCell ⟨b,3,none⟩ (.pointer (some ⟨d,0,none⟩))) fun e w2=>∃t',e=.returned t'.ptr/\Tg t L w t' w2):=d3;clear d3 CT C1 C2 C3 C4;go_wp2_with fail;refine HG.out.mono ?_;rintro e w2 ⟨t',rfl,g⟩;obtain⟨o,ho⟩:=t'.is_ptr;have HX:Hid (∃t',(Ending.returned (.pointer o):Ending)=.returned (Tr.ptr t')/\Tg t L w t' w2):=⟨t',by rw[ho],g⟩;rw[ho];clear g HG ho;go_wp2_with fail;go_ret;exact HX.out
 ·have CT:Hid (∀W,Sw w W->Calls Tryz.prog 263 #[.pointer (some ⟨b,0,none⟩)] W fun e w'=>∃t',e=.returned (.pointer (some ⟨c,0,none⟩))/\Tr.ptr t'=.pointer (some ⟨c,0,none⟩)/\Tg (.node b l k v x (.node c ll q u y lr)) (l.toL++(k,v)::(ll.toL++(q,u)::lr.toL)) w t' w'):=by intro W hs;have hW:=h.sw hs;refine(leftg hW.ok hW.nd hoth hll hlr (by omega)).mono ?_;rintro e w' ⟨x',y',rfl,g⟩;exact⟨_,rfl,rfl,hs.tg g⟩
  clear h hll hlr hoth few e2;generalize l.toL++(k,v)::(ll.toL++(q,u)::lr.toL)=L at*;generalize Tr.node b l k v x (.node c ll q u y lr)=t at*;generalize (y:Int)=yi at*;generalize l.ptr=op at*;generalize ll.ptr=llp at*;generalize lr.ptr=lrp at*;generalize l.hi=ho at*;generalize ll.hi=llh at*;generalize lr.hi=lrh at*;go_enter Tryz.func239,Tryz.ntmps239;go_wp2_with fail
  go_quiet (first|(go_at_call_of 262 (Value.pointer (some ⟨c,0,none⟩));exact Calls.quiet_of_same (C1.out _ ((Sw.refl _).drewN _)))|(go_at_call_of 262 (op);exact Calls.quiet_of_same (C2.out _ ((Sw.refl _).drewN _))))
  have HS:Hid (Sw w (w.drewN nq)):=(Sw.refl _).drewN _;have bc':(w.drewN nq).cell? ⟨b,3,none⟩=some (.pointer (some ⟨c,0,none⟩)):=bc;have c2':(w.drewN nq).cell? ⟨c,2,none⟩=some llp:=c2;have c3':(w.drewN nq).cell? ⟨c,3,none⟩=some lrp:=c3;generalize w.drewN nq=W at*;go_wp2_with fail
  go_quiet (first|(go_at_call_of 262 (llp);exact Calls.quiet_of_same (C3.out _ (HS.out.drewN _)))|(go_at_call_of 262 (lrp);exact Calls.quiet_of_same (C4.out _ (HS.out.drewN _))))
  go_wp2_with fail;refine(CT.out _ (HS.out.drewN _)).mono ?_;rintro e w1 ⟨t',rfl,ht,g⟩;have HX:Hid (∃t',(Ending.returned (.pointer (some ⟨c,0,none⟩)):Ending)=.returned (Tr.ptr t')/\Tg t L w t' w1):=⟨t',by rw[ht],g⟩;clear g ht CT;go_wp2_with fail;go_ret;exact HX.out
theorem balanced25{b:Nat}{l r:Tr}{k:List UInt8}{v:Sv}{x:Nat}{w:World}(h:Nd b l r k v x w)(few:l.toL.length+r.toL.length<100000):
  Calls Tryz.prog 239 #[.pointer (some ⟨b,0,none⟩)] w fun e w'=>∃t',e=.returned t'.ptr/\Tg (.node b l k v x r) (l.toL++(k,v)::r.toL) w t' w':=by
 by_cases e2:l.hi-r.hi=2
 ·obtain⟨c,ll,q,u,y,lr,rfl⟩:=Hk.node (t:=l) (by have:=h.br;omega);exact balanced25_l h (by simp only[Tr.toL,List.length_append,List.length_cons]at few;omega) e2
 ·by_cases e3:l.hi-r.hi= -2
  ·obtain⟨c,ll,q,u,y,lr,rfl⟩:=Hk.node (t:=r) (by have:=h.bl;omega);exact balanced25_r h (by simp only[Tr.toL,List.length_append,List.length_cons]at few;omega) e3
  ·exact balanced25_no h e2 e3
end Go.Proofs.YtdplfgcoaddbdaaGreat.Sto
