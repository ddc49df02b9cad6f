import Derived.Test.YtnfpfbehebcdpaaGreatProg
import Derived.BigQuiet
import Derived.Deep.CutBlock
import Derived.Deep.DeepCutAuto
import Derived.Deep.QuietTactic
import Derived.Deep.RegionHeld3
import Derived.Deep.RegionLaw
import Derived.Deep.Trees
import Derived.Laws.BitsAllLaws
import Derived.Laws.BytesArg
import Derived.Lib.AppendStr
import Derived.Lib.AppendZerosOnto
import Derived.Lib.BitFns
import Derived.Lib.QuietBelow
import Derived.Lib.Strings
import Derived.Maps.AppendAt
import Derived.OwnWalk
import Derived.ScopeJumps
import Derived.Shelf.Abstract
import Derived.WalkKit
import Derived.WalkLawsBesides
import Derived.WalkMore
import Derived.WalkSpells
import Derived.WideKeyRuns
set_option linter.all false
namespace Go.Proofs.YtnfpfbehebcdpaaGreat
open Go.RowKit
def ae:=@Go.heap_alloc_new
def af:=@List.length_append
def ag:=@if_neg
def ah:=@if_pos
def ai:=@Nat.le_refl
def aj:=@Go.RowKit.Below.refl
def ak:=@Nat.le_trans
def au:=@List.mem_cons
def ay:=@List.take_of_length_le
def az:=@Go.bodyPost_ret
def bf:=@List.getElem?_eq_getElem
def bg:=@List.length_cons
def bu:=@List.mem_append
def bz:=@Go.Calls.quiet_of_same
def cu:=@Bool.and_eq_true
def dh:=@List.pairwise_cons
def ed:=@Go.World.block_lt_of_cell?
def eu:=@Nat.zero_le
def gp:=@Go.lt_of_block
def gq:=@List.append_assoc
def gu:=@List.getElem?_eq_some_iff
def gy:=@List.mem_cons_of_mem
def gz:=@List.nodup_cons
def ig:=@List.length_take
def ik:=@List.nodup_append
def iq:=@congrArg
def iy:=@Nat.lt_of_lt_of_le
def ja:=@Option.some.injEq
def jb:=@beq_eq_false_iff_ne
def jc:=@decide_eq_true_eq
def jd:=@List.map_cons
def je:=@List.mem_map
def jf:=@Go.MapKept.run_getObj_map
def jg:=@List.take_append_drop
def jh:=@List.mem_filter
def ji:=@List.mem_cons_self
def jk:=@List.take_succ_eq_append_getElem
def jl:=@Go.RowKit.Below.heap_setCell
def jm:=@Go.World.ownsRow.lt
def jo:=@List.append_nil
def jq:=@And.intro
def jr:=@List.length_drop
def jw:=@Go.run_underlying
def jy:=@List.mem_singleton
def ku:=@Go.Value.slice.injEq
def kw:=@Nat.lt_succ_self
def lm:=@List.eq_nil_of_length_eq_zero
def lq:=@Array.getElem?_eq_some_iff
def lu:=@List.cons_append
def mf:=@List.nil_append
def mi:=@List.map_append
def mr:=@List.length_map
def ng:=@List.drop_eq_getElem_cons
def ni:=@Nat.zero_add
def ny:=@Prod.mk.injEq
def og:=@Nat.le_of_lt
def oq:=@Nat.eq_zero_or_pos
def ou:=@List.take_succ_cons
def o5:=@List.filter_eq_self
def o6:=@Go.World.ownsRow.alloc
def o7:=@Bool.false_eq_true
def o9:=@List.length_nil
def pg:=@List.cons.injEq
def pq:=@Go.MapKept.heap_set
def qc:=@Go.info_parts
def qg:=@Array.getElem?_modify
def qh:=@Decidable.not_not
def qi:=@Go.World.ownsRow_nil
def qj:=@List.find?_append
def qm:=@List.getElem?_map
def qo:=@List.length_eq_zero_iff
def qp:=@Go.cell_of_one
def qw:=@Go.step_scope
def rf:=@Go.cell_regrown
def rq:=@List.getElem_mem
def ru:=@Go.MapKept.run_setObj_map
def ry:=@List.perm_iff_count
def tq:=@List.Pairwise.nil
def tu:=@List.getElem?_eq_none
def ug:=@not_or
def uh:=@decide_eq_false_iff_not
def uj:=@Go.RowKit.Below.heap_alloc
def uk:=@List.mem_of_mem_take
def uo:=@Go.Addr.add_lit
def uq:=@beq_iff_eq
def ut:=@Nat.lt_succ_of_lt
def uu:=@List.size_toArray
def uy:=@List.count_append
def vw:=@Array.getElem?_eq_getElem
def wu:=@List.pairwise_iff_getElem
def wz:=@Go.ownsRow_setCell_other
def xg:=@List.all_eq_true
def xm:=@Int.eq_ofNat_of_zero_le
def xq:=@List.take_add_one
def xu:=@List.count_cons
def xw:=@List.Perm.nodup_iff
def xx:=@List.filter_eq_nil_iff
def xy:=@List.drop_eq_nil_of_le
def yf:=@List.filter_cons
def yg:=@Option.map_some
def yt:=@Nat.le_succ
def yu:=@List.pairwise_map
def yx:=@List.sum_cons
variable {P:Prop}
def yz(h:P:=by
 obtain⟨i0,hin,hi0,hi1,hi2⟩:=qc info9;induction t using Tr.ind with
 |nil=>
  intro K vs w _ _ _ _ ho _;obtain⟨sa,sc,rfl,-,-,-,-⟩:=Bl ho;have HO:Hid _:=ho;clear ho hin hi0 hi1 hi2;simp only[Tr.toL,Aw,List.map_nil,List.filter_nil,Vo,Tr.ptr];go_enter zf,zg;go_wp2_with fail;go_ret;exact⟨_,rfl,HO.out,aj _ _⟩
 |node b l k u x r ihl ihr=>
  intro K vs w ha hB hs hBw ho hf;obtain⟨sa,sc,rfl,-,-,-,-⟩:=Bl ho;by_cases hroom:limit<=K.length
  .have HX:Hid (gatF limit.toNat K (Aw lo hi (Tr.node b l k u x r).toL)=K):=Rh (by omega) _;rw[HX.out];have HO:Hid _:=ho;clear ho HX ha hB hs hBw hf ihl ihr hin hi0 hi1 hi2;simp only[Tr.ptr];go_enter zf,zg;go_wp2_with fail;go_ret;exact⟨_,rfl,HO.out,aj _ _⟩
  .obtain⟨hs1,hs2,_,_⟩:=Dp hs;have hf':=hf;simp only[Tr.toL,af,bg]at hf';have hr':¬limit<=(K.length:Int):=by omega
   obtain⟨c0,-,c2,-,-⟩:=Ba ha.1;have q1:=bl lo k;have q2:=bl k lo;have q3:=bl k hi;have q4:(bs hi).toList.isEmpty=hi.isEmpty:=by rw[I9]
   have HA:Hid (∀w',Below B w w'->TrAt nl (.node b l k u x r) w'):=λw' hb=>ha.below hb hB;have CL:Hid (1=1->cpr zh #[l.ptr,.slice sa K.length sc,sd lo,sd hi,iw limit] w λe w'=>∃v',e=.returned v'/\w'.ownsRow B 9 1 v' (gatF limit.toNat K (Aw lo hi l.toL)).length (kc (gatF limit.toNat K (Aw lo hi l.toL)))/\Below B w w'):=
    λ_=>ihl K _ w ha.2.1 (λi hi=>hB i (by simp[Tr.blocks,hi])) hs1 hBw ho (by omega)
   have CR:Hid (∀(K2:List Bi) (v2:Value) (w2:World),Below B w w2->w2.ownsRow B 9 1 v2 K2.length (kc K2)->K2.length+r.toL.length<1000000->cpr zh #[r.ptr,v2,sd lo,sd hi,iw limit] w2 λe w'=>∃v',e=.returned v'/\w'.ownsRow B 9 1 v' (gatF limit.toNat K2 (Aw lo hi r.toL)).length (kc (gatF limit.toNat K2 (Aw lo hi r.toL)))/\Below B w2 w'):=
    λK2 v2 w2 hb ho2 hf2=>ihr K2 v2 w2 (HA.out w2 hb).2.2 (λi hi=>hB i (by simp[Tr.blocks,hi])) hs2 (ak hBw hb.size) ho2 hf2
   have HZ1:Hid (ltK lo k=false->gatF limit.toNat K (Aw lo hi l.toL)=K):=λh=>by rw[aaz hs h,Vo]
   have HZ2:Hid (hi.isEmpty=false->ltK k hi=false->gatF limit.toNat K (Aw lo hi (Tr.node b l k u x r).toL)=gatF limit.toNat K (Aw lo hi l.toL)):=λh0 h=>aaq hs h0 h;have HZ3:Hid ((hi.isEmpty||ltK k hi)=true->gatF limit.toNat K (Aw lo hi (Tr.node b l k u x r).toL)=gatF limit.toNat (if ltK k lo=false/\(gatF limit.toNat K (Aw lo hi l.toL)).length<limit.toNat then gatF limit.toNat K (Aw lo hi l.toL)++[k]else gatF limit.toNat K (Aw lo hi l.toL)) (Aw lo hi r.toL)):=λh=>ahz h;have HO:Hid (w.ownsRow B 9 1 (.slice sa K.length sc) K.length (kc K)):=ho;have HF:Hid ((gatF limit.toNat K (Aw lo hi l.toL)).length+1+r.toL.length<1000000):=by have:=ad7 limit.toNat K (Aw lo hi l.toL);have:=Wu lo hi l.toL;show _<_;omega
   clear ihl ihr ha hB hs hf hs1 hs2 hf' ho hroom;generalize gatF limit.toNat K (Aw lo hi (Tr.node b l k u x r).toL)=Y at*;generalize gatF limit.toNat K (Aw lo hi l.toL)=K1 at*;obtain⟨lp,hlp⟩:=xj l.ptr;rw[hlp]at c2 CL;clear hlp;simp only[Tr.ptr];generalize ltK lo k=z1 at*;generalize ltK k lo=z2 at*;generalize ltK k hi=z3 at*;generalize hi.isEmpty=z4 at*;go_enter zf,zg;go_upto_if 25 with fail
   go_cut [1] (λv wc=>∃sa sc,v=.slice sa K1.length sc/\Hid (wc.ownsRow B 9 1 v K1.length (kc K1)/\Below B w wc))
   case first=>
    cases z1
    .have h1:=HZ1.out rfl;subst h1;go_wp2_with fail;go_meet;exact⟨sa,sc,rfl,HO.out,aj _ _⟩
    .go_wp2_with fail;refine(CL.out (by trivial)).mono ?_;rintro e w1 ⟨v1,rfl,ho1,hb1⟩;obtain⟨sa1,sc1,rfl,-,-,-,-⟩:=Bl ho1;have H1:Hid _:=jq ho1 hb1;clear ho1 hb1;go_wp2_with fail;go_meet;exact⟨sa1,sc1,rfl,H1.out⟩
   case rest=>
    obtain⟨sa1,sc1,rfl,H1⟩:=hcut;obtain⟨d0,-,-,-,-⟩:=Ba (HA.out wc H1.out.2).1;obtain⟨rp,hrp⟩:=xj r.ptr;have HR:Hid (∀w',Below B w w'->ce w' b zk rp):=λw' hb=>by rw[<-hrp];exact(Ba (HA.out w' hb).1).2.2.2.1
    rw[hrp]at CR;clear hrp c0 c2 CL HO HZ1 HA;by_cases hstop:z4=false/\z3=false
    .obtain⟨rfl,rfl⟩:=hstop;have h:=HZ2.out rfl rfl;subst h;go_wp2_with fail;go_ret;exact⟨_,rfl,H1.out⟩
    .have HY:Hid _:=HZ3.out (by cases z4<;>cases z3<;>simp at hstop|-);have harms:z4=true\/z4=false/\z3=true:=by cases z4<;>cases z3<;>simp at hstop|-
     clear hstop HZ2 HZ3;have CC:Hid (∀(K2:List Bi) (v2:Value) (w2:World),K2=(if z2=false/\K1.length<limit.toNat then K1++[k]else K1)->w2.ownsRow B 9 1 v2 K2.length (kc K2)->Below B w w2->cpr zh #[rp,v2,sd lo,sd hi,iw limit] w2 λe w'=>∃v',e=.returned v'/\w'.ownsRow B 9 1 v' Y.length (kc Y)/\Below B w w'):=λK2 v2 w2 hK2 ho hb=>by
      have hl2:K2.length+r.toL.length<1000000:=by have:=HF.out;rw[hK2];split<;>simp<;>omega
      refine(CR.out K2 _ _ hb ho hl2).mono ?_;rintro e w' ⟨v',rfl,ho',hb'⟩;rw[HY.out,<-hK2];exact⟨v',rfl,ho',hb.trans hb'⟩
     clear CR HY;rcases harms with rfl|⟨rfl,rfl⟩
     all_goals
      cases z2
      .by_cases hlt:(K1.length:Int)<limit
       .have HOw:Hid (Ow B 9 1 (.slice sa1 K1.length sc1) K1.length (kc K1) (wc.heap.size+1) (.slice (some ⟨wc.heap.size,0,none⟩) 1 1) 1 (kc [k]) (wc.alloc (.cells #[sd k] 9))):=⟨o6 H1.out.1 _,adu wc k,ady _,ak hBw (ak H1.out.2.size (by simp)),by have:=HF.out;omega⟩;have HK:Hid (K1++[k]=(if false=false/\K1.length<limit.toNat then K1++[k]else K1)):=(ah ⟨rfl,by omega⟩).symm;go_wp2_with (at_builtin;refine Ea HOw.out Tryz.underlying80 hin hi0 hi1 hi2 rfl (by decide) (by decide) (.tmp 58) (.tmp 63) rfl rfl rfl rfl ?_);intro v' w2 hown hg hat;have HB2:Hid (Below B w w2):=J4 (H1.out.2.alloc (ak hBw H1.out.2.size) _) HOw.out.size HOw.out.own hg;obtain⟨sa2,sc2,rfl,-,-,-,-⟩:=Bl hown;have CR2:Hid (1=1->_):=λ_=>CC.out (K1++[k]) (.slice sa2 (K1.length+1) sc2) w2 HK.out (by rw[Sz,af];exact hown) HB2.out;have d3:=HR.out _ HB2.out;clear hown hg hat HOw HK HB2 CC;go_wp2_with fail;refine(CR2.out (by trivial)).mono ?_;rintro e w3 ⟨v3,rfl,ho3,hb3⟩;obtain⟨sa3,sc3,rfl,-,-,-,-⟩:=Bl ho3;have H3:Hid _:=jq ho3 hb3;clear ho3 hb3 CR2;go_wp2_with fail;go_ret;exact⟨_,rfl,H3.out⟩
       .have hge:¬(K1.length:Int)<limit:=hlt;have HK:Hid (K1=(if false=false/\K1.length<limit.toNat then K1++[k]else K1)):=(ag (by omega)).symm;have CR2:Hid (1=1->_):=λ_=>CC.out K1 (.slice sa1 K1.length sc1) wc HK.out H1.out.1 H1.out.2;have d3:=HR.out _ H1.out.2;clear hlt HK CC;go_wp2_with fail;refine(CR2.out (by trivial)).mono ?_;rintro e w3 ⟨v3,rfl,ho3,hb3⟩;obtain⟨sa3,sc3,rfl,-,-,-,-⟩:=Bl ho3;have H3:Hid _:=jq ho3 hb3;clear ho3 hb3 CR2;go_wp2_with fail;go_ret;exact⟨_,rfl,H3.out⟩
      .have CR2:Hid (1=1->_):=λ_=>CC.out K1 (.slice sa1 K1.length sc1) wc (by simp) H1.out.1 H1.out.2;have d3:=HR.out _ H1.out.2;clear CC;go_wp2_with fail;refine(CR2.out (by trivial)).mono ?_;rintro e w3 ⟨v3,rfl,ho3,hb3⟩;obtain⟨sa3,sc3,rfl,-,-,-,-⟩:=Bl ho3;have H3:Hid _:=jq ho3 hb3;clear ho3 hb3 CR2;go_wp2_with fail;go_ret;exact⟨_,rfl,H3.out⟩):P:=h
def zn(h:P:=by
 have first:=first (λl a w rest hr hJ=>by
  obtain⟨r,hr',hwp⟩:=pass l a w hJ;rw[hr]at hr';injection hr' with hr';injection hr' with _ hr';subst hr';refine Code.wp_mono ?_ hwp;intro e a1 w1 hq;cases e with
  |goto l'=>exact hq.1
  |normal=>exact hq
  |exit id=>exact hq
  |ret=>exact hq
  |panic ch=>exact hq
  |outgrown=>exact hq)
 intro b k cs;have key:∀n l a w rest,findLabel c l=some rest->μ l a w=n->J l a w->∃e a' w',Q e a' w'/\Arrives P (lone (b.at a (.code rest:: .inScope c::k)) cs w) b k cs e a' w':=by
  intro n;induction n using Nat.strongRecOn with
  |ind n ih=>
   intro l a w rest hr hn hJ;obtain⟨rest',hr',hwp⟩:=pass l a w hJ;rw[hr]at hr';injection hr' with hr';subst hr';have hwp2:(Code.skip.seq rest').wp P (Ef (λl' a' w'=>J l' a' w'/\μ l' a' w'<μ l a w) Q) a w:=wp_seq (wp_skip hwp);obtain⟨e,a1,w1,hq,harr⟩:=hwp2 b (.inScope c::k) cs;cases e with
   |normal=>exact⟨.normal,a1,w1,hq,Steps.trans harr (.one step_inScope)⟩
   |exit id=>exact⟨.exit id,a1,w1,hq,λk' hk=>harr k' (by simp[exitTo,hk])⟩
   |goto l'=>
    obtain⟨hJ',hlt⟩:=hq;obtain⟨r2,hr2,_⟩:=pass l' a1 w1 hJ';obtain⟨e2,a2,w2,hq2,harr2⟩:=ih _ (by omega) l' a1 w1 _ hr2 rfl hJ';exact⟨e2,a2,w2,hq2,.of_steps (harr _ (by simp[gotoIn,hr2])) harr2⟩
   |ret=>exact⟨_,a1,w1,hq,harr⟩
   |panic ch=>exact⟨_,a1,w1,hq,harr⟩
   |outgrown=>exact⟨_,a1,w1,hq,harr⟩
 obtain⟨e,a1,w1,hq,harr⟩:=first b (.inScope c::k) cs
 cases e with
 |normal=>exact⟨.normal,a1,w1,hq,.head qw (Steps.trans harr (.one step_inScope))⟩
 |exit id=>exact⟨.exit id,a1,w1,hq,λk' hk=>.head qw (harr k' (by simp[exitTo,hk]))⟩
 |goto l'=>
  obtain⟨r2,hr2,_⟩:=pass l' a1 w1 hq;obtain⟨e2,a2,w2,hq2,harr2⟩:=key _ l' a1 w1 _ hr2 rfl hq;exact⟨e2,a2,w2,hq2,.of_steps (.head qw (harr _ (by simp[gotoIn,hr2]))) harr2⟩
 |ret=>exact⟨_,a1,w1,hq,.of_steps (.one qw) harr⟩
 |panic ch=>exact⟨_,a1,w1,hq,.of_steps (.one qw) harr⟩
 |outgrown=>exact⟨_,a1,w1,hq,.of_steps (.one qw) harr⟩):P:=h
def zo(h:P:=by
 simp only[Tr.ptr];generalize Tr.node b l k u x r=t at*;generalize l.ptr=lp at*;generalize r.ptr=rp at*;go_enter zq,zu;go_wp2_with fail;refine(CW.out (by trivial)).mono ?_;rintro e w1 ⟨o,rfl,d1,d2,d3⟩;have HG:Hid (cpr zx #[pz b] (w1.setCell ⟨b,zy,none⟩ (.pointer o)) λe w2=>∃t',e=.returned t'.ptr/\Tg t L w t' w2):=d3;clear d3 CW;go_wp2_with fail;refine HG.out.mono ?_;rintro e w2 ⟨t',rfl,g⟩;obtain⟨o',ho⟩:=t'.Dq;have HX:Hid (∃t',(Ending.returned (.pointer o'):Ending)=.returned (Tr.ptr t')/\Tg t L w t' w2):=⟨t',by rw[ho],g⟩;rw[ho];clear g HG ho;go_wp2_with fail;go_ret;exact HX.out):P:=h
def aao(h:P:=by
 generalize Tr.node b l k u x r=t at*;generalize l.ptr=lp at*;generalize r.ptr=rp at*;go_enter zq,zu;go_wp2_with fail;refine(CW.out (by trivial)).mono ?_;rintro e w1 ⟨o,rfl,d1,d2,d3⟩;have HG:Hid (cpr zx #[pz b] (w1.setCell ⟨b,zk,none⟩ (.pointer o)) λe w2=>∃t',e=.returned t'.ptr/\Tg t L w t' w2):=d3;clear d3 CW;go_wp2_with fail;refine HG.out.mono ?_;rintro e w2 ⟨t',rfl,g⟩;obtain⟨o',ho⟩:=t'.Dq;have HX:Hid (∃t',(Ending.returned (.pointer o'):Ending)=.returned (Tr.ptr t')/\Tg t L w t' w2):=⟨t',by rw[ho],g⟩;rw[ho];clear g HG ho;go_wp2_with fail;go_ret;exact HX.out):P:=h
def abz(h:P:=by
 obtain⟨szAt,szAt_eq⟩:=Uy;have HSz:Hid (∀{w:World} {s:Tr},TrAt nl s w->szAt w s.ptr=s.size):=szAt_eq;clear szAt_eq;have HT:Hid (TrAt nl t w):=ht;obtain⟨y,hy⟩:=xj (Ce key t);rw[hy];have HY:Hid (Ce key t=y):=hy;clear ht hy;go_enter acz,ad4;go_wp2;refine Io (λl a' w'=>w'=w/\l=0/\∃sp,aa6 p key sp a'/\∃s,TrAt nl s w/\Ce key s=y/\s.ptr=sp) (λ_ a' _=>szAt w (a'.tmps.getD 5 undef)) ?_ ?_
 .rintro l a' w' ⟨rfl,rfl,sp,hat,s,hs,hf,rfl⟩;obtain⟨u6,u7,u8,u9,u10,u11,u12,u13,u14,u15,u16,u17,u18,u19,u20,u21,u22,u23,u24,u25,u26,u27,u28,u29,u30,u31,u32,u33,u34,u35,u36,rfl⟩:=hat;refine⟨_,rfl,?_⟩;clear HT HY h0;cases s using Tr.cas with
  |nil=>
   have hy:none=y:=hf;subst hy;simp only[Tr.ptr];clear hs hf;go_wp2;simp only[Ef];go_ret;exact⟨rfl,rfl⟩
  |node c l q u x r=>
   obtain⟨c0,-,c2,c3,-⟩:=Ba hs.1;have q0:=Ol q key;have q1:=bl key q;simp only[Tr.ptr];by_cases hq:q=key
   .have hy:some c=y:=by rw[<-hf];simp[Ce,hq,Ey]
    subst hy;have hq':(q==key)=true:=by simp[hq]
    rw[hq']at q0;clear hs hf hq hq' c2 c3 q1;go_wp2;simp only[Ef];go_ret;exact⟨rfl,rfl⟩
   .have hq':(q==key)=false:=by simp[hq]
    rw[hq']at q0;by_cases h1:ltK key q=true
    .rw[h1]at q1;have HN:Hid (TrAt nl l w'/\Ce key l=y):=⟨hs.2.1,by rw[<-hf];simp[Ce,h1]⟩;have HM:Hid (szAt w' l.ptr<szAt w' (pz c)):=by have e1:=HSz.out hs.2.1;have e2:szAt w' (pz c)=_:=HSz.out hs;show _<_;rw[e1,e2];simp only[Tr.size];omega
     obtain⟨sp,hsp⟩:=xj l.ptr;have HJ:Hid (∃s,TrAt nl s w'/\Ce key s=y/\s.ptr=sp):=⟨l,HN.out.1,HN.out.2,hsp⟩;rw[hsp]at HM c2;clear hs hf HN hsp;go_wp2_with fail
     go_step3
     exact⟨⟨rfl,rfl,sp,Um,HJ.out⟩,HM.out⟩
    .have h1':ltK key q=false:=by simpa using h1
     have h2:ltK q key=true:=by
      cases e:ltK q key
      .exact absurd (Gu e h1') hq
      .rfl
     rw[h1']at q1;have HN:Hid (TrAt nl r w'/\Ce key r=y):=⟨hs.2.2,by rw[<-hf];simp[Ce,h1',h2]⟩;have HM:Hid (szAt w' r.ptr<szAt w' (pz c)):=by have e1:=HSz.out hs.2.2;have e2:szAt w' (pz c)=_:=HSz.out hs;show _<_;rw[e1,e2];simp only[Tr.size];omega
     obtain⟨sp,hsp⟩:=xj r.ptr;have HJ:Hid (∃s,TrAt nl s w'/\Ce key s=y/\s.ptr=sp):=⟨r,HN.out.1,HN.out.2,hsp⟩;rw[hsp]at HM c3;clear hs hf HN hsp;go_wp2_with fail
     go_step3
     exact⟨⟨rfl,rfl,sp,Um,HJ.out⟩,HM.out⟩
 .intro hp;obtain⟨tp,htp⟩:=xj t.ptr;have HX:Hid _:=hp;have HJ:Hid (∃s,TrAt nl s w/\Ce key s=y/\s.ptr=tp):=⟨t,HT.out,HY.out,htp⟩;rw[htp]at h0;clear HT HY hp htp;go_wp2
  go_step3
  rename_i Z hZ;refine hZ _ _ ?_;exact HX.out 0 _ _ _ rfl ⟨rfl,rfl,tp,Um,HJ.out⟩):P:=h
def ae8(h:P:=by
 have hbc:b≠c:=by intro e;subst e;simp[Tr.blocks]at hn
 have HL:Hid (Hk l/\Hk m/\Hk r):=⟨hl,hm,hr⟩;clear h hn few hl hm hr b3';obtain⟨mo,hmo⟩:=m.Dq;rw[hmo]at c2 H;clear hmo;go_enter ae9,age;go_wp2_with fail;refine H.out.1.measure.mono ?_;rintro e w1 ⟨rfl,h1,k1⟩;have H2:Hid _:=H.out.2.2 w1 h1 k1;have K1:Hid (Kept (λi=>i=b\/i=c) w w1):=H.out.2.1.trans k1 (λi e=>.inl (.inl e));clear h1 k1 H b3 c2 fb fc;go_wp2_with fail;refine H2.out.measure.mono ?_;rintro e w2 ⟨rfl,h2,k2⟩;have H3:Hid _:=h2;have K2:Hid (Kept (λi=>i=b\/i=c) w w2):=K1.out.trans k2 (λi e=>.inl (.inr e));clear h2 k2 H2 K1;go_wp2_with fail;go_ret;exact⟨_,_,rfl,H3.out.ok,⟨rfl,H3.out.hl,H3.out.hr⟩,K2.out⟩):P:=h
def ah1(h:P:=by
 have CF:Hid (1=1->cpr ah6 #[pz p,sd k] w λe w'=>e=.returned (Oh (Ce k t))/\w'=w):=λ_=>Uk p k t w h.cells.1 h.ok;have hg:=Jm (k:=k) h.srt;rw[<-hg];cases hf:Ce k t with
 |none=>
  rw[hf]at CF hg;have hn:getF k t.toL=none:=by
   cases e:getF k t.toL with
   |none=>rfl
   |some v=>rw[e]at hg;cases hg
  have HP:Hid (Post B p (C9 p t) (cutF k t.toL) w w):=⟨_,⟨t,h,(Ri hn).symm,rfl⟩,Kept.refl _ _,λi hi=>.inl hi⟩;simp only[Oh]at CF;clear h hg hn hf hl;generalize cutF k t.toL=L at*;generalize C9 p t=F at*;go_enter ai0,ain;go_wp2_with fail;refine(CF.out (by trivial)).mono ?_;rintro e w' ⟨rfl,rfl⟩;go_wp2_with fail;go_ret;exact⟨rfl,HP.out⟩
 |some b=>
  rw[hf]at CF hg;have hs:(getF k t.toL).isSome=true:=hg.symm;have hpos:0<t.toL.length:=by
   cases e:t.toL with
   |nil=>rw[e]at hs;cases hs
   |cons a l=>simp
  have CW:Hid (1=1->cpr aio #[t.ptr,sd k] w λe w1=>∃o,e=.returned (.pointer o)/\w1.cell? ⟨p,0,none⟩=some t.ptr/\ce w1 p 1 (iw t.toL.length)/\w1.frozen? ⟨p,0,none⟩=false/\w1.frozen? ⟨p,1,none⟩=false/\Hid (Post B p (C9 p t) (cutF k t.toL) w ((w1.setCell ⟨p,0,none⟩ (.pointer o)).setCell ⟨p,1,none⟩ (iw (t.toL.length-1))))):=λ_=>by
   refine(Vz t k w h.ok h.nd h.hk h.srt hs hl).mono ?_;rintro e w1 ⟨t',rfl,g⟩;obtain⟨o,ho⟩:=t'.Dq;have h1:w1.heap[p]?=some (.cells #[t.ptr,iw t.toL.length] aj1 (0,0)):=by rw[g.kept.block p (gsz h.box) h.pn];exact h.box
   refine⟨o,by rw[ho],Aa h1 rfl,Aa h1 rfl,Ad h1 _,Ad h1 _,?_⟩;have:=h.upd g (Jn h.srt) (t.toL.length-1) (by rw[L6 h.srt,ah hs];omega);rw[ho]at this;exact this
  obtain⟨c0,c1⟩:=h.cells;simp only[Oh]at CF;have hl':((t.toL.length:Nat):Int)<100000:=by omega
  clear h hg hf hl hs hpos;generalize cutF k t.toL=L at*;generalize C9 p t=F at*;obtain⟨tp,hto⟩:=t.Dq;rw[hto]at CW c0;clear hto;generalize t.toL.length=n at*;go_enter ai0,ain;go_wp2_with fail;refine(CF.out (by trivial)).mono ?_;rintro e w' ⟨rfl,rfl⟩;go_wp2_with fail;refine(CW.out (by trivial)).mono ?_;rintro e w1 ⟨o,rfl,d0,d1,f0,f1,HP⟩;clear CW CF c0 c1;go_wp2_with fail;go_ret;exact⟨rfl,HP.out⟩):P:=h
def ajf(h:P:=by
 obtain⟨szAt,szAt_eq⟩:=Uy;have HSz:Hid (∀{w:World} {s:Tr},TrAt nl s w->szAt w s.ptr=s.size):=szAt_eq;clear szAt_eq;have HT:Hid (TrAt nl (.node b l k v x r) w):=h;have HB:Hid (TrAt nl (.node b l k v x r) w->∃c m q u y s,(Value.pointer (some ⟨b,0,none⟩):Value)=.pointer (some ⟨c,0,none⟩)/\TrAt nl (.node c m q u y s) w/\(∀i∈(Tr.node c m q u y s).blocks,i∈(Tr.node b l k v x r).blocks)/\∃R,(Tr.node b l k v x r).toL=(Tr.node c m q u y s).toL++R):=λh=>⟨b,l,k,v,x,r,rfl,h,λ_ hi=>hi,[],by simp⟩;clear h;generalize Tr.node b l k v x r=t at*;go_enter ajg,ajp;go_wp2_with fail;go_loopw [0] (λn wr=>wr=w/\∃c m q u y s,n=.pointer (some ⟨c,0,none⟩)/\TrAt nl (.node c m q u y s) w/\(∀i∈(Tr.node c m q u y s).blocks,i∈t.blocks)/\∃R,t.toL=(Tr.node c m q u y s).toL++R) (λn _=>szAt w n)
 case atStart=>exact⟨rfl,HB.out HT.out⟩
 case round=>
  obtain⟨rfl,c,m,q,u,y,s,rfl,hc,hbl,R,hR⟩:=hrel;cases m using Tr.cas with
  |nil=>
   obtain⟨-,-,c2,-,-⟩:=Ba hc.1;have HR:Hid (wr.heap[c]?=some (.cells (nl.cells q u y (Tr.ptr .nil) s.ptr) nl.ty (0,0))/\c∈t.blocks/\∃R,t.toL=(q,u)::R):=⟨hc.1,hbl c (by simp[Tr.blocks]),s.toL++R,by rw[hR];simp[Tr.toL]⟩;simp only[Tr.ptr]at c2;clear hc hbl hR HB HT;go_wp2_with fail;go_ret;exact⟨c,q,u,y,_,_,rfl,rfl,HR.out⟩
  |node c' m' q' u' y' s'=>
   obtain⟨-,-,c2,-,-⟩:=Ba hc.1;have HR:Hid (∃c m q u y s,(Value.pointer (some ⟨c',0,none⟩):Value)=.pointer (some ⟨c,0,none⟩)/\TrAt nl (.node c m q u y s) wr/\(∀i∈(Tr.node c m q u y s).blocks,i∈t.blocks)/\∃R,t.toL=(Tr.node c m q u y s).toL++R):=
    ⟨c',m',q',u',y',s',rfl,hc.2.1,λi hi=>hbl i (by simp only[Tr.blocks,au,bu]at hi|-;exact .inr (.inl hi)),(q,u)::s.toL++R,by rw[hR];simp[Tr.toL]⟩
   have HM:Hid (szAt wr (pz c')<szAt wr (pz c)):=by have e1:=HSz.out hc.2.1;have e2:=HSz.out hc;simp only[Tr.ptr]at e1 e2;show _<_;rw[e1,e2];simp only[Tr.size];omega
   simp only[Tr.ptr]at c2;clear hc hbl hR HB HT;go_wp2_with fail;go_roundw
   case rel=>exact⟨trivial,HR.out⟩
   case measure=>exact HM.out):P:=h
def aka(h:P:=by
 have hn0:=hn;obtain⟨h1,h2,h3,h4,h5⟩:=h;simp only[Tr.blocks,gz,bu,au,ug,ik]at hn;obtain⟨⟨nbl,nbc,nbm,nbr⟩,n1,⟨⟨ncm,ncr⟩,n2,n3,n4⟩,n5⟩:=hn;have ncl:c∉l.blocks:=λhc=>n5 c hc c (.inl rfl) rfl;have k1:=Ai w b zk m.ptr;have k2:=Ai (w.setCell ⟨b,zk,none⟩ m.ptr) c zy (pz b);have kk:Kept (λi=>i=b\/i=c) w ((w.setCell ⟨b,zk,none⟩ m.ptr).setCell ⟨c,zy,none⟩ (pz b)):=by refine⟨k2.os.trans k1.os,k2.tape.trans k1.tape,k2.output.trans k1.output,ak k1.size k2.size,λi hi hF=>?_⟩;rw[k2.block i (iy hi k1.size) (λe=>hF (.inr e)),k1.block i hi (λe=>hF (.inl e))]
 have eb:((w.setCell ⟨b,zk,none⟩ m.ptr).setCell ⟨c,zy,none⟩ (pz b)).heap[b]?=some (.cells (nl.cells k v x l.ptr m.ptr) nl.ty (0,0)):=by rw[k2.block b (iy (gsz h1) k1.size) nbc];exact Af _ h1
 have ec:((w.setCell ⟨b,zk,none⟩ m.ptr).setCell ⟨c,zy,none⟩ (pz b)).heap[c]?=some (.cells (nl.cells q u y (pz b) r.ptr) nl.ty (0,0)):=by refine Af _ (?_:_=some (Obj.cells (nl.cells q u y m.ptr r.ptr) nl.ty (0,0)));rw[k1.block c (gsz h3) (λe=>nbc e.symm)];exact h3
 have tl:TrAt nl l ((w.setCell ⟨b,zk,none⟩ m.ptr).setCell ⟨c,zy,none⟩ (pz b)):=TrAt.kept kk h2 (λi hi e=>by rcases e with rfl|rfl;exact nbl hi;exact ncl hi);have tm:TrAt nl m ((w.setCell ⟨b,zk,none⟩ m.ptr).setCell ⟨c,zy,none⟩ (pz b)):=TrAt.kept kk h4 (λi hi e=>by rcases e with rfl|rfl;exact nbm hi;exact ncm hi);have tr:TrAt nl r ((w.setCell ⟨b,zk,none⟩ m.ptr).setCell ⟨c,zy,none⟩ (pz b)):=TrAt.kept kk h5 (λi hi e=>by rcases e with rfl|rfl;exact nbr hi;exact ncr hi);have hp:(c::((b::(l.blocks++m.blocks))++r.blocks)).Nodup:=by refine(xw ?_).1 hn0;rw[ry];intro a;simp only[Tr.blocks,xu,uy];omega
 refine⟨⟨⟨eb,tl,tm⟩,?_,hl,hm,by omega⟩,kk,λW' hN hk=>⟨⟨?_,hN.ok,TrAt.kept hk tr (λi hi e=>nbr (e▸hi))⟩,hp,⟨rfl,hl,hm⟩,hr,?_⟩⟩
 .simp only[Tr.blocks,gz,bu,ug,ik];exact⟨⟨nbl,nbm⟩,n1,n2,λi hi j hj=>n5 i hi j (.inr (.inl hj))⟩
 .rw[hk.block c (gsz ec) (λe=>nbc e.symm)];exact ec
 .simp only[Tr.toL,af,bg];omega):P:=h
def ale(h:P:=by
 have hn0:=hn;obtain⟨h1,⟨h3,h2,h4⟩,h5⟩:=h;simp only[Tr.blocks,lu,gz,bu,au,ug,ik]at hn;obtain⟨⟨nbc,⟨nbl,nbm⟩,nbr⟩,⟨⟨ncl,ncm⟩,ncr⟩,⟨n1,n2,n4⟩,n3,n5⟩:=hn;have k1:=Ai w b zy m.ptr;have k2:=Ai (w.setCell ⟨b,zy,none⟩ m.ptr) c zk (pz b);have kk:Kept (λi=>i=b\/i=c) w ((w.setCell ⟨b,zy,none⟩ m.ptr).setCell ⟨c,zk,none⟩ (pz b)):=by refine⟨k2.os.trans k1.os,k2.tape.trans k1.tape,k2.output.trans k1.output,ak k1.size k2.size,λi hi hF=>?_⟩;rw[k2.block i (iy hi k1.size) (λe=>hF (.inr e)),k1.block i hi (λe=>hF (.inl e))]
 have eb:((w.setCell ⟨b,zy,none⟩ m.ptr).setCell ⟨c,zk,none⟩ (pz b)).heap[b]?=some (.cells (nl.cells k v x m.ptr r.ptr) nl.ty (0,0)):=by rw[k2.block b (iy (gsz h1) k1.size) nbc];exact Af _ h1
 have ec:((w.setCell ⟨b,zy,none⟩ m.ptr).setCell ⟨c,zk,none⟩ (pz b)).heap[c]?=some (.cells (nl.cells q u y l.ptr (pz b)) nl.ty (0,0)):=by refine Af _ (?_:_=some (Obj.cells (nl.cells q u y l.ptr m.ptr) nl.ty (0,0)));rw[k1.block c (gsz h3) (λe=>nbc e.symm)];exact h3
 have tl:TrAt nl l ((w.setCell ⟨b,zy,none⟩ m.ptr).setCell ⟨c,zk,none⟩ (pz b)):=TrAt.kept kk h2 (λi hi e=>by rcases e with rfl|rfl;exact nbl hi;exact ncl hi);have tm:TrAt nl m ((w.setCell ⟨b,zy,none⟩ m.ptr).setCell ⟨c,zk,none⟩ (pz b)):=TrAt.kept kk h4 (λi hi e=>by rcases e with rfl|rfl;exact nbm hi;exact ncm hi);have tr:TrAt nl r ((w.setCell ⟨b,zy,none⟩ m.ptr).setCell ⟨c,zk,none⟩ (pz b)):=TrAt.kept kk h5 (λi hi e=>by rcases e with rfl|rfl;exact nbr hi;exact ncr hi);have hp:(c::(l.blocks++(b::(m.blocks++r.blocks)))).Nodup:=by refine(xw ?_).1 hn0;rw[ry];intro a;simp only[Tr.blocks,xu,uy];omega
 refine⟨⟨⟨eb,tm,tr⟩,?_,hm,hr,by omega⟩,kk,λW' hN hk=>⟨⟨?_,TrAt.kept hk tl (λi hi e=>nbl (e▸hi)),hN.ok⟩,hp,hl,⟨rfl,hm,hr⟩,?_⟩⟩
 .simp only[Tr.blocks,gz,bu,ug,ik];exact⟨⟨nbm,nbr⟩,n2,n3,λi hi j hj=>n5 i (.inr hi) j hj⟩
 .rw[hk.block c (gsz ec) (λe=>nbc e.symm)];exact ec
 .simp only[Tr.toL,af,bg];omega):P:=h
def alh(h:P:=by
 have HL:Hid (Hk l/\Hk m/\Hk r):=⟨hl,hm,hr⟩;clear h hn few hl hm hr b3';obtain⟨mo,hmo⟩:=m.Dq;rw[hmo]at c2 H;clear hmo;go_enter alo,ama;go_wp2_with fail;refine H.out.1.measure.mono ?_;rintro e w1 ⟨rfl,h1,k1⟩;have H2:Hid _:=H.out.2.2 w1 h1 k1;have K1:Hid (Kept (λi=>i=b\/i=c) w w1):=H.out.2.1.trans k1 (λi e=>.inl (.inl e));clear h1 k1 H b3 c2 fb fc;go_wp2_with fail;refine H2.out.measure.mono ?_;rintro e w2 ⟨rfl,h2,k2⟩;have H3:Hid _:=h2;have K2:Hid (Kept (λi=>i=b\/i=c) w w2):=K1.out.trans k2 (λi e=>.inl (.inr e));clear h2 k2 H2 K1;go_wp2_with fail;go_ret;exact⟨_,_,rfl,H3.out.ok,⟨rfl,H3.out.hl,H3.out.hr⟩,K2.out⟩):P:=h
def amb(h:P:=by
 have HB4:Hid (Bx w w.heap.size ⟨xp,xl,xc,xn,xs,xd⟩ (w3.drewN nq)):=HB3.out.on (below_drewN (aj _ _) _);clear HB3 zc0;generalize w3.drewN nq=w4 at*;have HP5:Hid _:=HP4.out (by trivial) HNo.out;clear HP4 HNo;by_cases hfull:C.length=1000
 .have hfull':((C.length:Int)==1000)=true:=by simp;omega
  have HE:Hid ((D,er)=([],3)):=by rw[HP5.out,ah (by omega)];exact rfl
  clear HP5 hfull;go_wp2_with fail;have he:=HE.out;injection he with he1 he2;subst he1 he2;refine az (v:=.tuple #[sy,iw 3]) (by simp[results,Tryz.results186,go_sem]) rfl ?_;exact⟨_,rfl,Og _ _,HB4.out.bel⟩
 .have hfull':((C.length:Int)==1000)=false:=by simp;omega
  have HE:Hid ((D,er)=(C.take k++⟨xp,xl,xc,xn,xs,xd⟩::C.drop k,0)):=by rw[HP5.out,ag (by omega)];exact rfl
  clear HP5 hfull;have hkc:k<=cap:=by omega
  have HCt:Hid (∀W,Bx w w.heap.size ⟨xp,xl,xc,xn,xs,xd⟩ W->_):=λW hW=>cat3 w W _ _ _ _ _ _ _ C _ _ cap k hW H.out HDr.out hk hl1000;go_wp2_with fail;go_region_held3 (λw'=>w'.cell? ⟨w.heap.size,0,none⟩=some (uw xp)/\w'.cell? ⟨w.heap.size,1,none⟩=some (ui xl)/\w'.cell? ⟨w.heap.size,2,none⟩=some (ui xc)/\w'.cell? ⟨w.heap.size,3,none⟩=some (ui xn)/\w'.cell? ⟨w.heap.size,4,none⟩=some (sd xs)/\w'.cell? ⟨w.heap.size,5,none⟩=some (.bool xd)/\Hid (Bx w w.heap.size ⟨xp,xl,xc,xn,xs,xd⟩ w')) (first|exact HB4.out.dr.s7|exact(HB4.out.on ((al _).drew)).s7|exact(HB4.out.on (((al _).alloc (by simp) _).drew)).s7|exact HB5.out.s7) (first
   |(go_at_call 229;refine(HCt.out _ HB4.out).mono ?_;rintro e w5 ⟨v5,rfl,hv5,hb5⟩;have H5:Hid (VsAt w5.heap.size v5 (C.take k++⟨xp,xl,xc,xn,xs,xd⟩::C.drop k) w5):=hv5;have HB5:Hid (Bx w w.heap.size ⟨xp,xl,xc,xn,xs,xd⟩ w5):=hb5;clear hv5 hb5))
  go_wp2_with fail;have he:=HE.out;injection he with he1 he2;subst he1 he2;refine az (v:=.tuple #[v5,iw 0]) (by simp[results,Tryz.results186,go_sem]) rfl ?_;exact⟨_,rfl,H5.out,HB5.out.bel⟩):P:=h
def amc(h:P:=by
 go_wp2_with fail;refine(CT.out _ (HS.out.drewN _)).mono ?_;rintro e w1 ⟨rfl,d1,d2,d3⟩;have HG:Hid (cpr amd #[.pointer (some ⟨b,0,none⟩)] (w1.setCell ⟨b,zy,none⟩ (.pointer (some ⟨d,0,none⟩))) λe w2=>∃t',e=.returned t'.ptr/\Tg t L w t' w2):=d3;clear d3 CT C1 C2 C3 C4;go_wp2_with fail;refine HG.out.mono ?_;rintro e w2 ⟨t',rfl,g⟩;obtain⟨o,ho⟩:=t'.Dq;have HX:Hid (∃t',(Ending.returned (.pointer o):Ending)=.returned (Tr.ptr t')/\Tg t L w t' w2):=⟨t',by rw[ho],g⟩;rw[ho];clear g HG ho;go_wp2_with fail;go_ret;exact HX.out):P:=h
def anb(h:P:=by
 refine(CT.out _ (HS.out.drewN _)).mono ?_;rintro e w1 ⟨rfl,d1,d2,d3⟩;have HG:Hid (cpr anp #[.pointer (some ⟨b,0,none⟩)] (w1.setCell ⟨b,zk,none⟩ (.pointer (some ⟨d,0,none⟩))) λe w2=>∃t',e=.returned t'.ptr/\Tg t L w t' w2):=d3;clear d3 CT C1 C2 C3 C4;go_wp2_with fail;refine HG.out.mono ?_;rintro e w2 ⟨t',rfl,g⟩;obtain⟨o,ho⟩:=t'.Dq;have HX:Hid (∃t',(Ending.returned (.pointer o):Ending)=.returned (Tr.ptr t')/\Tg t L w t' w2):=⟨t',by rw[ho],g⟩;rw[ho];clear g HG ho;go_wp2_with fail;go_ret;exact HX.out):P:=h
def aop(h:P:=by
 clear d3 CW;go_wp2_with fail;refine HG.out.mono ?_;rintro e w2 ⟨t',rfl,g⟩;obtain⟨o',ho⟩:=t'.Dq;have HX:Hid (∃t',(Ending.returned (.pointer o'):Ending)=.returned (Tr.ptr t')/\Tg t L w t' w2):=⟨t',by rw[ho],g⟩;rw[ho];clear g HG ho;go_wp2_with fail;go_ret;exact HX.out):P:=h
def aos(h:P:=by
 obtain⟨m1,m2,m3,m4⟩:=moved ha hn hc hcr;rw[<-hW1]at m1 m2 m3;refine⟨m4,Aa m1.1 rfl,Aa m3 rfl,λW hs1'=>?_⟩;have m1':=m1.sw hs1';have hq:getF q r.toL=some u':=(Dy hs2).2 (by rw[hR];simp);have hcr2:cutF q r.toL=R:=by rw[hR];simp[cutF]
 refine(ihr q W m1'.2.2 hn'.2.2.1 hk.2.2 hs2 (by rw[hq];rfl) (by omega)).mono ?_;rintro e w2 ⟨r',rfl,g⟩;obtain⟨o,ho⟩:=r'.Dq;have hb1:w2.heap[b]?=W.heap[b]?:=g.kept.block b (gsz m1'.1) (λhi=>hn'.1 (by simp[hi]));obtain⟨o1,o2,o3,o4⟩:=Tg.ac2 m1' hn g;rw[ho]at o1 o4;have hlen:r'.toL.length<=r.toL.length:=by rw[g.el,L6 hs2];split<;>omega
 refine⟨o,by rw[ho],Aa (hb1.trans m1'.1) rfl,Ad (hb1.trans m1'.1) _,λW3 hs3=>?_⟩;have hN:Nd b l r' q u' x W3:=(Nd.mk o1 o2 hk.2.1 g.hk (by omega)).sw hs3;refine(Gg hN (by omega)).mono ?_;rintro e w3 ⟨t',rfl,g2⟩;have g3:=Tg.after o3 o4 (hs3.tg g2);have g4:=hs1'.tg g3;have hm2:Kept (λi=>i∈(Tr.node b l k u x r).blocks) w W1:=m2.mono (λi e=>by simp[Tr.blocks,e]);have g5:=Tg.after (t:=.node b l k u x r) (t1:=.node b l q u' x r) (λi hi=>.inl (by simpa[Tr.blocks]using hi)) hm2 g4;refine⟨t',rfl,⟨g5.ok,g5.hk,g5.nd,?_,g5.sub,g5.kept⟩⟩;rw[g5.el,g.el,hcr2,hR]):P:=h
def ap1(h:P:=by
 simp only[Tr.blocks,gz,bu,ug,ik]at hn;obtain⟨⟨nbl,nbr⟩,n1,n2,n3⟩:=hn;have hb:b<w.heap.size:=(gsz h.1);have hrlt:=TrAt.lt h.2.2;have h1:w1.heap[b]?=some (.cells (nl.cells k v x l.ptr r.ptr) nl.ty (0,0)):=by rw[g.kept.block b hb nbl];exact h.1
 have tr:TrAt nl r w1:=TrAt.kept g.kept h.2.2 (λi hi e=>n3 i e i hi rfl);have ks:=Ai w1 b zy l'.ptr;have nbl':b∉l'.blocks:=λhi=>by
  rcases g.sub b hi with e|e
  .exact nbl e
  .omega
 have dis:∀i∈l'.blocks,∀j∈r.blocks,i≠j:=λi hi j hj e=>by
  subst e;rcases g.sub i hi with e|e
  .exact n3 i e i hj rfl
  .have:=hrlt i hj;omega
 refine⟨⟨Af _ h1,TrAt.kept ks g.ok (λi hi e=>nbl' (e▸hi)),TrAt.kept ks tr (λi hi e=>nbr (e▸hi))⟩,?_,λi hi=>?_,?_⟩
 .simp only[Tr.blocks,gz,bu,ug,ik];exact⟨⟨nbl',nbr⟩,g.nd,n2,dis⟩
 .simp only[Tr.blocks,au,bu]at hi|-;rcases hi with e|e|e
  .exact .inl (.inl e)
  .rcases g.sub i e with e|e
   .exact .inl (.inr (.inl e))
   .exact .inr e
  .exact .inl (.inr (.inr e))
 .refine(g.kept.mono (λi hi=>?_)).trans ks (λi hi=>.inl ?_)
  .simp[Tr.blocks,hi]
  .simp[Tr.blocks,hi]):P:=h
def apy(h:P:=by
 simp only[Tr.blocks,gz,bu,ug,ik]at hn;obtain⟨⟨nbl,nbr⟩,n1,n2,n3⟩:=hn;have hb:b<w.heap.size:=(gsz h.1);have hllt:=TrAt.lt h.2.1;have h1:w1.heap[b]?=some (.cells (nl.cells k v x l.ptr r.ptr) nl.ty (0,0)):=by rw[g.kept.block b hb nbr];exact h.1
 have tl:TrAt nl l w1:=TrAt.kept g.kept h.2.1 (λi hi e=>n3 i hi i e rfl);have ks:=Ai w1 b zk r'.ptr;have nbr':b∉r'.blocks:=λhi=>by
  rcases g.sub b hi with e|e
  .exact nbr e
  .omega
 have dis:∀i∈l.blocks,∀j∈r'.blocks,i≠j:=λi hi j hj e=>by
  subst e;rcases g.sub i hj with e|e
  .exact n3 i hi i e rfl
  .have:=hllt i hi;omega
 refine⟨⟨Af _ h1,TrAt.kept ks tl (λi hi e=>nbl (e▸hi)),TrAt.kept ks g.ok (λi hi e=>nbr' (e▸hi))⟩,?_,λi hi=>?_,?_⟩
 .simp only[Tr.blocks,gz,bu,ug,ik];exact⟨⟨nbl,nbr'⟩,n1,g.nd,dis⟩
 .simp only[Tr.blocks,au,bu]at hi|-;rcases hi with e|e|e
  .exact .inl (.inl e)
  .exact .inl (.inr (.inl e))
  .rcases g.sub i e with e|e
   .exact .inl (.inr (.inr e))
   .exact .inr e
 .refine(g.kept.mono (λi hi=>?_)).trans ks (λi hi=>.inl ?_)
  .simp[Tr.blocks,hi]
  .simp[Tr.blocks,hi]):P:=h
def aql(h:P:=by
 subst hd;intro W hs;obtain⟨-,hdm,hdr⟩:=hll;have hW:=h.sw hs;have hn:=hW.nd;have hnc:(Tr.node c (.node d dm dq du dy dr) q u y lr).blocks.Nodup/\b∉(Tr.node c (.node d dm dq du dy dr) q u y lr).blocks:=by have hn':=hn;rw[Tr.blocks,gz,bu,ug,ik]at hn';exact⟨hn'.2.2.1,hn'.1.2⟩
 refine(Ug hW.ok.2.2 hnc.1 hdm hdr hlr (by simp only[Tr.toL,af,bg]at few;omega)).mono ?_;rintro e w1 ⟨x',y',rfl,g⟩;have hb1:w1.heap[b]?=W.heap[b]?:=g.kept.block b (lq.1 hW.ok.1).1 hnc.2;have hk':=g.hk;obtain⟨o1,o2,o3,o4⟩:=Tg.ac2 hW.ok hn g;refine⟨rfl,?_,?_,?_⟩
 .exact Aa (hb1.trans hW.ok.1) rfl
 .exact Ad (hb1.trans hW.ok.1) _
 .refine(aag o1 o2 hoth hdm hk'.2.2 (by simp only[Tr.toL,af,bg]at few|-;omega)).mono ?_;rintro e w2 ⟨x2,y2,rfl,g2⟩;exact⟨Tr.node d _ _ _ _ _,rfl,hs.tg (Tg.after o3 o4 ⟨g2.ok,g2.hk,g2.nd,by rw[g2.el];simp[Tr.toL],g2.sub,g2.kept⟩)⟩):P:=h
def ar9(h:P:=by
 subst hd;intro W hs;obtain⟨-,hdm,hdr⟩:=hlr;have hW:=h.sw hs;have hn:=hW.nd;have hnc:(Tr.node c ll q u y (.node d dm dq du dy dr)).blocks.Nodup/\b∉(Tr.node c ll q u y (.node d dm dq du dy dr)).blocks:=by have hn':=hn;rw[Tr.blocks,gz,bu,ug,ik]at hn';exact⟨hn'.2.1,hn'.1.1⟩
 refine(aag hW.ok.2.1 hnc.1 hll hdm hdr (by simp only[Tr.toL,af,bg]at few;omega)).mono ?_;rintro e w1 ⟨x',y',rfl,g⟩;have hb1:w1.heap[b]?=W.heap[b]?:=g.kept.block b (lq.1 hW.ok.1).1 hnc.2;have hk':=g.hk;obtain⟨o1,o2,o3,o4⟩:=Tg.agx hW.ok hn g;refine⟨rfl,?_,?_,?_⟩
 .exact Aa (hb1.trans hW.ok.1) rfl
 .exact Ad (hb1.trans hW.ok.1) _
 .refine(Ug o1 o2 hk'.2.1 hdr hoth (by simp only[Tr.toL,af,bg]at few|-;omega)).mono ?_;rintro e w2 ⟨x2,y2,rfl,g2⟩;exact⟨Tr.node d _ _ _ _ _,rfl,hs.tg (Tg.after o3 o4 ⟨g2.ok,g2.hk,g2.nd,by rw[g2.el];simp[Tr.toL],g2.sub,g2.kept⟩)⟩):P:=h
def arx(h:P:=by
 go_enter ary,ati;go_wp2_with fail;go_ret;exact⟨rfl,rfl⟩):P:=h
def atm(h:P:=by
 go_wp2_with fail;refine(CT.out _ (HS.out.drewN _)).mono ?_;rintro e w1 ⟨t',rfl,ht,g⟩;have HX:Hid (∃t',(Ending.returned (.pointer (some ⟨c,0,none⟩)):Ending)=.returned (Tr.ptr t')/\Tg t L w t' w1):=⟨t',by rw[ht],g⟩;clear g ht CT;go_wp2_with fail;go_ret;exact HX.out):P:=h
def atn(h:P:=by
 have hp:p<w.heap.size:=(gsz h.box);have h1:w1.heap[p]?=some (.cells #[t.ptr,iw t.toL.length] aj1 (0,0)):=by rw[g.kept.block p hp h.pn];exact h.box
 have k1:=Ai w1 p 0 t'.ptr;have k2:=Ai (w1.setCell ⟨p,0,none⟩ t'.ptr) p 1 (iw n);have kk:=k1.trans k2 (λi e=>.inl e);have pn:p∉t'.blocks:=λhi=>by
  rcases g.sub p hi with e|e
  .exact h.pn e
  .omega
 refine⟨_,⟨t',⟨?_,TrAt.kept kk g.ok (λi hi e=>pn (e▸hi)),by rw[g.el];exact hs,g.hk,pn,g.nd,h.low.1,λi hi=>?_⟩,g.el,rfl⟩,?_,λi hi=>?_⟩
 .rw[g.el,<-hn];exact Af _ (Af _ h1)
 .rcases g.sub i hi with e|e
  .exact h.low.2 i e
  .have:=h.low.1;omega
 .exact(g.kept.mono (λi hi=>.inr hi)).trans kk (λi e=>.inl (.inl e))
 .rcases hi with e|e
  .exact .inl (.inl e)
  .rcases g.sub i e with e|e
   .exact .inl (.inr e)
   .exact .inr e):P:=h
def ato(h:P:=by
 by_cases h:p=q
 .subst h;go_enter Tryz.func84,Tryz.ntmps84;go_wp2;go_ret;exact⟨Dj (by simp[Ar]),(al _).alloc (by simp) _⟩
 .have h':(p != q)=true:=by simpa using h
  go_enter Tryz.func84,Tryz.ntmps84;go_wp2;go_ret;exact⟨Dj (by simp[Ar,h]),(al _).alloc (by simp) _⟩):P:=h
def au0(h:P:=by
 rw[hvk]at c0;clear hvk;have HT:Hid _:=Rk hkl;have hle:(cat (LS.take k)).length<=1048576:=ak (Ul LS k) HL.out;have hle2:(cat (LS.take k)).length+(LS.getD k dz).2.length<=1048576:=by have h1:=Ul LS (k+1);rw[HT.out,af]at h1;exact ak h1 HL.out
 have HT2:Hid ((cat (LS.take (k+1))).length=(cat (LS.take k)).length+(LS.getD k dz).2.length):=by rw[HT.out];show _=_;simp
 clear HT;generalize (LS.getD k dz).2.length=m at*;generalize (cat (LS.take k)).length=t at*;have hkl':(k:Int)<LS.length:=by omega
 have hadd:IntKind.i64.wrap ((t:Int)+m)=((t+m:Nat):Int):=by simp[IntKind.wrap,IntKind.signed,IntKind.bits];omega
 have hnn:¬(((t+m:Nat):Int)<0):=by omega
 go_wp2_with fail;go_roundw
 case rel=>exact⟨k+1,by omega,by go_num,by rw[HT2.out];go_num,by trivial⟩
 case measure=>simp[intOf];omega):P:=h
def avr(h:P:=by
 clear h;go_enter Tryz.func197,Tryz.ntmps197;go_wp2_with fail;refine(Fq _ _ _).mono ?_;rw[HR.out];rintro e w1 ⟨rfl,hb⟩;obtain⟨hc,hf⟩:=Fe hb;have hz:w.heap.size+1<w1.heap.size:=by have:=hb.size;simp at this;omega
 go_wp2;exact az (v:=.agg #[.int .u64 281474976710656,.int .u32 4095]) (by simp[results,Tryz.results197,go_sem,hc]) rfl ⟨rfl,Jp hb _ _⟩):P:=h
def avx(h:P:=by
 clear hle;go_wp2_with fail;go_region;go_wp2_with (go_at_call 28;refine(HC.out (by trivial) _ _ ((aj _ _).drew) (by omega)).mono ?_;rintro e w1 ⟨rfl,h1,h2⟩;have H1:Hid _:=jq h1 h2;clear h1 h2);go_roundw
 case rel=>exact⟨k+1,by omega,by go_num,Qe (by rw[HL.out];omega) H1.out HW.out.2.1.drew⟩
 case measure=>simp[intOf];omega):P:=h
def awj(h:P:=by
 generalize setF key v (Tr.node b l k u x r).toL=L at*;simp only[Tr.ptr];generalize Tr.node b l k u x r=t at*;generalize l.ptr=lp at*;generalize r.ptr=rp at*;go_enter Tryz.func178,Tryz.ntmps178;go_wp2_with fail;go_region_with (go_at_call 178;refine(CW.out _ ?_).mono ?_;exact Sw.drew (Sw.refl _);rintro e w1 ⟨o,rfl,d5,d6,HE⟩)
 all_goals
  go_wp2_with fail;refine(HE.out _ (Sw.refl _)).mono ?_;rintro e w2 ⟨t',rfl,g⟩;obtain⟨o',ho⟩:=t'.Dq;have HX:Hid (∃t',(Ending.returned (.pointer o'):Ending)=.returned (Tr.ptr t')/\Tg t L w t' w2):=⟨t',by rw[ho],g⟩;rw[ho];clear g HE ho;go_wp2_with fail;go_ret;exact HX.out):P:=h
def awl(h:P:=by
 go_wp2_with (go_at_call 91;refine(HC.out (by trivial)).mono ?_;rintro e w1 ⟨rfl,h1,h2⟩;have H1:Hid _:=jq h1 h2;clear h1 h2);go_ret;exact⟨rfl,H1.out⟩):P:=h
def awo(h:P:=by
 refine(ihr key w ha.2.2 hn'.2.2.1 hk.2.2 hs2 hg0 (by omega)).mono ?_;rintro e w1 ⟨r',rfl,g⟩;obtain⟨o,ho⟩:=r'.Dq;have hb1:w1.heap[b]?=w.heap[b]?:=g.kept.block b (gsz ha.1) (λhi=>hn'.1 (by simp[hi]));obtain⟨o1,o2,o3,o4⟩:=Tg.ac2 ha hn g;rw[ho]at o1 o4;have hlen:r'.toL.length<=r.toL.length:=by rw[g.el,L6 hs2];split<;>omega
 refine⟨o,by rw[ho],Aa (hb1.trans ha.1) rfl,Ad (hb1.trans ha.1) _,?_⟩;refine(Gg ⟨o1,o2,hk.2.1,g.hk,by omega⟩ (by omega)).mono ?_;rintro e w2 ⟨t',rfl,g2⟩;refine⟨t',rfl,Tg.after o3 o4 ?_⟩;simp only[Tr.toL];rw[J3 hs,ag h1,ah h2,<-g.el];exact g2):P:=h
def aws(h:P:=by
 refine(ihl key w ha.2.1 hn'.2.1 hk.2.1 hs1 hg0 (by omega)).mono ?_;rintro e w1 ⟨l',rfl,g⟩;obtain⟨o,ho⟩:=l'.Dq;have hb1:w1.heap[b]?=w.heap[b]?:=g.kept.block b (gsz ha.1) (λhi=>hn'.1 (by simp[hi]));obtain⟨o1,o2,o3,o4⟩:=Tg.agx ha hn g;rw[ho]at o1 o4;have hlen:l'.toL.length<=l.toL.length:=by rw[g.el,L6 hs1];split<;>omega
 refine⟨o,by rw[ho],Aa (hb1.trans ha.1) rfl,Ad (hb1.trans ha.1) _,?_⟩;refine(Gg ⟨o1,o2,g.hk,hk.2.2,by omega⟩ (by omega)).mono ?_;rintro e w2 ⟨t',rfl,g2⟩;refine⟨t',rfl,Tg.after o3 o4 ?_⟩;simp only[Tr.toL];rw[J3 hs,ah h1,<-g.el];exact g2):P:=h
def ax5(h:P:=by
 rw[HL.out];rintro e w3 ⟨rfl,hb3⟩;obtain⟨hc3,hf3⟩:=Fe hb3;have hz3:w.heap.size+1<w3.heap.size:=by have:=hb3.size;simp at this;omega
 have hz4:w.heap.size<wr.heap.size:=by omega
 go_wp2;go_roundw
 case rel=>
  refine⟨k+1,by omega,by go_num,?_,by simpa using hz3,?_,?_,?_,?_,?_,?_,?_,?_⟩
  .exact(((hBr.alloc hBr.size _).trans (hb3.mono (by simp;omega))).setCell (by simp) _).setCell (by simp) _
  all_goals try rw[HM.out]
  all_goals simp[go_sem,hc3,hf3,ut hz4,ut hzr,hz4,hzr,f0,f1,f2,f3,r0,r1,m0,m1]
 case measure=>simp[intOf];omega):P:=h
def axh(h:P:=by
 by_cases h1:p<=281474976710656<;>by_cases h2:l<=4095
 all_goals
  go_enter Tryz.func109,Tryz.ntmps109;go_wp2;go_ret;exact⟨Dj (by simp[Ag,h1,h2]),al _⟩):P:=h
def axt(h:P:=by
 rcases h.2 with⟨rfl,h0⟩|⟨g,cap,cur,rfl,hb,hg,_⟩
 .rw[run_convert_bytes_nil w 73 5 Tryz.underlying73 Tryz.underlying5 0 0 9 Tryz.underlying9,qo.1 h0];rfl
 .rw[run_convert_bytes_arg w 73 5 Tryz.underlying73 Tryz.underlying5 g 0 l.length cap (l.map λc=>(c.toNat:Int)) (by simp) ?_ 9 Tryz.underlying9,Zd];intro i hi;have:=h.cells (g:=g) rfl i (ub (l[i]).toNat) (by simp[cl,hi]);simp only[ni];have e:(⟨g,0,none⟩:Addr).add i=⟨g,i,none⟩:=by simp[uo]
  rw[e]at this;rw[this];simp[hi]):P:=h
def axu(h:P:=by
 rw[HL.out];rintro e w3 ⟨rfl,hb3⟩;obtain⟨hc3,hf3⟩:=Fe hb3;have hz3:w.heap.size+1<w3.heap.size:=by have:=hb3.size;simp at this;omega
 have hz4:w.heap.size<wr.heap.size:=by omega
 go_wp2;go_roundw
 case rel=>
  refine⟨k+1,by omega,by go_num,?_,hz3,?_,?_,?_,?_,?_,?_,?_,?_⟩
  .exact(hBr.alloc hBr.size _).trans (hb3.mono (by simp;omega))
  all_goals try rw[HM.out]
  all_goals simp[go_sem,hc3,hf3,ut hz4,ut hzr,hz4,hzr,f0,f1,f2,f3,r0,r1,m0,m1]
 case measure=>simp[intOf];omega):P:=h
def ayc(h:P:=by
 have HG:Hid _:=Tg.side (s:=l) (.inl rfl) ha hn hk;have HX:Hid (∃t',(Ending.returned (pz c'):Ending)=.returned (Tr.ptr t')/\Tg (.node b l k u x .nil) (l.toL++Tr.toL .nil) w t' w):=⟨l,by rw[hlp],by simp only[Tr.toL,jo];exact HG.out⟩;rw[hlp]at c2;simp only[Tr.ptr]at c3|-;clear HG hlp ihl ihr ha hn hk hs hf hs1 hs2 hn' hf';generalize l.toL++Tr.toL .nil=L at*;generalize Tr.node b l k u x .nil=t at*;go_enter aye,ayf;go_wp2_with fail;go_ret;exact HX.out):P:=h
def az0(h:P:=by
 have HG:Hid _:=Tg.side (s:=r) (.inr rfl) ha hn hk;obtain⟨o,ho⟩:=r.Dq;have HX:Hid (∃t',(Ending.returned (.pointer o):Ending)=.returned (Tr.ptr t')/\Tg (.node b .nil k u x r) (Tr.toL .nil++r.toL) w t' w):=⟨r,by rw[ho],HG.out⟩;rw[ho]at c3;simp only[Tr.ptr]at c2|-;clear HG ho ihl ihr ha hn hk hs hf hs1 hs2 hn' hf';generalize Tr.toL .nil++r.toL=L at*;generalize Tr.node b .nil k u x r=t at*;go_enter aye,ayf;go_wp2_with fail;go_ret;exact HX.out):P:=h
def az4(h:P:=by
 go_wp2_with fail;go_ret;exact⟨rfl,rfl⟩):P:=h
def az5(h:P:=by
 have ih:=Ou s r;unfold ltK at ih|-;simp only[lu,Op.bytesLess,ih];by_cases h1:a<b
 .have h2:¬b<a:=λh=>absurd (UInt8.lt_trans h1 h) (UInt8.lt_irrefl a);have h3:(b==a)=false:=by rw[jb];rintro rfl;exact h2 h1
  simp[h1,h2,h3]
 .by_cases h2:b<a
  .have h3:(a==b)=false:=by rw[jb];rintro rfl;exact h1 h2
   simp[h1,h2,h3]
  .have h3:a=b:=by rw[UInt8.not_lt]at h1 h2;exact UInt8.le_antisymm h2 h1
   subst h3;simp[h1]):P:=h
def az6(h:P:=by
 exact⟨x',y',rfl,h1,h2,Ns hn hp,by simp[Tr.toL],λi hi=>.inl (O3 hp hi),hk.mono (λi e=>by rcases e with e|e<;>simp[Tr.blocks,e])⟩):P:=h
def azh(h:P:=by
 obtain⟨c0,-⟩:=h.cells;clear h hl;generalize t.ptr=tp at*;generalize Ho lo hi limit t.toL=y at*;go_enter azk,azl;go_wp2_with fail;refine(CG.out (by trivial)).mono ?_;rintro e w1 ⟨v1,rfl,ho,hb⟩;obtain⟨sa,sc,rfl,-,-,-,-⟩:=Bl ho;have H3:Hid _:=jq ho hb;clear ho hb CG;go_wp2_with fail;go_ret;exact⟨_,rfl,H3.out⟩):P:=h
def azs(h:P:=by
 by_cases e2:l.hi-r.hi=2
 .obtain⟨c,ll,q,u,y,lr,rfl⟩:=Hk.node (t:=l) (by have:=h.br;omega);exact Qk h (by simp only[Tr.toL,af,bg]at few;omega) e2
 .by_cases e3:l.hi-r.hi= -2
  .obtain⟨c,ll,q,u,y,lr,rfl⟩:=Hk.node (t:=r) (by have:=h.bl;omega);exact Qj h (by simp only[Tr.toL,af,bg]at few;omega) e3
  .exact Om h e2 e3):P:=h
def azt(h:P:=by
 refine⟨_,⟨Ji k v t,⟨?_,Zz h.ok h.nd hf,by rw[hl];exact Es h.srt,ahc k v h.hk,by rw[Ht];exact h.pn,by rw[Ht];exact h.nd,by rw[Ht];exact h.low⟩,hl,rfl⟩,?_,λi hi=>.inl ?_⟩
 .rw[Pg,hlen,kk.block p (gsz h.box) (λe=>h.pn (e▸hb))];exact h.box
 .exact kk.mono (λi e=>.inr (e▸hb))
 .rw[Ht]at hi;exact hi):P:=h
def azu(h:P:=by
 obtain⟨h1,h2,_,_⟩:=Dp hs;rw[Hq]at h;rw[Hl];simp only[Tr.toL];rw[Ju hs];split
 .rename_i e;rw[ah e]at h;simp only[Tr.toL];rw[ihl h1 h]
 .rename_i e;rw[ag e]at h;split
  .rename_i e2;rw[ah e2]at h;simp only[Tr.toL];rw[ihr h2 h]
  .rename_i e2;have:q=k:=Gu (by simpa using e2) (by simpa using e);subst this;rfl):P:=h
def azw(h:P:=by
 obtain⟨h1,h2,_,_⟩:=Dp hs;obtain⟨a1,a2,a3⟩:=ha;rw[Hq]at h;simp only[Tr.toL];rw[Ez hs];split at h
 .rename_i e;rw[ah e];exact ihl h1 a2 h
 .rename_i e;rw[ag e];split at h
  .rename_i e2;rw[ah e2];exact ihr h2 a3 h
  .rename_i e2;rw[ag e2];injection h with h;subst h;exact⟨q,u,x,_,_,a1,rfl⟩):P:=h
def azx(h:P:=by
 go_wp2_with fail;refine(CC.out _ k HB2.out (by omega) hl1000).mono ?_;rintro e w3 ⟨v',rfl,hv3,hb3⟩;have H3:Hid (VsAt w3.heap.size v' (C.take k) w3/\Bw w w3):=⟨hv3,HB2.out.trans (hb3.mono HB2.out.size)⟩;clear hv3 hb3;go_wp2_with fail;rw[HG.out];go_ret;exact⟨_,rfl,H3.out.1,H3.out.2⟩):P:=h
def azy(h:P:=by
 cases e:getF k t.toL with
 |none=>rfl
 |some v=>rw[e]at hg;cases hg):P:=h
def ba0(h:P:=by
 go_wp2_with fail;refine(CM.out _ ((Sw.refl _).drewN _)).mono ?_;rintro e w1 ⟨rfl,t',ht,g⟩;have HG:Hid (∃t',(Ending.returned (.pointer (some ⟨b,0,none⟩)):Ending)=.returned (Tr.ptr t')/\Tg t L w t' w1):=⟨t',by rw[ht],g⟩;clear ht g CM;go_wp2_with fail;go_ret;exact HG.out):P:=h
def ba1(h:P:=by
 go_enter Tryz.func92,Tryz.ntmps92;go_wp2_with (go_at_call 93;refine(Hz pb o _ _ hc).mono ?_;rintro e w1 ⟨rfl,rfl⟩);go_ret;exact⟨rfl,rfl⟩):P:=h
def ba2(h:P:=by
 obtain⟨es,cl,h1,h2⟩:=h;cases hg:getM k m with
 |none=>
  simp[Instr.lookup,jw Tryz.underlying124,jf h1,Em,Ej k h2,O1 (i:=0) hg,Result.andThen];rfl
 |some t=>
  obtain⟨j,g1,_⟩:=O0 (i:=0) hg;simp[Instr.lookup,jw Tryz.underlying124,jf h1,Em,Ej k h2,g1,Result.andThen]):P:=h
def ba5(h:P:=by
 obtain⟨_,_,_,h2⟩:=Dp hs;refine O9 λx hx=>?_;have hx':ltK x.1 hi=false:=by
  rcases au.1 hx with rfl|hx
  .exact h
  .cases e:ltK x.1 hi
   .rfl
   .exact absurd (Ew (h2 x hx) e) (by simp[h])
 simp only[inR,h0,hx',Bool.or_false,Bool.and_false]):P:=h
def ba6(h:P:=by
 go_enter Tryz.func207,Tryz.ntmps207;go_wp2_with (go_at_call 93;refine(Hz pb _ _ _ hc).mono ?_;rintro e w1 ⟨rfl,rfl⟩);have hsz:=Bq s
 go_quiet ((go_at_call 208;exact bz (HU.out (by trivial) _)))
 go_wp2;go_ret;exact⟨rfl,below_drewN (aj _ _) _⟩):P:=h
def ba8(h:P:=by
 rw[List.nodup_iff_pairwise_ne,yu,wu];refine⟨λh i j hij hj=>?_,λh i j hi hj hij=>?_⟩
 .have:=h i j (by omega) hj hij;simpa[List.getD,hj,show i<L.length by omega]using this
 .have:=h i j hij hj;simpa[List.getD,hj,hi]using this):P:=h
def ba9(h:P:=by
 cases t using Tr.cas with
 |nil=>rfl
 |node b l q u x r=>rw[Hl];split;rfl;split<;>rfl):P:=h
def bab(h:P:=by
 unfold Bf;have h1:L.all wOk=true:=by rw[xg];intro x hx;obtain⟨i,hi,rfl⟩:=List.mem_iff_getElem.1 hx;have:=h.1 i hi;simpa[List.getD,hi]using this
 have h2:decide ((L.map (·.key)).Nodup)=true:=by rw[jc,Nu];exact h.2
 rw[h1,h2];simp):P:=h
def bac(h:P:=by
 rw[Tr.blocks,gz,ik]at hn;rcases hs with rfl|rfl
 .exact⟨h.2.1,hk.2.1,hn.2.1,rfl,λi hi=>.inl (by simp[Tr.blocks,hi]),Kept.refl _ _⟩
 .exact⟨h.2.2,hk.2.2,hn.2.2.1,rfl,λi hi=>.inl (by simp[Tr.blocks,hi]),Kept.refl _ _⟩):P:=h
def baf(h:P:=by
 refine(Xb h.ok h.bl h.br).mono ?_;rintro e w' ⟨rfl,hb,hk⟩;have hn:=h.nd;simp only[Tr.blocks,gz,bu,ug]at hn;exact⟨rfl,⟨TrAt.write hk hb h.ok.2.1 h.ok.2.2 hn.1.1 hn.1.2,h.nd,h.hl,h.hr,h.few⟩,hk⟩):P:=h
def bah(h:P:=by
 refine h.measure.mono ?_;rintro e w' ⟨rfl,h1,hk⟩;exact⟨rfl,.node b l k v (1+max l.hn r.hn) r,rfl,h1.ok,⟨rfl,h1.hl,h1.hr⟩,h1.nd,rfl,λi hi=>.inl hi,hk.mono (λi e=>by simp[Tr.blocks,e])⟩):P:=h
def baj(h:P:=by
 obtain⟨h1,h2,h3⟩:=h;refine⟨?_,ihl h2 (λb hb=>hF b (by simp[Tr.blocks,hb])),ihr h3 (λb hb=>hF b (by simp[Tr.blocks,hb]))⟩;rw[hk.block c (lq.1 h1).1 (hF c (by simp[Tr.blocks]))];exact h1):P:=h
def bak(h:P:=by
 rw[List.filter_filter];congr 1;funext x;unfold inR;rw[Ou,Bool.not_not];cases h1:ltK k x.1
 .simp
 .have h2:ltK x.1 lo=false:=by
   cases h3:ltK x.1 lo
   .rfl
   .rw[Ew h1 h3]at h;cases h
  simp[h2]):P:=h
def ban(h:P:=by
 exact⟨0,eu _,rfl,(al _).alloc (by simp) _,by simp,by simp[go_sem],by simp[go_sem],by simp[go_sem],by simp[go_sem],by simp[go_sem],by simp[go_sem],by simp[go_sem,maxL],by simp[go_sem,maxL]⟩):P:=h
def bap(h:P:=by
 refine⟨λi hi=>?_,λi j hij hj=>?_⟩
 .by_cases e:i=m
  .subst e;exact hw
  .exact h.1 i (by omega)
 .by_cases e:j=m
  .subst e;exact hk i hij
  .exact h.2 i j hij (by omega)):P:=h
def bat(h:P:=by
 have hY:Y=([],false):=by rw[HY.out];simp
 subst hY;go_wp2_with fail;refine az (v:=.tuple #[su,.bool false]) (by simp[results,Tryz.results135,go_sem]) rfl ?_;exact⟨rfl,HBl.out⟩):P:=h
def bau(h:P:=by
 refine⟨_,1,rfl,rfl,ai _,by omega,λ_=>⟨w.heap.size,0,rfl,λ_=>kw _,λj u hj=>?_⟩⟩;match j,hj with
 |0,hj=>simp[kc]at hj;subst hj;simp[go_sem]
 |j+1,hj=>simp[kc]at hj):P:=h
def baw(h:P:=by
 have hlt:=gp h;have h':w.heap[b]=.cells cs t (0,0):=by simpa[vw hlt]using h
 show(w.heap.modify b _)[b]?=_;rw[vw (by simpa using hlt),Array.getElem_modify_self,h'];rfl):P:=h
def bb4(h:P:=by
 refine⟨rfl,?_⟩;exact((((((HB2.out.setCell (by simp) _).setCell (by simp) _).setCell (by simp) _).setCell (by simp) _).setCell (by simp) _).setCell (by simp) _)):P:=h
def bb5(h:P:=by
 by_cases h:K.length<lim
 .rw[ah h];unfold gatF;obtain⟨n,hn⟩:∃n,lim-K.length=n+1:=⟨lim-K.length-1,by omega⟩;rw[hn];simp
 .rw[ag h];exact Rh (by omega) _):P:=h
def bb6(h:P:=by
 rw[ah e]at h;have hb:=L9 h;refine⟨?_,ihl a2 n3 h,TrAt.kept hk a3 (λi hi e=>n5 b hb i hi e.symm)⟩;rw[Pg,hk.block c (gsz a1) (λe=>n1 (e▸hb))];exact a1):P:=h
def bb7(h:P:=by
 rw[Hq]at h;simp only[Tr.blocks,au,bu];split at h
 .exact .inr (.inl (ihl h))
 .split at h
  .exact .inr (.inr (ihr h))
  .injection h with h;exact .inl h.symm):P:=h
def bb8(h:P:=by
 rw[ah e2]at h;have hb:=L9 h;refine⟨?_,TrAt.kept hk a2 (λi hi e=>n5 i hi b hb e),ihr a3 n4 h⟩;rw[Pg,hk.block c (gsz a1) (λe=>n2 (e▸hb))];exact a1):P:=h
def bb9(h:P:=by
 rw[Lu,Zw,Nz];cases h1:ltK k lo
 .rw[ah (by simp only[inR,h1,h];rfl),show k::Aw lo hi R=[k]++Aw lo hi R from rfl,Nz,ad6];simp
 .rw[ag (by simp[inR,h1])];simp):P:=h
def bbc(h:P:=by
 obtain⟨h1,h2,h3⟩:=h;rw[Hl];split
 .exact⟨by rw[Zy];exact h1,ihl h2,h3⟩
 .split
  .exact⟨by rw[Zy];exact h1,h2,ihr h3⟩
  .exact⟨h1,h2,h3⟩):P:=h
def bbg(h:P:=by
 have H3:Hid (Ak pb (D.burn.set n (act (D.p n))) w3/\Kept pb w w3):=⟨h3,hk2.trans hk3⟩;clear h3 hk3 hk2 hD2;go_wp2;go_ret;exact⟨rfl,H3.out⟩):P:=h
def bbi(h:P:=by
 refine h.turn _ _ _ ?_ ?_
 .rcases four ha with rfl|rfl|rfl|rfl<;>rfl
 .intro i _;by_cases hi:i=a
  .subst hi;rw[Dr.Df]
  .rw[Dr.Gn _ _ _ _ hi]):P:=h
def bbj(h:P:=by
 obtain⟨h1,h2,h3⟩:=h;simp only[Tr.blocks,au,bu]at hb;rcases hb with rfl|hb|hb
 .exact(lq.1 h1).1
 .exact ihl h2 b hb
 .exact ihr h3 b hb):P:=h
def bbl(h:P:=by
 clear hown hg;go_wp2_with fail;go_roundw
 case rel=>exact⟨k+1,by omega,by go_num,HO2.out,HB2.out⟩
 case measure=>simp[intOf];omega):P:=h
def bbp(h:P:=by
 rcases h.2 with⟨rfl,_⟩|⟨g,cap,cur,rfl,_,hg,_⟩
 .cases hk
 .simp only[Value.ownBlock,ja]at hk;subst hk;exact⟨cur,hg⟩):P:=h
def bbr(h:P:=by
 go_wp2;go_roundw
 case rel=>exact⟨k+1,by omega,by rw[HT.out];go_num,by go_num,by trivial⟩
 case measure=>simp[intOf];omega):P:=h
def bbu(h:P:=by
 obtain⟨h1,h2,h3⟩:=h;have i2:=ihl h2;have i3:=ihr h3;rw[l.Vh]at i2;rw[r.Vh]at i3;simp only[Tr.hi,Tr.toL,af,bg];omega):P:=h
def bby(h:P:=by
 obtain⟨h1,h2,_,_⟩:=Dp h;rw[Hq];simp only[Tr.toL];rw[Ez h];split
 .exact ihl h1
 .split
  .exact ihr h2
  .rfl):P:=h
def bc4(h:P:=by
 unfold Bf;have:decide ((L.map (·.key)).Nodup)=false:=by rw[uh,Nu];exactλhn=>hn k m hk h he
 rw[this];simp):P:=h
def bc7(h:P:=by
 unfold Bf;have:L.all wOk=false:=by rw[List.all_eq_false];exact⟨_,Tc h,by rw[hw];simp⟩
 rw[this];simp):P:=h
def bcb(h:P:=by
 have e5:k=q:=by rw[<-D6 k,<-D6 q,e0]
 have e6:x=y:=by omega
 rw[e5,e1,e6,ihl a2 b2 e2,ihr a3 b3 e3]):P:=h
def bcd(h:P:=by
 cases t using Tr.cas with
 |nil=>simp[Tr.hi]at h0
 |node b l k v x r=>exact⟨b,l,k,v,x,r,rfl⟩):P:=h
def bce(h:P:=by
 rcases oq n with h1|h1
 .subst h1;omega
 .exact h1):P:=h
def bcf(h:P:=by
 have HX2:Hid _:=HN.out (by rw[HS3.out];rfl);go_wp2;go_ret;rw[HX2.out];exact⟨rfl,H5.out⟩):P:=h
def bcg(h:P:=by
 by_cases hq:(k==q)=true
 .have e:k=q:=by simpa using hq
  subst e;simp[h6,Ot h6]
 .simp[hq]):P:=h
def bch(h:P:=by
 cases C with
 |nil=>rfl
 |cons a X=>
  obtain⟨b,o,e,_⟩:=hx (by simp at hlc;omega);cases e):P:=h
def bci(h:P:=by
 go_enter Tryz.func199,Tryz.ntmps199;go_wp2;go_ret;exact⟨Dj (by simp[Xy];omega),aj _ _⟩):P:=h
def bck(h:P:=by
 cases h5:ltK k a
 .exact absurd (Gu (by simpa using h3) h5) (by simpa using h4)
 .rfl):P:=h
def bcl(h:P:=by
 by_cases hq:(k==q)=true
 .have e:k=q:=by simpa using hq
  subst e;simp[h5]
 .simp[hq]):P:=h
def bcm(h:P:=by
 cases t using Tr.cas with
 |nil=>exact⟨_,rfl⟩
 |node b l k v x r=>exact⟨_,rfl⟩):P:=h
def bcn(h:P:=by
 by_cases h2:a=k'
 .rw[ah h2,ah h2,ag (λe=>h (h2.trans e.symm))]
 .rw[ag h2,ag h2]):P:=h
end Go.Proofs.YtnfpfbehebcdpaaGreat
namespace Go.Proofs.YtnfpfbehebcdpaaGreat.Sto
def zf:=@Tryz.func205
def zg:=@Tryz.ntmps205
abbrev zh:=205
abbrev zk:=3
def zq:=@Tryz.func184
def zu:=@Tryz.ntmps184
abbrev zx:=227
abbrev zy:=2
def acz:=@Tryz.func182
def ad4:=@Tryz.ntmps182
def ae9:=@Tryz.func250
def age:=@Tryz.ntmps250
abbrev ah6:=182
def ai0:=@Tryz.func121
def ain:=@Tryz.ntmps121
abbrev aio:=183
abbrev aj1:=186
def ajg:=@Tryz.func226
def ajp:=@Tryz.ntmps226
def alo:=@Tryz.func251
def ama:=@Tryz.ntmps251
abbrev amd:=251
abbrev anp:=250
def ary:=@Tryz.func185
def ati:=@Tryz.ntmps185
def aye:=@Tryz.func183
def ayf:=@Tryz.ntmps183
def azk:=@Tryz.func160
def azl:=@Tryz.ntmps160
end Go.Proofs.YtnfpfbehebcdpaaGreat.Sto
namespace Go.Proofs.YtnfpfbehebcdpaaGreat.Lat
def zf:=@Tryz.func188
def zg:=@Tryz.ntmps188
abbrev zh:=188
abbrev zk:=7
def zq:=@Tryz.func181
def zu:=@Tryz.ntmps181
abbrev zx:=214
abbrev zy:=6
def acz:=@Tryz.func177
def ad4:=@Tryz.ntmps177
def ae9:=@Tryz.func240
def age:=@Tryz.ntmps240
abbrev ah6:=177
def ai0:=@Tryz.func119
def ain:=@Tryz.ntmps119
abbrev aio:=181
abbrev aj1:=189
def ajg:=@Tryz.func225
def ajp:=@Tryz.ntmps225
def alo:=@Tryz.func241
def ama:=@Tryz.ntmps241
abbrev amd:=241
abbrev anp:=240
def ary:=@Tryz.func110
def ati:=@Tryz.ntmps110
def aye:=@Tryz.func181
def ayf:=@Tryz.ntmps181
def azk:=@Tryz.func130
def azl:=@Tryz.ntmps130
end Go.Proofs.YtnfpfbehebcdpaaGreat.Lat
namespace Go.Proofs.YtnfpfbehebcdpaaGreat.Ent
def ary:=@Tryz.func110
def ati:=@Tryz.ntmps110
