import Derived.RangeFuncBox
import Derived.Sort.Grow
import Derived.Shelf.SlSortCmp.WholeK
import Derived.Shelf.SlSortCmp.NoneTotal
import Derived.Test.YtdplfgcoaddbdaaGreatXbs
set_option maxHeartbeats 4000000
set_option maxRecDepth 100000
set_option linter.unusedVariables false
set_option linter.unusedSimpArgs false
namespace Go.Proofs.YtdplfgcoaddbdaaGreat.Ver
open Go.RowKit Go.Shelf
attribute [local go_sem] Oper.semAt_some
theorem own8(B:Nat)(x:Vd):Own (fun(_:Unit) W=>W.heap[B]?=some (.cells #[ui x.c,ui x.n,uw x.sp,ui x.sl,uw x.ap,ui x.al,ub x.pt,.bool x.dn] 116 (0,0))):=fun _ X Y row hs hg hrow=>
 (hg.block B (gsz hs) (fun e'=>by obtain⟨o,ho,hc⟩:=hrow B e'.symm;rw[hs]at ho;cases ho;cases hc)).trans hs
theorem keeps_walks{W W':World}(h:KeepsOthers W W'):KeepsWalks W W':=⟨h.size,fun k o hk ho=>h.same k o hk (Obj.not_cells_of_walk ho)⟩
theorem new_cells(x:Vd)(W:World):∀j u,(vdc x)[j]?=some u->(W.alloc (.cells #[ui x.c,ui x.n,uw x.sp,ui x.sl,uw x.ap,ui x.al,ub x.pt,.bool x.dn] 116)).cell? ((⟨W.heap.size,0,none⟩:Addr).add j)=some u:=fun j u hj=>by rw[Addr.add_lit,Nat.zero_add];exact block_cell (heap_alloc_new W _) (by simpa[vdc]using hj)
theorem app41(F:Fence)(n:Nat)(h41:F.fn 173)(h39:F.fn 109)(hro:F.round=none)(hn:3<=n)(Bm b:Nat)(m:Bk)(w:World)(hBm:Bm<w.heap.size)(hm:ce w Bm 0 (.map (some b)))(hown:Gv.At kd vdV b m w)(hl:m.length<100000):
  CallsIn F n Tryz.prog 173 #[sy,.func (.func 109) #[] #[pz Bm]] w fun e w'=>∃v xs,e=.returned v/\xs.Perm m/\w'.ownsRow w.heap.size 116 8 v xs.length (rowC vdc xs)/\Below w.heap.size w w':=by
 have h1:1<=n:=by omega
 obtain⟨i0,hi,hz0,hz1,hz2⟩:=info_parts info37;have hseq:=vals_stops F (n-1) h39 hro (by omega) Bm b m w hBm hm hown;clear hown hm;refine callsIn_of_wp_marks Tryz.func173 rfl h41 ?_ hro;simp only[Tryz.ntmps173,List.size_toArray,List.length_cons,List.length_nil,Nat.reduceAdd,Nat.reduceSub,Array.replicate_succ,Array.replicate_zero,List.push_toArray,List.append_toArray,List.nil_append,List.cons_append]
 gi_wp2
 have bS:=Boxed.new w 49 sy;have hB0:Below w.heap.size w (w.alloc (.cells #[sy] 49)):=al _;refine wpIn_rangeFunc_ownH hro h1 (gf:=109) (lb:=#[pz Bm]) rfl h39 (enters_of Tryz.func109 (by kernel_rfl) rfl) hseq walksK_t walksK_b hB0 (fun _=>rfl) (fun pre W=>(∃v,Boxed W w.heap.size 49 v/\W.ownsRow w.heap.size 116 8 v pre.length (rowC vdc pre)/\True)/\Below w.heap.size w W) (fun _ _ _=>False) (OwnFrom.and (Own.from (holdsRow_own w.heap.size w.heap.size 49 116 8 (fun pre:Bk=>pre.length) (fun pre=>rowC vdc pre) (fun _ _=>True)) _) (ownFrom_below (Nat.le_refl _) (by simp))) (fun _ _ _ _ _ hs _ _=>hs) ⟨⟨_,bS,World.ownsRow_nil _ _ _ _,trivial⟩,hB0⟩ (fun x a' W=>∃Bx,w.heap.size<Bx/\W.heap[Bx]?=some (.cells #[ui x.c,ui x.n,uw x.sp,ui x.sl,uw x.ap,ui x.al,ub x.pt,.bool x.dn] 116 (0,0))/\a'={tmps:=#[sy,.func (.func 109) #[] #[pz Bm],pz w.heap.size,undef,sy,pz Bx,.func (.func 109) #[] #[pz Bm],.agg #[ui x.c,ui x.n,uw x.sp,ui x.sl,uw x.ap,ui x.al,ub x.pt,.bool x.dn],undef,undef,undef,undef,undef],defers:=[]}) (fun x a' _ X Y row hs hg hr=>by obtain⟨Bx,h1,h2,h3⟩:=hs;exact⟨Bx,h1,own8 Bx x () X Y row h2 hg (fun r e=>(hr r e).2),h3⟩) ?assign ?body ?done ?stop;case assign=>
  rintro l pre x W K ⟨⟨v,hv,hrow,-⟩,hB⟩ hK;simp only[vdV]
  gi_wp2
  exact hK _ _ ((KeepsOthers.alloc _ _).from _) (KeepsWalks.alloc _ _) ⟨⟨v,hv.alloc _,hrow.alloc _,trivial⟩,hB.alloc hB.size _⟩ ⟨W.heap.size,hv.lt,heap_alloc_new W _,rfl⟩
 case body=>
  rintro l pre x a' W hl' ⟨r,hr⟩ ⟨⟨v,hv,hrow,-⟩,hB⟩ ⟨Bx,hBx,bX,rfl⟩ hlt;have hc:=hv.cell;have zx0:=bk8 bX
  gi_wp2_with (gi_at_builtin;refine wpListIn_append_own _ rfl _ _ 49 rfl w.heap.size 116 i0 (.agg #[ui 0,ui 0,uw 0,ui 0,uw 0,ui 0,ub 0,.bool false]) 8 48 Tryz.underlying49 hi hz0 hz1 hz2 rfl (by decide) _ _ _ rfl (hrow.alloc _) ⟨W.heap.size,0,none⟩ 1 1 (vdc x) rfl rfl (new_cells x W) (vdc_one x) (by unfold maxLen;omega) (by omega) (by have:=hB.size;simp;omega) ?_;intro v' w1 hown' hgrow _;obtain⟨g',cap',rfl⟩:=ownsRow_succ hown';obtain⟨hv1,hv2,hr2,hk2,hb2⟩:=hv.appended (by decide) hrow hB.size (Nat.le_refl _) hown' hgrow;have hc1:=hv1.cell;have hf1:=hv1.frozen)
  refine⟨hk2.from _,keeps_walks hk2,⟨_,hv2,?_,trivial⟩,hB.trans hb2⟩;rw[List.length_append,List.length_singleton,rowC_append,rowC_one];exact hr2
 case done=>
  rintro D ys W hD hS ⟨⟨v,hv,hrow,-⟩,hB⟩ hK;have hc:=hv.cell
  gi_wp2
  refine⟨by simp,.inl ⟨_,_,rfl,run_takeDeferred hK,?_⟩⟩;exact⟨_,results_tmp rfl _ _ _,v,ys,rfl,hS,ownsRow_putObj hrow _ hK rfl,hB.trans (belowK_b (w:=w) (Nat.le_refl _) W D _ _ (by simp at hD;omega) hK rfl rfl)⟩
 case stop=>
  rintro D c pre W _ _ h _;exact h.elim
theorem collect37(F:Fence)(n:Nat)(h37:F.fn 107)(h41:F.fn 173)(h39:F.fn 109)(hro:F.round=none)(hn:4<=n)(Bm b:Nat)(m:Bk)(w:World)(hBm:Bm<w.heap.size)(hm:ce w Bm 0 (.map (some b)))(hown:Gv.At kd vdV b m w)(hl:m.length<100000):
  CallsIn F n Tryz.prog 107 #[.func (.func 109) #[] #[pz Bm]] w fun e w'=>∃v xs,e=.returned v/\xs.Perm m/\w'.ownsRow w.heap.size 116 8 v xs.length (rowC vdc xs)/\Below w.heap.size w w':=by
 have hcon:=app41 F (n-1) h41 h39 hro (by omega) Bm b m w hBm hm hown hl;clear hown hm hl hBm;have h1n:1<=n:=by omega
 refine callsIn_of_wp Tryz.func107 rfl h37 ?_ hro;simp only[Tryz.ntmps107,List.size_toArray,List.length_cons,List.length_nil,Nat.reduceAdd,Nat.reduceSub,Array.replicate_succ,Array.replicate_zero,List.push_toArray,List.append_toArray,List.nil_append,List.cons_append]
 gi_wp2_with (gi_at_call 173;refine hcon.mono ?_;rintro e w' ⟨v,xs,rfl,h1,h2,h3⟩)
 go_ret;exact⟨_,xs,rfl,h1,h2,h3⟩
open Go.RowKit Go.Sort
def Gw(W w':World):Prop:=∃q os',w'=grow (W.drewN q) os'
theorem Gw.refl(W:World):Gw W W:=⟨0,#[],by rw[grow_empty];rfl⟩
theorem Gw.alloc{W w':World}(h:Gw W w')(o:Obj):Gw W (w'.alloc o):=by obtain⟨q,os,rfl⟩:=h;exact⟨q,os++#[o],by rw[alloc_eq_grow,grow_grow]⟩
theorem Gw.drew{W w':World}(h:Gw W w'):Gw W w'.drew:=by obtain⟨q,os,rfl⟩:=h;exact⟨q+1,os,rfl⟩
def cpI(a b:Int):Int:=if a<b then-1 else if b<a then 1 else 0
theorem comp35(a b:Int)(w:World):Calls Tryz.prog 56 #[.int .u32 a,.int .u32 b] w fun e w'=>e=.returned (.int .i64 (cpI a b))/\w'=w:=by
 by_cases h1:a<b
 ·have HC:Hid (cpI a b= -1):=by show cpI a b= -1;unfold cpI;rw[if_pos h1]
  go_enter Tryz.func56,Tryz.ntmps56;go_wp2;go_ret;exact⟨by rw[HC.out];rfl,rfl⟩
 ·by_cases h2:b<a
  ·have HC:Hid (cpI a b=1):=by show cpI a b=1;unfold cpI;rw[if_neg h1,if_pos h2]
   go_enter Tryz.func56,Tryz.ntmps56;go_wp2;go_ret;exact⟨by rw[HC.out];rfl,rfl⟩
  ·have HC:Hid (cpI a b=0):=by show cpI a b=0;unfold cpI;rw[if_neg h1,if_neg h2]
   go_enter Tryz.func56,Tryz.ntmps56;go_wp2;go_ret;exact⟨by rw[HC.out];rfl,rfl⟩
def orI(x y:Int):Int:=if x=0 then y else x
theorem or34(bk:Nat)(x y:Int)(w:World)(h0:w.cell? ⟨bk,0,none⟩=some (.int .i64 x))(h1:w.cell? ⟨bk,1,none⟩=some (.int .i64 y)):Calls Tryz.prog 55 #[.slice (some ⟨bk,0,none⟩) 2 2] w fun e w'=>e=.returned (.int .i64 (orI x y))/\w'=w:=by
 have HO:Hid (orI x y=if x=0 then y else x):=rfl;go_enter Tryz.func55,Tryz.ntmps55;go_wp2_with fail;go_loopw [8] (fun i wr=>∃k:Nat,i=.int .i64 k/\Hid (wr=w)/\Hid (k=0\/k=1/\x=0\/k=2/\x=0/\y=0)) (fun i _=>2-(intOf i).toNat)
 case atStart=>exact⟨0,rfl,rfl,.inl rfl⟩
 case round=>
  obtain⟨k,rfl,HW,HK⟩:=hrel;obtain rfl:=HW.out;rcases HK.out with rfl|⟨rfl,hx⟩|⟨rfl,hx,hy⟩
  ·by_cases hx:x=0
   ·have HX:Hid (x=0):=hx;have hx':(x==0)=true:=by simpa using hx
    clear hx HW HK;go_wp2_with fail;go_roundw
    case rel=>exact⟨1,rfl,trivial,.inr (.inl ⟨rfl,HX.out⟩)⟩
    case measure=>simp[intOf]
   ·have HX:Hid (¬x=0):=hx;have hx':(x==0)=false:=by simpa using hx
    clear hx HW HK;go_wp2_with fail;go_ret;exact⟨by rw[HO.out,if_neg HX.out];rfl,rfl⟩
  ·have HX:Hid (x=0):=hx;clear hx HW HK;by_cases hy:y=0
   ·have HY:Hid (y=0):=hy;have hy':(y==0)=true:=by simpa using hy
    clear hy;go_wp2_with fail;go_roundw
    case rel=>exact⟨2,rfl,trivial,.inr (.inr ⟨rfl,HX.out,HY.out⟩)⟩
    case measure=>simp[intOf]
   ·have hy':(y==0)=false:=by simpa using hy
    clear hy;go_wp2_with fail;go_ret;exact⟨by rw[HO.out,if_pos HX.out];rfl,rfl⟩
  ·have HX:Hid (x=0/\y=0):=⟨hx,hy⟩;clear hx hy HW HK;go_wp2_with fail;go_ret;exact⟨by rw[HO.out,if_pos HX.out.1,HX.out.2];rfl,rfl⟩
def cfV(x y:Vd):Int:=orI (cpI x.c y.c) (cpI x.n y.n)
structure Cw(w:World)(bx bt:Nat)(a b c d:Int)(W:World):Prop where
 g:Gw w W
 x0:W.cell? ⟨bx,0,none⟩=some (.int .u32 a)
 x1:W.cell? ⟨bx,1,none⟩=some (.int .u32 b)
 y0:W.cell? ⟨bt,0,none⟩=some (.int .u32 c)
 y1:W.cell? ⟨bt,1,none⟩=some (.int .u32 d)
theorem Cw.dr{w W:World}{bx bt:Nat}{a b c d:Int}(h:Cw w bx bt a b c d W):Cw w bx bt a b c d W.drew:=⟨h.g.drew,h.x0,h.x1,h.y0,h.y1⟩
theorem Cw.al{w W:World}{bx bt:Nat}{a b c d:Int}(h:Cw w bx bt a b c d W)(o:Obj):Cw w bx bt a b c d (W.alloc o):=by have f:=bcell (Go.Proofs.YtdplfgcoaddbdaaGreat.al (W:=W) o);exact⟨h.g.alloc o,(f.1 _ _ (World.block_lt_of_cell? _ _ h.x0)).trans h.x0,(f.1 _ _ (World.block_lt_of_cell? _ _ h.x1)).trans h.x1,(f.1 _ _ (World.block_lt_of_cell? _ _ h.y0)).trans h.y0,(f.1 _ _ (World.block_lt_of_cell? _ _ h.y1)).trans h.y1⟩
theorem Cw.five{w W:World}{bx bt:Nat}{a b c d:Int}(h:Cw w bx bt a b c d W):W.cell? ⟨bx,0,none⟩=some (.int .u32 a)/\W.cell? ⟨bx,1,none⟩=some (.int .u32 b)/\W.cell? ⟨bt,0,none⟩=some (.int .u32 c)/\W.cell? ⟨bt,1,none⟩=some (.int .u32 d)/\Cw w bx bt a b c d W:=⟨h.x0,h.x1,h.y0,h.y1,h⟩
theorem cmp33(x y:Vd)(w:World):Calls Tryz.prog 54 #[.agg #[.int .u32 x.c,.int .u32 x.n,.int .u64 x.sp,.int .u32 x.sl,.int .u64 x.ap,.int .u32 x.al,.int .u8 x.pt,.bool x.dn],.agg #[.int .u32 y.c,.int .u32 y.n,.int .u64 y.sp,.int .u32 y.sl,.int .u64 y.ap,.int .u32 y.al,.int .u8 y.pt,.bool y.dn]] w fun e w'=>e=.returned (.int .i64 (cfV x y))/\Gw w w':=by
 have C1:Hid (∀W,1=1->Calls Tryz.prog 56 #[.int .u32 x.c,.int .u32 y.c] W fun e w'=>e=.returned (.int .i64 (cpI x.c y.c))/\w'=W):=fun W _=>comp35 _ _ W;have C2:Hid (∀W,1=1->Calls Tryz.prog 56 #[.int .u32 x.n,.int .u32 y.n] W fun e w'=>e=.returned (.int .i64 (cpI x.n y.n))/\w'=W):=fun W _=>comp35 _ _ W;have CO:Hid (∀W:World,1=1->Calls Tryz.prog 55 #[.slice (some ⟨W.heap.size,0,none⟩) 2 2] (W.alloc (.cells #[.int .i64 (cpI x.c y.c),.int .i64 (cpI x.n y.n)] 3)).drew fun e w'=>e=.returned (.int .i64 (cfV x y))/\w'=(W.alloc (.cells #[.int .i64 (cpI x.c y.c),.int .i64 (cpI x.n y.n)] 3)).drew):=fun W _=>or34 W.heap.size _ _ _ (block_cell (heap_alloc_new W _) rfl) (block_cell (heap_alloc_new W _) rfl);generalize cfV x y=r at*;generalize cpI x.c y.c=a at*;generalize cpI x.n y.n=b at*;obtain⟨W0,hW0⟩:=xj (w.alloc (.cells #[.int .u32 x.c,.int .u32 x.n,.int .u64 x.sp,.int .u32 x.sl,.int .u64 x.ap,.int .u32 x.al,.int .u8 x.pt,.bool x.dn] 116));obtain⟨W1,hW1⟩:=xj (W0.alloc (.cells #[.int .u32 y.c,.int .u32 y.n,.int .u64 y.sp,.int .u32 y.sl,.int .u64 y.ap,.int .u32 y.al,.int .u8 y.pt,.bool y.dn] 116));have HG:Hid (Gw w W1):=by rw[<-hW1,<-hW0];exact((Gw.refl w).alloc _).alloc _
 have hx0:W0.heap[w.heap.size]?=some (.cells #[.int .u32 x.c,.int .u32 x.n,.int .u64 x.sp,.int .u32 x.sl,.int .u64 x.ap,.int .u32 x.al,.int .u8 x.pt,.bool x.dn] 116 (0,0)):=by rw[<-hW0];exact heap_alloc_new w _
 have hx1:W1.heap[w.heap.size]?=some (.cells #[.int .u32 x.c,.int .u32 x.n,.int .u64 x.sp,.int .u32 x.sl,.int .u64 x.ap,.int .u32 x.al,.int .u8 x.pt,.bool x.dn] 116 (0,0)):=by rw[<-hW1,(al (W:=W0) _).block _ (gsz hx0)];exact hx0
 have hy1:W1.heap[W0.heap.size]?=some (.cells #[.int .u32 y.c,.int .u32 y.n,.int .u64 y.sp,.int .u32 y.sl,.int .u64 y.ap,.int .u32 y.al,.int .u8 y.pt,.bool y.dn] 116 (0,0)):=by rw[<-hW1];exact heap_alloc_new W0 _
 obtain⟨bx,hbx⟩:=xj w.heap.size;obtain⟨bt,hbt⟩:=xj W0.heap.size;rw[hbx]at hx1;rw[hbt]at hy1;have x0:W1.cell? ⟨bx,0,none⟩=some (.int .u32 x.c):=block_cell hx1 rfl;have x1:W1.cell? ⟨bx,1,none⟩=some (.int .u32 x.n):=block_cell hx1 rfl;have y0:W1.cell? ⟨bt,0,none⟩=some (.int .u32 y.c):=block_cell hy1 rfl;have y1:W1.cell? ⟨bt,1,none⟩=some (.int .u32 y.n):=block_cell hy1 rfl;have HT:Hid (Cw w bx bt x.c x.n y.c y.n W1):=⟨HG.out,x0,x1,y0,y1⟩;clear hx0 hx1 hy1;go_enter Tryz.func54,Tryz.ntmps54;go_wp2_with fail;clear hW0 hW1 hbx hbt;go_region_held3 (fun W=>W.cell? ⟨bx,0,none⟩=some (.int .u32 x.c)/\W.cell? ⟨bx,1,none⟩=some (.int .u32 x.n)/\W.cell? ⟨bt,0,none⟩=some (.int .u32 y.c)/\W.cell? ⟨bt,1,none⟩=some (.int .u32 y.n)/\Cw w bx bt x.c x.n y.c y.n W) ((with_reducible refine Cw.five ?_;with_reducible repeat (first|exact HT.out|refine Cw.dr ?_|refine Cw.al ?_ _))) (first
  |(go_at_call_of 56 (Value.int .u32 x.c);(with_reducible refine(C1.out _ (by simp)).mono ?_);rintro e w1 ⟨rfl,rfl⟩)
  |(go_at_call_of 56 (Value.int .u32 x.n);(with_reducible refine(C2.out _ (by simp)).mono ?_);rintro e w1 ⟨rfl,rfl⟩)
  |(go_at_call 55;(with_reducible refine(CO.out _ (by simp)).mono ?_);rintro e w1 ⟨rfl,rfl⟩))
 all_goals
  go_wp2_with fail;go_ret;exact⟨rfl,(HT.out.g.alloc _).drew⟩
end Go.Proofs.YtdplfgcoaddbdaaGreat.Ver
namespace Go.Proofs
open Go.Shelf
def Tryz.sortV_ren:Go.Shelf.Ren:=⟨fun|6=>108|15=>175|14=>174|28=>216|29=>217|20=>208|21=>209|22=>210|23=>211|24=>212|25=>213|26=>214|27=>215|46=>246|47=>247|48=>248|49=>249|50=>250|57=>267|n=>n,fun|22=>49|24=>116|25=>140|3=>3|39=>277|0=>0|53=>24|55=>23|4=>4|46=>314|45=>313|50=>318|5=>5|9=>9|66=>340|70=>344|76=>352|77=>353|n=>n,fun|n=>n⟩
theorem Tryz.sortV:Go.Proofs.SlLaysF0.n6 Tryz.prog Tryz.sortV_ren:={mixed:=by kernel_rfl,f6:=⟨Tryz.f108.name,by decide,Tryz.func108.trans (congrArg some (by kernel_rfl))⟩,f14:=⟨Tryz.f174.name,by decide,Tryz.func174.trans (congrArg some (by kernel_rfl))⟩,f15:=Tryz.func175.trans (congrArg some (by kernel_rfl)),f20:=⟨Tryz.f208.name,by decide,Tryz.func208.trans (congrArg some (by kernel_rfl))⟩,f21:=⟨Tryz.f209.name,by decide,Tryz.func209.trans (congrArg some (by kernel_rfl))⟩,f22:=⟨Tryz.f210.name,by decide,Tryz.func210.trans (congrArg some (by kernel_rfl))⟩,f23:=⟨Tryz.f211.name,by decide,Tryz.func211.trans (congrArg some (by kernel_rfl))⟩,f24:=⟨Tryz.f212.name,by decide,Tryz.func212.trans (congrArg some (by kernel_rfl))⟩,f25:=⟨Tryz.f213.name,by decide,Tryz.func213.trans (congrArg some (by kernel_rfl))⟩,f26:=⟨Tryz.f214.name,by decide,Tryz.func214.trans (congrArg some (by kernel_rfl))⟩,f27:=⟨Tryz.f215.name,by decide,Tryz.func215.trans (congrArg some (by kernel_rfl))⟩,f28:=Tryz.func216.trans (congrArg some (by kernel_rfl)),f29:=Tryz.func217.trans (congrArg some (by kernel_rfl)),f46:=⟨Tryz.f246.name,by decide,Tryz.func246.trans (congrArg some (by kernel_rfl))⟩,f47:=Tryz.func247.trans (congrArg some (by kernel_rfl)),f48:=Tryz.func248.trans (congrArg some (by kernel_rfl)),f49:=⟨Tryz.f249.name,by decide,Tryz.func249.trans (congrArg some (by kernel_rfl))⟩,f50:=⟨Tryz.f250.name,by decide,Tryz.func250.trans (congrArg some (by kernel_rfl))⟩,f57:=⟨Tryz.f267.name,by decide,Tryz.func267.trans (congrArg some (by kernel_rfl))⟩,t0:=Tryz.underlying0,a0:=Tryz.isAgg0,z0:=Tryz.sizeOf0,v0:=Tryz.zeroValue0,t3:=Tryz.underlying3,a3:=Tryz.isAgg3,z3:=Tryz.sizeOf3,v3:=Tryz.zeroValue3,t4:=Tryz.underlying4,a4:=Tryz.isAgg4,z4:=Tryz.sizeOf4,v4:=Tryz.zeroValue4,t5:=Tryz.underlying5,a5:=Tryz.isAgg5,z5:=Tryz.sizeOf5,v5:=Tryz.zeroValue5,t9:=Tryz.underlying9,a9:=Tryz.isAgg9,z9:=Tryz.sizeOf9,v9:=Tryz.zeroValue9,t22:=Tryz.underlying49,a22:=Tryz.isAgg49,z22:=Tryz.sizeOf49,v22:=Tryz.zeroValue49,t25:=Tryz.underlying140,a25:=Tryz.isAgg140,z25:=Tryz.sizeOf140,v25:=Tryz.zeroValue140,t39:=Tryz.underlying277,a39:=Tryz.isAgg277,z39:=Tryz.sizeOf277,v39:=Tryz.zeroValue277,t45:=Tryz.underlying313,a45:=Tryz.isAgg313,z45:=Tryz.sizeOf313,v45:=Tryz.zeroValue313,t46:=Tryz.underlying314,a46:=Tryz.isAgg314,z46:=Tryz.sizeOf314,v46:=Tryz.zeroValue314,t50:=Tryz.underlying318,a50:=Tryz.isAgg318,z50:=Tryz.sizeOf318,v50:=Tryz.zeroValue318,t53:=Tryz.underlying24,a53:=Tryz.isAgg24,z53:=Tryz.sizeOf24,v53:=Tryz.zeroValue24,t55:=Tryz.underlying23,a55:=Tryz.isAgg23,z55:=Tryz.sizeOf23,v55:=Tryz.zeroValue23,t66:=Tryz.underlying340,a66:=Tryz.isAgg340,z66:=Tryz.sizeOf340,v66:=Tryz.zeroValue340,t70:=Tryz.underlying344,a70:=Tryz.isAgg344,z70:=Tryz.sizeOf344,v70:=Tryz.zeroValue344,t76:=Tryz.underlying352,a76:=Tryz.isAgg352,z76:=Tryz.sizeOf352,v76:=Tryz.zeroValue352,t77:=Tryz.underlying353,a77:=Tryz.isAgg353,z77:=Tryz.sizeOf353,v77:=Tryz.zeroValue353}
end Go.Proofs
namespace Go.Proofs.YtdplfgcoaddbdaaGreat.Ver
open Go.RowKit Go.Sort Go.Shelf
theorem lt_cf(x y:Vd):ltOf cfV x y=ltT x.c x.n y.c y.n:=by
 rw[Bool.eq_iff_iff,ltT_iff];unfold ltOf cfV orI cpI;rw[decide_eq_true_iff];by_cases h1:x.c<y.c
 ·rw[if_pos h1];simp[h1]
 ·rw[if_neg h1];by_cases h2:y.c<x.c
  ·rw[if_pos h2];constructor
   ·intro h;simp at h
   ·intro h;omega
  ·rw[if_neg h2,if_pos rfl];by_cases h3:x.n<y.n
   ·rw[if_pos h3];constructor
    ·intro _;omega
    ·intro _;decide
   ·rw[if_neg h3];constructor
    ·intro h;split at h<;>simp at h
    ·intro h;omega
theorem swo_cf:SWO (ltOf cfV):={
 irrefl:=fun x=>by rw[lt_cf];exact ltT_irrefl _ _
 trans:=fun x y z h1 h2=>by rw[lt_cf]at*;exact ltT_trans h1 h2
 ntrans:=fun x y z h1 h2=>by rw[lt_cf,<-Bool.not_eq_true,ltT_iff]at*;omega}
theorem cmpLays[Inhabited Vd](blk off size:Nat)(w:World):CmpLays Tryz.prog 54 #[] vdc 8 cfV blk off size w:=
 fun _ _ _ _ x y=>cmp33 x y _
theorem flat_row[Inhabited Vd](m:Bk)(j:Nat)(hj:j<m.length*8):(rowC vdc m)[j]?=some ((flatK vdc 8 m.toArray)[j]!):=by
 have h1:j/8<m.length:=by omega
 have h2:j%8<8:=Nat.mod_lt _ (by omega);rw[get_flatK vdc 8 m.toArray j (by simpa using hj)];have e:=rowC_get vdc_len dv m (j/8) (j%8) h1 h2;rw[show j/8*8+j%8=j from by omega]at e;rw[e];have e2:m.toArray[j/8]! =m.getD (j/8) dv:=by simp[List.getD,h1]
 rw[e2];have h3:j%8<(vdc (m.getD (j/8) dv)).length:=h2;rw[List.getElem?_eq_getElem h3,getElem!_pos (vdc (m.getD (j/8) dv)) (j%8) h3]
theorem perm_of[Inhabited Vd]{d d':Array Vd}(h:PermIn 0 d.size d d'):d'.toList.Perm d.toList:=by obtain⟨h1,_,h3⟩:=h;rw[show d'.extract 0 d.size=d' from by rw[<-h1];simp,show d.extract 0 d.size=d from by simp]at h3;exact h3
theorem sorted_of[Inhabited Vd]{d:Array Vd}(h:SortedIn (ltOf cfV) 0 d.size d):d.toList.Pairwise fun x y=>ltT y.c y.n x.c x.n=false:=by
 refine List.pairwise_iff_getElem.2 (fun i j hi hj hij=>?_);have hi':i<d.size:=by simpa using hi
 have hj':j<d.size:=by simpa using hj
 have:=h i j (Nat.zero_le _) hij hj';rw[lt_cf,getElem!_pos d j hj',getElem!_pos d i hi']at this;simpa using this
theorem sort38(base g cap:Nat)(m:Bk)(w:World)(h:w.ownsRow base 116 8 (.slice (some ⟨g,0,none⟩) m.length cap) m.length (rowC vdc m))(hl:m.length<100000):
  Calls Tryz.prog 108 #[.slice (some ⟨g,0,none⟩) m.length cap,.func (.func 54) #[] #[]] w fun e w'=>e=.returned (.tuple #[])/\∃L,L.Perm m/\(L.Pairwise fun x y=>ltT y.c y.n x.c x.n=false)/\VsAt w'.heap.size (.slice (some ⟨g,0,none⟩) m.length cap) L w'/\Kept (fun i=>i=g) w w'/\∃cs,w'.heap[g]?=some (.cells cs 116 (0,0)):=by
 haveI:Inhabited Vd:=⟨dv⟩
 rcases h.2 with⟨e,_⟩|⟨g',cap',cur,e,hb,hg,hnc,hcm,hcs,ht⟩
 ·simp at e
 simp only[Value.slice.injEq,Option.some.injEq,Addr.mk.injEq,true_and,and_true]at e;obtain⟨rfl,rfl⟩:=e;have hlt:g<w.heap.size:=(Array.getElem?_eq_some_iff.1 hg).1;have hH:HoldsK vdc 8 w g 0 m.toArray:=fun j hj=>by
  have hj':j<m.length*8:=by simpa using hj
  refine⟨?_,?_⟩
  ·have:=World.ownsRow.cells h (g:=g) rfl j _ (flat_row m j hj');rw[Addr.add_lit]at this;exact this
  ·unfold World.frozen?;rw[hg];simp
 have eg:∀args w,(callFunc 54 args).run Tryz.prog w=.ok (.enter 54 args) w:=enters_of Tryz.func54 (by kernel_rfl) rfl;have hcon:=AnyQ.slices_SortFunc Tryz.sortV 8 Tryz.isAgg116 Tryz.sizeOf116 vdc (fun _=>rfl) vdc_one cfV swo_cf 54 #[] g 0 cap m.toArray w eg (cmpLays g 0 m.toArray.size w) hH hlt (by simp;omega);rw[List.size_toArray]at hcon;change Calls Tryz.prog 108 #[.slice (some ⟨g,0,none⟩) m.length cap,.func (.func 54) #[] #[]] w _ at hcon;refine hcon.mono ?_;rintro e w' ⟨rfl,d',n,os,hp,hs,rfl⟩;have hsz:d'.size=m.length:=by have:=hp.1;simpa using this
 have hp':d'.toList.Perm m:=by have:=perm_of (d:=m.toArray) (d':=d') (by rw[List.size_toArray];exact hp);simpa using this
 have hH':=holdsK_sortWorldK vdc 8 w g 0 n m.toArray d' os hlt hH (by simp[hsz]);have hz:w.heap.size<=(sortWorldK vdc 8 w g 0 n d' os).heap.size:=size_sortWorldK_c vdc 8 w g 0 n d' os;refine⟨rfl,d'.toList,hp',sorted_of (by rw[hsz];exact hs),?_,?_,?_⟩
 ·have hdl:d'.toList.length=m.length:=by simpa using hsz
  unfold VsAt;rw[hdl];refine⟨_,cap,rfl,by rw[rowC_length vdc_len,hdl],hnc,by unfold maxLen at hcm;omega,fun _=>⟨g,0,rfl,fun _=>Nat.lt_of_lt_of_le hlt hz,fun j u hj=>?_⟩⟩;have hj':j<d'.toList.length*8:=by
   have:=(List.getElem?_eq_some_iff.1 hj).1
   rwa [rowC_length vdc_len]at this
  have f:=flat_row d'.toList j hj';rw[hj]at f;have c:=(hH' j (by simpa[flatK]using hj')).1;rw[c];simp only[Array.toArray_toList]at f;exact f.symm
 ·refine⟨rfl,rfl,rfl,hz,fun k hk hn=>?_⟩;unfold sortWorldK;rw[heap_grow_old _ _ (by rw[size_putRowK];exact hk)];unfold putRowK putRow mapBlock;simp only[Sort.ahead];rw[Array.getElem?_modify,if_neg (Ne.symm hn)]
 ·unfold sortWorldK;rw[heap_grow_old _ _ (by rw[size_putRowK];exact hlt)];unfold putRowK putRow mapBlock;simp only[Sort.ahead];rw[Array.getElem?_modify,if_pos rfl,hg];exact⟨_,rfl⟩
theorem sort38_nil(ao:Option Addr)(cap:Nat)(w:World):Calls Tryz.prog 108 #[.slice ao 0 cap,.func (.func 54) #[] #[]] w fun e w'=>e=.returned (.tuple #[])/\w'=w:=
 AnyF.slices_SortFunc_none Tryz.sortV ao cap (.func (.func 54) #[] #[]) w
open Go.RowKit Go.Shelf
theorem sorted31(Bm b:Nat)(m K:Bk)(w:World)(hBm:Bm<w.heap.size)(hm:ce w Bm 0 (.map (some b)))(hown:Gv.At kd vdV b m w)(hr:Rl m K)(hl:K.length<10000):
  Calls Tryz.prog 52 #[.func (.func 109) #[] #[pz Bm],.func (.func 54) #[] #[]] w fun e w'=>∃v',e=.returned v'/\VsAt w'.heap.size v' K w'/\(∀k,v'.ownBlock=some k->w.heap.size<=k/\∃cs,w'.heap[k]?=some (.cells cs 116 (0,0)))/\Below w.heap.size w w':=by
 have hlm:m.length<10000:=by rw[hr.len];exact hl
 have CC:Hid (1=1->Calls Tryz.prog 107 #[.func (.func 109) #[] #[pz Bm]] w fun e w'=>∃ao k cap,e=.returned (.slice ao k cap)/\Hid (∃xs,xs.Perm m/\k=xs.length/\w'.ownsRow w.heap.size 116 8 (.slice ao k cap) k (rowC vdc xs)/\Below w.heap.size w w')):=fun _=>by
  refine(callsIn_wide.1 (collect37 Fence.wide 10 trivial trivial trivial rfl (by omega) Bm b m w hBm hm hown (by omega))).mono ?_;rintro e w' ⟨v,xs,rfl,h1,h2,h3⟩;rcases h2.2 with⟨rfl,h0⟩|⟨g,cap,cur,rfl,_⟩
  ·exact⟨none,0,0,rfl,xs,h1,h0.symm,by rw[h0]at h2;exact h2,h3⟩
  ·exact⟨_,_,cap,rfl,xs,h1,rfl,h2,h3⟩
 have CS:Hid (∀ao k cap W,Hid (∃xs,xs.Perm m/\k=xs.length/\W.ownsRow w.heap.size 116 8 (.slice ao k cap) k (rowC vdc xs)/\Below w.heap.size w W)->Calls Tryz.prog 108 #[.slice ao k cap,.func (.func 54) #[] #[]] W fun e w'=>e=.returned (.tuple #[])/\Hid (VsAt w'.heap.size (.slice ao k cap) K w'/\(∀i,(Value.slice ao k cap).ownBlock=some i->w.heap.size<=i/\∃cs,w'.heap[i]?=some (.cells cs 116 (0,0)))/\Below w.heap.size w w')):=fun ao k cap W h=>by
  obtain⟨xs,h1,rfl,h2,h3⟩:=h.out;have hxl:xs.length=K.length:=h1.length_eq.trans hr.len;rcases h2.2 with⟨e,h0⟩|⟨g,cap',cur,e,hb,_⟩
  ·simp only[Value.slice.injEq]at e;obtain⟨rfl,_,rfl⟩:=e;have hx0:xs=[]:=List.eq_nil_of_length_eq_zero h0;have hK0:K=[]:=List.eq_nil_of_length_eq_zero (by omega);subst hx0 hK0;refine(sort38_nil none 0 W).mono ?_;rintro e w' ⟨rfl,rfl⟩;exact⟨rfl,RwAt.nil _ _ _,fun i hi=>by simp[Value.ownBlock]at hi,h3⟩
  ·simp only[Value.slice.injEq,true_and]at e;obtain⟨rfl,rfl⟩:=e;refine(sort38 w.heap.size g cap xs W h2 (by omega)).mono ?_;rintro e w' ⟨rfl,L,p1,p2,p3,p4,p5⟩;have hLK:L=K:=hr.sorted (p1.trans h1) p2;subst hLK;refine⟨rfl,p3,fun i hi=>?_,h3.trans (p4.below h3.size (fun k e=>by rw[e];exact hb))⟩;have:g=i:=by simpa[Value.ownBlock]using hi
   rw[<-this];exact⟨hb,p5⟩
 clear hown hr hl hlm hm hBm;go_enter Tryz.func52,Tryz.ntmps52;go_wp2_with fail;refine(CC.out (by simp)).mono ?_;rintro e w1 ⟨ao,k,cap,rfl,H1⟩;clear CC;go_wp2_with fail;refine(CS.out _ _ _ _ H1).mono ?_;rintro e w2 ⟨rfl,H2⟩;clear CS H1;go_wp2_with fail;go_ret;exact⟨_,rfl,H2.out⟩
theorem all18{B p hb:Nat}{m K:Bk}{w:World}(h:Bo B p hb m K w)(hl:K.length<10000):
  Calls Tryz.prog 26 #[pz p] w fun e w'=>∃v',e=.returned v'/\VsAt w'.heap.size v' K w'/\(∀k,v'.ownBlock=some k->w.heap.size<=k/\∃cs,w'.heap[k]?=some (.cells cs 116 (0,0)))/\Below w.heap.size w w':=by
 have c0:=h.cell;have CV:Hid (1=1->Calls Tryz.prog 53 #[.map (some hb)] w fun e w'=>e=.returned (.func (.func 109) #[] #[pz w.heap.size])/\w'=w.alloc (.cells #[.map (some hb)] 135)):=fun _=>callsIn_wide.1 (values32 Fence.wide 10 trivial rfl (some hb) w);have CS:Hid (1=1->Calls Tryz.prog 52 #[.func (.func 109) #[] #[pz w.heap.size],.func (.func 54) #[] #[]] (w.alloc (.cells #[.map (some hb)] 135)) fun e w'=>∃v',e=.returned v'/\Hid (VsAt w'.heap.size v' K w'/\(∀k,v'.ownBlock=some k->w.heap.size<=k/\∃cs,w'.heap[k]?=some (.cells cs 116 (0,0)))/\Below w.heap.size w w')):=fun _=>by have hb':Below w.heap.size w (w.alloc (.cells #[.map (some hb)] 135)):=al _;refine(sorted31 w.heap.size hb m K _ (by simp) (block_cell (heap_alloc_new w _) rfl) (h.map.on hb') h.rel hl).mono ?_;rintro e w' ⟨v',rfl,h1,h2,h3⟩;refine⟨v',rfl,h1,fun k hk=>⟨Nat.le_trans hb'.size (h2 k hk).1,(h2 k hk).2⟩,hb'.trans (h3.mono hb'.size)⟩
 clear h hl;go_enter Tryz.func26,Tryz.ntmps26;go_wp2_with fail;refine(CV.out (by simp)).mono ?_;rintro e w1 ⟨rfl,rfl⟩;clear CV;go_wp2_with fail;refine(CS.out (by simp)).mono ?_;rintro e w2 ⟨v',rfl,H2⟩;clear CS;go_wp2_with fail;go_ret;exact⟨_,rfl,H2.out⟩
open Go.RowKit
theorem mono_M{p hb:Nat}{M:Nat->Prop}{w w':World}{X:(Nat->Prop)->Prop}(hM:∀k,M k↔k=p\/k=hb)(h:∃M',X M'/\Kept (fun k=>k=p\/k=hb) w w'/\∀i,M' i->(i=p\/i=hb)\/w.heap.size<=i):∃M',X M'/\Kept M w w'/\∀i,M' i->M i\/w.heap.size<=i:=by
 obtain⟨M',h1,h2,h3⟩:=h;refine⟨M',h1,⟨h2.os,h2.tape,h2.output,h2.size,fun k hk hn=>h2.block k hk (fun e=>hn ((hM k).2 e))⟩,fun i hi=>?_⟩;rcases h3 i hi with e|e
 ·exact .inl ((hM i).2 e)
 ·exact .inr e
theorem bookIfv:Ifv BoAt:={
 lt:=fun h k hk=>h.lt k hk
 keep:=fun h hk hM=>h.keep hk hM
 ok:=fun h=>by obtain⟨_,_,h,_⟩:=h;exact h.rel.srt
 new:=new8
 set:=fun v h _ _=>by obtain⟨hb,m,h,hM⟩:=h;refine(set9 v h).mono ?_;rintro e w' ⟨he,hx⟩;exact⟨he,mono_M hM hx⟩
 done:=fun c n h _ _=>by obtain⟨hb,m,h,hM⟩:=h;refine(done11 c n h).mono ?_;rintro e w' ⟨he,hx⟩;exact⟨he,mono_M hM hx⟩
 retire:=fun sp sl L v h hl _ _ hz hv _=>by obtain⟨hb,m,h,hM⟩:=h;refine(retire13 sp sl L v h hl hz hv).mono ?_;rintro e w' ⟨he,hx⟩;exact⟨he,mono_M hM hx⟩
 of:=fun c n h _ _=>by obtain⟨hb,m,h,hM⟩:=h;exact of15 c n h
 all:=fun h hl=>by obtain⟨hb,m,h,hM⟩:=h;refine(all18 h hl).mono ?_;rintro e w' ⟨v',rfl,h1,h2,h3⟩;exact⟨v',rfl,h1,h2,h3⟩}
end Go.Proofs.YtdplfgcoaddbdaaGreat.Ver
