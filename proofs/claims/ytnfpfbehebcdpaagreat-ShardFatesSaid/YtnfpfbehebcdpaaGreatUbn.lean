import Derived.RangeFuncBox
import Derived.Sort.Grow
import Derived.Shelf.SlSortCmp.WholeK
import Derived.Shelf.SlSortCmp.NoneTotal
import Derived.Test.YtnfpfbehebcdpaaGreatUbm
set_option maxHeartbeats 0
set_option maxRecDepth 99999
set_option linter.all false
namespace Go.Proofs.YtnfpfbehebcdpaaGreat.Ver
open Go.RowKit Go.Shelf
attribute [local go_sem] Oper.semAt_some
def own8(B:Nat)(x:Vd):Own (λ(_:Unit) W=>W.heap[B]?=some (.cells #[ui x.c,ui x.n,uw x.sp,ui x.sl,uw x.ap,ui x.al,ub x.pt,.bool x.dn] 143 (0,0))):=λ_ X Y row hs hg hrow=>
 (hg.block B (gsz hs) (λe'=>by obtain⟨o,ho,hc⟩:=hrow B e'.symm;rw[hs]at ho;cases ho;cases hc)).trans hs
def afs{W W':World}(h:KeepsOthers W W'):KeepsWalks W W':=⟨h.size,λk o hk ho=>h.same k o hk (Obj.not_cells_of_walk ho)⟩
def alr(x:Vd)(W:World):∀j u,(vdc x)[j]?=some u->(W.alloc (.cells #[ui x.c,ui x.n,uw x.sp,ui x.sl,uw x.ap,ui x.al,ub x.pt,.bool x.dn] 143)).cell? ((⟨W.heap.size,0,none⟩:Addr).add j)=some u:=λj u hj=>by rw[uo,ni];exact Aa (ae W _) (by simpa[vdc]using hj)
def app41(F:Fence)(n:Nat)(h41:F.fn 234)(h39:F.fn 202)(hro:F.round=none)(hn:3<=n)(Bm b:Nat)(m:Bk)(w:World)(hBm:Bm<w.heap.size)(hm:ce w Bm 0 (.map (some b)))(hown:Gv.At kd vdV b m w)(hl:m.length<100000):
  CallsIn F n Tryz.prog 234 #[sy,.func (.func 202) #[] #[pz Bm]] w λe w'=>∃v xs,e=.returned v/\xs.Perm m/\w'.ownsRow w.heap.size 143 8 v xs.length (rowC vdc xs)/\Bw w w':=by
 have h1:1<=n:=by omega
 obtain⟨i0,hi,hz0,hz1,hz2⟩:=qc ay5;have hseq:=agp F (n-1) h39 hro (by omega) Bm b m w hBm hm hown;clear hown hm;refine callsIn_of_wp_marks Tryz.func234 rfl h41 ?_ hro;simp only[Tryz.ntmps234,uu,bg,o9,Nat.reduceAdd,Nat.reduceSub,Array.replicate_succ,Array.replicate_zero,List.push_toArray,List.append_toArray,mf,lu]
 gi_wp2
 have bS:=Boxed.new w 159 sy;have hB0:Bw w (w.alloc (.cells #[sy] 159)):=al _;refine wpIn_rangeFunc_ownH hro h1 (gf:=202) (lb:=#[pz Bm]) rfl h39 (enters_of Tryz.func202 (by kernel_rfl) rfl) hseq walksK_t walksK_b hB0 (λ_=>rfl) (λpre W=>(∃v,Boxed W w.heap.size 159 v/\W.ownsRow w.heap.size 143 8 v pre.length (rowC vdc pre)/\True)/\Bw w W) (λ_ _ _=>False) (OwnFrom.and (Own.from (holdsRow_own w.heap.size w.heap.size 159 143 8 (λpre:Bk=>pre.length) (λpre=>rowC vdc pre) (λ_ _=>True)) _) (ownFrom_below (ai _) (by simp))) (λ_ _ _ _ _ hs _ _=>hs) ⟨⟨_,bS,qi _ _ _ _,trivial⟩,hB0⟩ (λx a' W=>∃Bx,w.heap.size<Bx/\W.heap[Bx]?=some (.cells #[ui x.c,ui x.n,uw x.sp,ui x.sl,uw x.ap,ui x.al,ub x.pt,.bool x.dn] 143 (0,0))/\a'={tmps:=#[sy,.func (.func 202) #[] #[pz Bm],pz w.heap.size,undef,sy,pz Bx,.func (.func 202) #[] #[pz Bm],.agg #[ui x.c,ui x.n,uw x.sp,ui x.sl,uw x.ap,ui x.al,ub x.pt,.bool x.dn],undef,undef,undef,undef,undef],defers:=[]}) (λx a' _ X Y row hs hg hr=>by obtain⟨Bx,h1,h2,h3⟩:=hs;exact⟨Bx,h1,own8 Bx x () X Y row h2 hg (λr e=>(hr r e).2),h3⟩) ?assign ?body ?done ?stop;case assign=>
  rintro l pre x W K ⟨⟨v,hv,hrow,-⟩,hB⟩ hK;simp only[vdV]
  gi_wp2
  exact hK _ _ ((KeepsOthers.alloc _ _).from _) (KeepsWalks.alloc _ _) ⟨⟨v,hv.alloc _,hrow.alloc _,trivial⟩,hB.alloc hB.size _⟩ ⟨W.heap.size,hv.lt,ae W _,rfl⟩
 case body=>
  rintro l pre x a' W hl' ⟨r,hr⟩ ⟨⟨v,hv,hrow,-⟩,hB⟩ ⟨Bx,hBx,bX,rfl⟩ hlt;have hc:=hv.cell;have zx0:=bk8 bX
  gi_wp2_with (gi_at_builtin;refine wpListIn_append_own _ rfl _ _ 159 rfl w.heap.size 143 i0 (.agg #[ui 0,ui 0,uw 0,ui 0,uw 0,ui 0,ub 0,.bool false]) 8 48 Tryz.underlying159 hi hz0 hz1 hz2 rfl (by decide) _ _ _ rfl (hrow.alloc _) ⟨W.heap.size,0,none⟩ 1 1 (vdc x) rfl rfl (alr x W) (aiq x) (by unfold maxLen;omega) (by omega) (by have:=hB.size;simp;omega) ?_;intro v' w1 hown' hgrow _;obtain⟨g',cap',rfl⟩:=ownsRow_succ hown';obtain⟨hv1,hv2,hr2,hk2,hb2⟩:=hv.appended (by decide) hrow hB.size (ai _) hown' hgrow;have hc1:=hv1.cell;have hf1:=hv1.frozen)
  refine⟨hk2.from _,afs hk2,⟨_,hv2,?_,trivial⟩,hB.trans hb2⟩;rw[af,List.length_singleton,Ku,ae4];exact hr2
 case done=>
  rintro D ys W hD hS ⟨⟨v,hv,hrow,-⟩,hB⟩ hK;have hc:=hv.cell
  gi_wp2
  refine⟨by simp,.inl ⟨_,_,rfl,run_takeDeferred hK,?_⟩⟩;exact⟨_,results_tmp rfl _ _ _,v,ys,rfl,hS,ownsRow_putObj hrow _ hK rfl,hB.trans (belowK_b (w:=w) (ai _) W D _ _ (by simp at hD;omega) hK rfl rfl)⟩
 case stop=>
  rintro D c pre W _ _ h _;exact h.elim
def ams(F:Fence)(n:Nat)(h37:F.fn 200)(h41:F.fn 234)(h39:F.fn 202)(hro:F.round=none)(hn:4<=n)(Bm b:Nat)(m:Bk)(w:World)(hBm:Bm<w.heap.size)(hm:ce w Bm 0 (.map (some b)))(hown:Gv.At kd vdV b m w)(hl:m.length<100000):
  CallsIn F n Tryz.prog 200 #[.func (.func 202) #[] #[pz Bm]] w λe w'=>∃v xs,e=.returned v/\xs.Perm m/\w'.ownsRow w.heap.size 143 8 v xs.length (rowC vdc xs)/\Bw w w':=by
 have hcon:=app41 F (n-1) h41 h39 hro (by omega) Bm b m w hBm hm hown hl;clear hown hm hl hBm;have h1n:1<=n:=by omega
 refine callsIn_of_wp Tryz.func200 rfl h37 ?_ hro;simp only[Tryz.ntmps200,uu,bg,o9,Nat.reduceAdd,Nat.reduceSub,Array.replicate_succ,Array.replicate_zero,List.push_toArray,List.append_toArray,mf,lu]
 gi_wp2_with (gi_at_call 234;refine hcon.mono ?_;rintro e w' ⟨v,xs,rfl,h1,h2,h3⟩)
 go_ret;exact⟨_,xs,rfl,h1,h2,h3⟩
open Go.RowKit Go.Sort
def Gw(W w':World):Prop:=∃q os',w'=grow (W.drewN q) os'
def Gw.refl(W:World):Gw W W:=⟨0,#[],by rw[grow_empty];rfl⟩
def Gw.alloc{W w':World}(h:Gw W w')(o:Obj):Gw W (w'.alloc o):=by obtain⟨q,os,rfl⟩:=h;exact⟨q,os++#[o],by rw[alloc_eq_grow,grow_grow]⟩
def Gw.drew{W w':World}(h:Gw W w'):Gw W w'.drew:=by obtain⟨q,os,rfl⟩:=h;exact⟨q+1,os,rfl⟩
def cpI(a b:Int):Int:=if a<b then-1 else if b<a then 1 else 0
def ark(a b:Int)(w:World):cpr 153 #[.int .u32 a,.int .u32 b] w λe w'=>e=.returned (.int .i64 (cpI a b))/\w'=w:=by
 by_cases h1:a<b
 .have HC:Hid (cpI a b= -1):=by show cpI a b= -1;unfold cpI;rw[ah h1]
  exact bbf
 .by_cases h2:b<a
  .have HC:Hid (cpI a b=1):=by show cpI a b=1;unfold cpI;rw[ag h1,ah h2]
   exact bbf
  .have HC:Hid (cpI a b=0):=by show cpI a b=0;unfold cpI;rw[ag h1,ag h2]
   exact bbf
def orI(x y:Int):Int:=if x=0 then y else x
def or34(bk:Nat)(x y:Int)(w:World)(h0:w.cell? ⟨bk,0,none⟩=some (.int .i64 x))(h1:w.cell? ⟨bk,1,none⟩=some (.int .i64 y)):cpr 152 #[.slice (some ⟨bk,0,none⟩) 2 2] w λe w'=>e=.returned (.int .i64 (orI x y))/\w'=w:=by
 have HO:Hid (orI x y=if x=0 then y else x):=rfl;go_enter Tryz.func152,Tryz.ntmps152;go_wp2_with fail;go_loopw [8] (λi wr=>∃k:Nat,i=.int .i64 k/\Hid (wr=w)/\Hid (k=0\/k=1/\x=0\/k=2/\x=0/\y=0)) (λi _=>2-(intOf i).toNat)
 case atStart=>exact⟨0,rfl,rfl,.inl rfl⟩
 case round=>
  obtain⟨k,rfl,HW,HK⟩:=hrel;obtain rfl:=HW.out;rcases HK.out with rfl|⟨rfl,hx⟩|⟨rfl,hx,hy⟩
  .by_cases hx:x=0
   .have HX:Hid (x=0):=hx;have hx':(x==0)=true:=by simpa using hx
    clear hx HW HK;go_wp2_with fail;go_roundw
    case rel=>exact⟨1,rfl,trivial,.inr (.inl ⟨rfl,HX.out⟩)⟩
    case measure=>simp[intOf]
   .have HX:Hid (¬x=0):=hx;have hx':(x==0)=false:=by simpa using hx
    clear hx HW HK;go_wp2_with fail;go_ret;exact⟨by rw[HO.out,ag HX.out];rfl,rfl⟩
  .have HX:Hid (x=0):=hx;clear hx HW HK;by_cases hy:y=0
   .have HY:Hid (y=0):=hy;have hy':(y==0)=true:=by simpa using hy
    clear hy;go_wp2_with fail;go_roundw
    case rel=>exact⟨2,rfl,trivial,.inr (.inr ⟨rfl,HX.out,HY.out⟩)⟩
    case measure=>simp[intOf]
   .have hy':(y==0)=false:=by simpa using hy
    clear hy;go_wp2_with fail;go_ret;exact⟨by rw[HO.out,ah HX.out];rfl,rfl⟩
  .have HX:Hid (x=0/\y=0):=⟨hx,hy⟩;clear hx hy HW HK;go_wp2_with fail;go_ret;exact⟨by rw[HO.out,ah HX.out.1,HX.out.2];rfl,rfl⟩
def cfV(x y:Vd):Int:=orI (cpI x.c y.c) (cpI x.n y.n)
structure Cw(w:World)(bx bt:Nat)(a b c d:Int)(W:World):Prop where
 g:Gw w W
 x0:W.cell? ⟨bx,0,none⟩=some (.int .u32 a)
 x1:W.cell? ⟨bx,1,none⟩=some (.int .u32 b)
 y0:W.cell? ⟨bt,0,none⟩=some (.int .u32 c)
 y1:W.cell? ⟨bt,1,none⟩=some (.int .u32 d)
def Cw.dr{w W:World}{bx bt:Nat}{a b c d:Int}(h:Cw w bx bt a b c d W):Cw w bx bt a b c d W.drew:=⟨h.g.drew,h.x0,h.x1,h.y0,h.y1⟩
def Cw.al{w W:World}{bx bt:Nat}{a b c d:Int}(h:Cw w bx bt a b c d W)(o:Obj):Cw w bx bt a b c d (W.alloc o):=by have f:=Fe (Go.Proofs.YtnfpfbehebcdpaaGreat.al (W:=W) o);exact⟨h.g.alloc o,(f.1 _ _ (ed _ _ h.x0)).trans h.x0,(f.1 _ _ (ed _ _ h.x1)).trans h.x1,(f.1 _ _ (ed _ _ h.y0)).trans h.y0,(f.1 _ _ (ed _ _ h.y1)).trans h.y1⟩
def Cw.five{w W:World}{bx bt:Nat}{a b c d:Int}(h:Cw w bx bt a b c d W):W.cell? ⟨bx,0,none⟩=some (.int .u32 a)/\W.cell? ⟨bx,1,none⟩=some (.int .u32 b)/\W.cell? ⟨bt,0,none⟩=some (.int .u32 c)/\W.cell? ⟨bt,1,none⟩=some (.int .u32 d)/\Cw w bx bt a b c d W:=⟨h.x0,h.x1,h.y0,h.y1,h⟩
def cmp33(x y:Vd)(w:World):cpr 151 #[.agg #[.int .u32 x.c,.int .u32 x.n,.int .u64 x.sp,.int .u32 x.sl,.int .u64 x.ap,.int .u32 x.al,.int .u8 x.pt,.bool x.dn],.agg #[.int .u32 y.c,.int .u32 y.n,.int .u64 y.sp,.int .u32 y.sl,.int .u64 y.ap,.int .u32 y.al,.int .u8 y.pt,.bool y.dn]] w λe w'=>e=.returned (.int .i64 (cfV x y))/\Gw w w':=by
 have C1:Hid (∀W,1=1->cpr 153 #[.int .u32 x.c,.int .u32 y.c] W λe w'=>e=.returned (.int .i64 (cpI x.c y.c))/\w'=W):=λW _=>ark _ _ W;have C2:Hid (∀W,1=1->cpr 153 #[.int .u32 x.n,.int .u32 y.n] W λe w'=>e=.returned (.int .i64 (cpI x.n y.n))/\w'=W):=λW _=>ark _ _ W;have CO:Hid (∀W:World,1=1->cpr 152 #[.slice (some ⟨W.heap.size,0,none⟩) 2 2] (W.alloc (.cells #[.int .i64 (cpI x.c y.c),.int .i64 (cpI x.n y.n)] 3)).drew λe w'=>e=.returned (.int .i64 (cfV x y))/\w'=(W.alloc (.cells #[.int .i64 (cpI x.c y.c),.int .i64 (cpI x.n y.n)] 3)).drew):=λW _=>or34 W.heap.size _ _ _ (Aa (ae W _) rfl) (Aa (ae W _) rfl);generalize cfV x y=r at*;generalize cpI x.c y.c=a at*;generalize cpI x.n y.n=b at*;obtain⟨W0,hW0⟩:=xj (w.alloc (.cells #[.int .u32 x.c,.int .u32 x.n,.int .u64 x.sp,.int .u32 x.sl,.int .u64 x.ap,.int .u32 x.al,.int .u8 x.pt,.bool x.dn] 143));obtain⟨W1,hW1⟩:=xj (W0.alloc (.cells #[.int .u32 y.c,.int .u32 y.n,.int .u64 y.sp,.int .u32 y.sl,.int .u64 y.ap,.int .u32 y.al,.int .u8 y.pt,.bool y.dn] 143));have HG:Hid (Gw w W1):=by rw[<-hW1,<-hW0];exact((Gw.refl w).alloc _).alloc _
 have hx0:W0.heap[w.heap.size]?=some (.cells #[.int .u32 x.c,.int .u32 x.n,.int .u64 x.sp,.int .u32 x.sl,.int .u64 x.ap,.int .u32 x.al,.int .u8 x.pt,.bool x.dn] 143 (0,0)):=by rw[<-hW0];exact ae w _
 have hx1:W1.heap[w.heap.size]?=some (.cells #[.int .u32 x.c,.int .u32 x.n,.int .u64 x.sp,.int .u32 x.sl,.int .u64 x.ap,.int .u32 x.al,.int .u8 x.pt,.bool x.dn] 143 (0,0)):=by rw[<-hW1,(al (W:=W0) _).block _ (gsz hx0)];exact hx0
 have hy1:W1.heap[W0.heap.size]?=some (.cells #[.int .u32 y.c,.int .u32 y.n,.int .u64 y.sp,.int .u32 y.sl,.int .u64 y.ap,.int .u32 y.al,.int .u8 y.pt,.bool y.dn] 143 (0,0)):=by rw[<-hW1];exact ae W0 _
 obtain⟨bx,hbx⟩:=xj w.heap.size;obtain⟨bt,hbt⟩:=xj W0.heap.size;rw[hbx]at hx1;rw[hbt]at hy1;have x0:W1.cell? ⟨bx,0,none⟩=some (.int .u32 x.c):=Aa hx1 rfl;have x1:W1.cell? ⟨bx,1,none⟩=some (.int .u32 x.n):=Aa hx1 rfl;have y0:W1.cell? ⟨bt,0,none⟩=some (.int .u32 y.c):=Aa hy1 rfl;have y1:W1.cell? ⟨bt,1,none⟩=some (.int .u32 y.n):=Aa hy1 rfl;have HT:Hid (Cw w bx bt x.c x.n y.c y.n W1):=⟨HG.out,x0,x1,y0,y1⟩;clear hx0 hx1 hy1;go_enter Tryz.func151,Tryz.ntmps151;go_wp2_with fail;clear hW0 hW1 hbx hbt;go_region_held3 (λW=>W.cell? ⟨bx,0,none⟩=some (.int .u32 x.c)/\W.cell? ⟨bx,1,none⟩=some (.int .u32 x.n)/\W.cell? ⟨bt,0,none⟩=some (.int .u32 y.c)/\W.cell? ⟨bt,1,none⟩=some (.int .u32 y.n)/\Cw w bx bt x.c x.n y.c y.n W) ((with_reducible refine Cw.five ?_;with_reducible repeat (first|exact HT.out|refine Cw.dr ?_|refine Cw.al ?_ _))) (first
  |(go_at_call_of 153 (Value.int .u32 x.c);(with_reducible refine(C1.out _ (by simp)).mono ?_);rintro e w1 ⟨rfl,rfl⟩)
  |(go_at_call_of 153 (Value.int .u32 x.n);(with_reducible refine(C2.out _ (by simp)).mono ?_);rintro e w1 ⟨rfl,rfl⟩)
  |(go_at_call 152;(with_reducible refine(CO.out _ (by simp)).mono ?_);rintro e w1 ⟨rfl,rfl⟩))
 all_goals
  go_wp2_with fail;go_ret;exact⟨rfl,(HT.out.g.alloc _).drew⟩
end Go.Proofs.YtnfpfbehebcdpaaGreat.Ver
namespace Go.Proofs
open Go.Shelf
def Tryz.aky:Go.Shelf.Ren:=⟨λ|6=>201|15=>180|14=>235|28=>224|29=>204|20=>255|21=>256|22=>257|23=>258|24=>259|25=>260|26=>261|27=>262|46=>265|47=>244|48=>245|49=>266|50=>267|57=>268|n=>n,λ|22=>159|24=>143|25=>247|3=>3|39=>267|0=>0|53=>34|55=>33|4=>4|46=>308|45=>307|50=>313|5=>5|9=>9|66=>329|70=>333|76=>344|77=>345|n=>n,λ|n=>n⟩
def Tryz.awp:Go.Proofs.SlLaysF0.n6 Tryz.prog Tryz.aky:={mixed:=by kernel_rfl,f6:=⟨Tryz.f201.name,by decide,Tryz.func201.trans (congrArg some (by kernel_rfl))⟩,f14:=⟨Tryz.f235.name,by decide,Tryz.func235.trans (congrArg some (by kernel_rfl))⟩,f15:=Tryz.func180.trans (congrArg some (by kernel_rfl)),f20:=⟨Tryz.f255.name,by decide,Tryz.func255.trans (congrArg some (by kernel_rfl))⟩,f21:=⟨Tryz.f256.name,by decide,Tryz.func256.trans (congrArg some (by kernel_rfl))⟩,f22:=⟨Tryz.f257.name,by decide,Tryz.func257.trans (congrArg some (by kernel_rfl))⟩,f23:=⟨Tryz.f258.name,by decide,Tryz.func258.trans (congrArg some (by kernel_rfl))⟩,f24:=⟨Tryz.f259.name,by decide,Tryz.func259.trans (congrArg some (by kernel_rfl))⟩,f25:=⟨Tryz.f260.name,by decide,Tryz.func260.trans (congrArg some (by kernel_rfl))⟩,f26:=⟨Tryz.f261.name,by decide,Tryz.func261.trans (congrArg some (by kernel_rfl))⟩,f27:=⟨Tryz.f262.name,by decide,Tryz.func262.trans (congrArg some (by kernel_rfl))⟩,f28:=Tryz.func224.trans (congrArg some (by kernel_rfl)),f29:=Tryz.func204.trans (congrArg some (by kernel_rfl)),f46:=⟨Tryz.f265.name,by decide,Tryz.func265.trans (congrArg some (by kernel_rfl))⟩,f47:=Tryz.func244.trans (congrArg some (by kernel_rfl)),f48:=Tryz.func245.trans (congrArg some (by kernel_rfl)),f49:=⟨Tryz.f266.name,by decide,Tryz.func266.trans (congrArg some (by kernel_rfl))⟩,f50:=⟨Tryz.f267.name,by decide,Tryz.func267.trans (congrArg some (by kernel_rfl))⟩,f57:=⟨Tryz.f268.name,by decide,Tryz.func268.trans (congrArg some (by kernel_rfl))⟩,t0:=Tryz.underlying0,a0:=Tryz.isAgg0,z0:=Tryz.sizeOf0,v0:=Tryz.zeroValue0,t3:=Tryz.underlying3,a3:=Tryz.isAgg3,z3:=Tryz.sizeOf3,v3:=Tryz.zeroValue3,t4:=Tryz.underlying4,a4:=Tryz.isAgg4,z4:=Tryz.sizeOf4,v4:=Tryz.zeroValue4,t5:=Tryz.underlying5,a5:=Tryz.isAgg5,z5:=Tryz.sizeOf5,v5:=Tryz.zeroValue5,t9:=Tryz.underlying9,a9:=Tryz.isAgg9,z9:=Tryz.sizeOf9,v9:=Tryz.zeroValue9,t22:=Tryz.underlying159,a22:=Tryz.isAgg159,z22:=Tryz.sizeOf159,v22:=Tryz.zeroValue159,t25:=Tryz.underlying247,a25:=Tryz.isAgg247,z25:=Tryz.sizeOf247,v25:=Tryz.zeroValue247,t39:=Tryz.underlying267,a39:=Tryz.isAgg267,z39:=Tryz.sizeOf267,v39:=Tryz.zeroValue267,t45:=Tryz.underlying307,a45:=Tryz.isAgg307,z45:=Tryz.sizeOf307,v45:=Tryz.zeroValue307,t46:=Tryz.underlying308,a46:=Tryz.isAgg308,z46:=Tryz.sizeOf308,v46:=Tryz.zeroValue308,t50:=Tryz.underlying313,a50:=Tryz.isAgg313,z50:=Tryz.sizeOf313,v50:=Tryz.zeroValue313,t53:=Tryz.underlying34,a53:=Tryz.isAgg34,z53:=Tryz.sizeOf34,v53:=Tryz.zeroValue34,t55:=Tryz.underlying33,a55:=Tryz.isAgg33,z55:=Tryz.sizeOf33,v55:=Tryz.zeroValue33,t66:=Tryz.underlying329,a66:=Tryz.isAgg329,z66:=Tryz.sizeOf329,v66:=Tryz.zeroValue329,t70:=Tryz.underlying333,a70:=Tryz.isAgg333,z70:=Tryz.sizeOf333,v70:=Tryz.zeroValue333,t76:=Tryz.underlying344,a76:=Tryz.isAgg344,z76:=Tryz.sizeOf344,v76:=Tryz.zeroValue344,t77:=Tryz.underlying345,a77:=Tryz.isAgg345,z77:=Tryz.sizeOf345,v77:=Tryz.zeroValue345}
end Go.Proofs
namespace Go.Proofs.YtnfpfbehebcdpaaGreat.Ver
open Go.RowKit Go.Sort Go.Shelf
def ajw(x y:Vd):ltOf cfV x y=ltT x.c x.n y.c y.n:=by
 rw[yh,U8];unfold ltOf cfV orI cpI;rw[decide_eq_true_iff];by_cases h1:x.c<y.c
 .rw[ah h1];simp[h1]
 .rw[ag h1];by_cases h2:y.c<x.c
  .rw[ah h2];constructor
   .intro h;simp at h
   .intro h;omega
  .rw[ag h2,ah rfl];by_cases h3:x.n<y.n
   .rw[ah h3];constructor
    .intro _;omega
    .intro _;decide
   .rw[ag h3];constructor
    .intro h;split at h<;>simp at h
    .intro h;omega
def axl:SWO (ltOf cfV):={
 irrefl:=λx=>by rw[ajw];exact P8 _ _
 trans:=λx y z h1 h2=>by rw[ajw]at*;exact ab2 h1 h2
 ntrans:=λx y z h1 h2=>by rw[ajw,<-Bool.not_eq_true,U8]at*;omega}
def avm[Inhabited Vd](blk off size:Nat)(w:World):CmpLays Tryz.prog 151 #[] vdc 8 cfV blk off size w:=
 λ_ _ _ _ x y=>cmp33 x y _
def af0[Inhabited Vd](m:Bk)(j:Nat)(hj:j<m.length*8):(rowC vdc m)[j]?=some ((flatK vdc 8 m.toArray)[j]!):=by
 have h1:j/8<m.length:=by omega
 have h2:j%8<8:=Nat.mod_lt _ (by omega);rw[get_flatK vdc 8 m.toArray j (by simpa using hj)];have e:=Zn acu dv m (j/8) (j%8) h1 h2;rw[show j/8*8+j%8=j from by omega]at e;rw[e];have e2:m.toArray[j/8]! =m.getD (j/8) dv:=by simp[List.getD,h1]
 rw[e2];have h3:j%8<(vdc (m.getD (j/8) dv)).length:=h2;rw[bf h3,getElem!_pos (vdc (m.getD (j/8) dv)) (j%8) h3]
def atx[Inhabited Vd]{d d':Array Vd}(h:PermIn 0 d.size d d'):d'.toList.Perm d.toList:=by obtain⟨h1,_,h3⟩:=h;rw[show d'.extract 0 d.size=d' from by rw[<-h1];simp,show d.extract 0 d.size=d from by simp]at h3;exact h3
def akx[Inhabited Vd]{d:Array Vd}(h:SortedIn (ltOf cfV) 0 d.size d):d.toList.Pairwise λx y=>ltT y.c y.n x.c x.n=false:=by
 refine wu.2 (λi j hi hj hij=>?_);have hi':i<d.size:=by simpa using hi
 have hj':j<d.size:=by simpa using hj
 have:=h i j (eu _) hij hj';rw[ajw,getElem!_pos d j hj',getElem!_pos d i hi']at this;simpa using this
def axm(base g cap:Nat)(m:Bk)(w:World)(h:w.ownsRow base 143 8 (.slice (some ⟨g,0,none⟩) m.length cap) m.length (rowC vdc m))(hl:m.length<100000):
  cpr 201 #[.slice (some ⟨g,0,none⟩) m.length cap,.func (.func 151) #[] #[]] w λe w'=>e=.returned (.tuple #[])/\∃L,L.Perm m/\(L.Pairwise λx y=>ltT y.c y.n x.c x.n=false)/\VsAt w'.heap.size (.slice (some ⟨g,0,none⟩) m.length cap) L w'/\Kept (λi=>i=g) w w'/\∃cs,w'.heap[g]?=some (.cells cs 143 (0,0)):=by
 haveI:Inhabited Vd:=⟨dv⟩
 rcases h.2 with⟨e,_⟩|⟨g',cap',cur,e,hb,hg,hnc,hcm,hcs,ht⟩
 .simp at e
 simp only[ku,ja,Addr.mk.injEq,true_and,and_true]at e;obtain⟨rfl,rfl⟩:=e;have hlt:g<w.heap.size:=(lq.1 hg).1;have hH:HoldsK vdc 8 w g 0 m.toArray:=λj hj=>by
  have hj':j<m.length*8:=by simpa using hj
  refine⟨?_,?_⟩
  .have:=World.ownsRow.cells h (g:=g) rfl j _ (af0 m j hj');rw[uo]at this;exact this
  .unfold World.frozen?;rw[hg];simp
 have eg:∀args w,(callFunc 151 args).run Tryz.prog w=.ok (.enter 151 args) w:=enters_of Tryz.func151 (by kernel_rfl) rfl;have hcon:=AnyQ.slices_SortFunc Tryz.awp 8 Tryz.isAgg143 Tryz.sizeOf143 vdc (λ_=>rfl) aiq cfV axl 151 #[] g 0 cap m.toArray w eg (avm g 0 m.toArray.size w) hH hlt (by simp;omega);rw[uu]at hcon;change cpr 201 #[.slice (some ⟨g,0,none⟩) m.length cap,.func (.func 151) #[] #[]] w _ at hcon;refine hcon.mono ?_;rintro e w' ⟨rfl,d',n,os,hp,hs,rfl⟩;have hsz:d'.size=m.length:=by have:=hp.1;simpa using this
 have hp':d'.toList.Perm m:=by have:=atx (d:=m.toArray) (d':=d') (by rw[uu];exact hp);simpa using this
 have hH':=holdsK_sortWorldK vdc 8 w g 0 n m.toArray d' os hlt hH (by simp[hsz]);have hz:w.heap.size<=(sortWorldK vdc 8 w g 0 n d' os).heap.size:=size_sortWorldK_c vdc 8 w g 0 n d' os;refine⟨rfl,d'.toList,hp',akx (by rw[hsz];exact hs),?_,?_,?_⟩
 .have hdl:d'.toList.length=m.length:=by simpa using hsz
  unfold VsAt;rw[hdl];refine⟨_,cap,rfl,by rw[Kt acu,hdl],hnc,by unfold maxLen at hcm;omega,λ_=>⟨g,0,rfl,λ_=>iy hlt hz,λj u hj=>?_⟩⟩;have hj':j<d'.toList.length*8:=by
   have:=(gu.1 hj).1
   rwa [Kt acu]at this
  have f:=af0 d'.toList j hj';rw[hj]at f;have c:=(hH' j (by simpa[flatK]using hj')).1;rw[c];simp only[Array.toArray_toList]at f;exact f.symm
 .refine⟨rfl,rfl,rfl,hz,λk hk hn=>?_⟩;unfold sortWorldK;rw[heap_grow_old _ _ (by rw[size_putRowK];exact hk)];unfold putRowK putRow mapBlock;simp only[Sort.ahead];rw[qg,ag (Ne.symm hn)]
 .unfold sortWorldK;rw[heap_grow_old _ _ (by rw[size_putRowK];exact hlt)];unfold putRowK putRow mapBlock;simp only[Sort.ahead];rw[qg,ah rfl,hg];exact⟨_,rfl⟩
def agt(ao:Option Addr)(cap:Nat)(w:World):cpr 201 #[.slice ao 0 cap,.func (.func 151) #[] #[]] w λe w'=>e=.returned (.tuple #[])/\w'=w:=
 AnyF.slices_SortFunc_none Tryz.awp ao cap (.func (.func 151) #[] #[]) w
open Go.RowKit Go.Shelf
def an1(Bm b:Nat)(m K:Bk)(w:World)(hBm:Bm<w.heap.size)(hm:ce w Bm 0 (.map (some b)))(hown:Gv.At kd vdV b m w)(hr:Rl m K)(hl:K.length<10000):
  cpr 149 #[.func (.func 202) #[] #[pz Bm],.func (.func 151) #[] #[]] w λe w'=>∃v',e=.returned v'/\VsAt w'.heap.size v' K w'/\(∀k,v'.ownBlock=some k->w.heap.size<=k/\∃cs,w'.heap[k]?=some (.cells cs 143 (0,0)))/\Bw w w':=by
 have hlm:m.length<10000:=by rw[hr.len];exact hl
 have CC:Hid (1=1->cpr 200 #[.func (.func 202) #[] #[pz Bm]] w λe w'=>∃ao k cap,e=.returned (.slice ao k cap)/\Hid (∃xs,xs.Perm m/\k=xs.length/\w'.ownsRow w.heap.size 143 8 (.slice ao k cap) k (rowC vdc xs)/\Bw w w')):=λ_=>by
  refine(callsIn_wide.1 (ams Fence.wide 10 trivial trivial trivial rfl (by omega) Bm b m w hBm hm hown (by omega))).mono ?_;rintro e w' ⟨v,xs,rfl,h1,h2,h3⟩;rcases h2.2 with⟨rfl,h0⟩|⟨g,cap,cur,rfl,_⟩
  .exact⟨none,0,0,rfl,xs,h1,h0.symm,by rw[h0]at h2;exact h2,h3⟩
  .exact⟨_,_,cap,rfl,xs,h1,rfl,h2,h3⟩
 have CS:Hid (∀ao k cap W,Hid (∃xs,xs.Perm m/\k=xs.length/\W.ownsRow w.heap.size 143 8 (.slice ao k cap) k (rowC vdc xs)/\Bw w W)->cpr 201 #[.slice ao k cap,.func (.func 151) #[] #[]] W λe w'=>e=.returned (.tuple #[])/\Hid (VsAt w'.heap.size (.slice ao k cap) K w'/\(∀i,(Value.slice ao k cap).ownBlock=some i->w.heap.size<=i/\∃cs,w'.heap[i]?=some (.cells cs 143 (0,0)))/\Bw w w')):=λao k cap W h=>by
  obtain⟨xs,h1,rfl,h2,h3⟩:=h.out;have hxl:xs.length=K.length:=h1.length_eq.trans hr.len;rcases h2.2 with⟨e,h0⟩|⟨g,cap',cur,e,hb,_⟩
  .simp only[ku]at e;obtain⟨rfl,_,rfl⟩:=e;have hx0:xs=[]:=lm h0;have hK0:K=[]:=lm (by omega);subst hx0 hK0;refine(agt none 0 W).mono ?_;rintro e w' ⟨rfl,rfl⟩;exact⟨rfl,RwAt.nil _ _ _,λi hi=>by simp[Value.ownBlock]at hi,h3⟩
  .simp only[ku,true_and]at e;obtain⟨rfl,rfl⟩:=e;refine(axm w.heap.size g cap xs W h2 (by omega)).mono ?_;rintro e w' ⟨rfl,L,p1,p2,p3,p4,p5⟩;have hLK:L=K:=hr.sorted (p1.trans h1) p2;subst hLK;refine⟨rfl,p3,λi hi=>?_,h3.trans (p4.below h3.size (λk e=>by rw[e];exact hb))⟩;have:g=i:=by simpa[Value.ownBlock]using hi
   rw[<-this];exact⟨hb,p5⟩
 clear hown hr hl hlm hm hBm;go_enter Tryz.func149,Tryz.ntmps149;go_wp2_with fail;refine(CC.out (by simp)).mono ?_;rintro e w1 ⟨ao,k,cap,rfl,H1⟩;clear CC;go_wp2_with fail;refine(CS.out _ _ _ _ H1).mono ?_;rintro e w2 ⟨rfl,H2⟩;clear CS H1;go_wp2_with fail;go_ret;exact⟨_,rfl,H2.out⟩
def all18{B p hb:Nat}{m K:Bk}{w:World}(h:Bo B p hb m K w)(hl:K.length<10000):
  cpr 71 #[pz p] w λe w'=>∃v',e=.returned v'/\VsAt w'.heap.size v' K w'/\(∀k,v'.ownBlock=some k->w.heap.size<=k/\∃cs,w'.heap[k]?=some (.cells cs 143 (0,0)))/\Bw w w':=by
 have c0:=h.cell;have CV:Hid (1=1->cpr 150 #[.map (some hb)] w λe w'=>e=.returned (.func (.func 202) #[] #[pz w.heap.size])/\w'=w.alloc (.cells #[.map (some hb)] 127)):=λ_=>callsIn_wide.1 (ang Fence.wide 10 trivial rfl (some hb) w);have CS:Hid (1=1->cpr 149 #[.func (.func 202) #[] #[pz w.heap.size],.func (.func 151) #[] #[]] (w.alloc (.cells #[.map (some hb)] 127)) λe w'=>∃v',e=.returned v'/\Hid (VsAt w'.heap.size v' K w'/\(∀k,v'.ownBlock=some k->w.heap.size<=k/\∃cs,w'.heap[k]?=some (.cells cs 143 (0,0)))/\Bw w w')):=λ_=>by have hb':Bw w (w.alloc (.cells #[.map (some hb)] 127)):=al _;refine(an1 w.heap.size hb m K _ (by simp) (Aa (ae w _) rfl) (h.map.on hb') h.rel hl).mono ?_;rintro e w' ⟨v',rfl,h1,h2,h3⟩;refine⟨v',rfl,h1,λk hk=>⟨ak hb'.size (h2 k hk).1,(h2 k hk).2⟩,hb'.trans (h3.mono hb'.size)⟩
 clear h hl;go_enter Tryz.func71,Tryz.ntmps71;go_wp2_with fail;refine(CV.out (by simp)).mono ?_;rintro e w1 ⟨rfl,rfl⟩;clear CV;go_wp2_with fail;refine(CS.out (by simp)).mono ?_;rintro e w2 ⟨v',rfl,H2⟩;clear CS;go_wp2_with fail;go_ret;exact⟨_,rfl,H2.out⟩
open Go.RowKit
def ahr{p hb:Nat}{M:Nat->Prop}{w w':World}{X:(Nat->Prop)->Prop}(hM:∀k,M k↔k=p\/k=hb)(h:∃M',X M'/\Kept (λk=>k=p\/k=hb) w w'/\∀i,M' i->(i=p\/i=hb)\/w.heap.size<=i):∃M',X M'/\Kept M w w'/\∀i,M' i->M i\/w.heap.size<=i:=by
 obtain⟨M',h1,h2,h3⟩:=h;refine⟨M',h1,⟨h2.os,h2.tape,h2.output,h2.size,λk hk hn=>h2.block k hk (λe=>hn ((hM k).2 e))⟩,λi hi=>?_⟩;rcases h3 i hi with e|e
 .exact .inl ((hM i).2 e)
 .exact .inr e
def avv:Ifv BoAt:={
 lt:=λh k hk=>h.lt k hk
 keep:=λh hk hM=>h.keep hk hM
 ok:=λh=>by obtain⟨_,_,h,_⟩:=h;exact h.rel.srt
 new:=Yi
 set:=λv h _ _=>by obtain⟨hb,m,h,hM⟩:=h;refine(aof v h).mono ?_;rintro e w' ⟨he,hx⟩;exact⟨he,ahr hM hx⟩
 done:=λc n h _ _=>by obtain⟨hb,m,h,hM⟩:=h;refine(azd c n h).mono ?_;rintro e w' ⟨he,hx⟩;exact⟨he,ahr hM hx⟩
 retire:=λsp sl L v h hl _ _ hz hv _=>by obtain⟨hb,m,h,hM⟩:=h;refine(aon sp sl L v h hl hz hv).mono ?_;rintro e w' ⟨he,hx⟩;exact⟨he,ahr hM hx⟩
 of:=λc n h _ _=>by obtain⟨hb,m,h,hM⟩:=h;exact of15 c n h
 all:=λh hl=>by obtain⟨hb,m,h,hM⟩:=h;refine(all18 h hl).mono ?_;rintro e w' ⟨v',rfl,h1,h2,h3⟩;exact⟨v',rfl,h1,h2,h3⟩}
