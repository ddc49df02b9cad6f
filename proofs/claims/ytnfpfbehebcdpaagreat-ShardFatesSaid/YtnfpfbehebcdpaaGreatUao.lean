import Derived.Shelf.Strconv.Itoa0
import Derived.Test.YtnfpfbehebcdpaaGreatUzz
import Derived.WalkSpells
import Derived.WalkLawsBesides
import Derived.Deep.RegionLaw
import Derived.Laws.BytesArg
import Derived.ScopeJumps
import Derived.WalkMore
import Derived.Lib.Strings
import Derived.Lib.IndexBytes
import Derived.Test.YtnfpfbehebcdpaaGreatUzAa
set_option maxHeartbeats 0
set_option maxRecDepth 99999
set_option linter.all false
namespace Go.Proofs
open Go.Shelf
def Tryz.afp:Go.Shelf.Ren:=⟨λ|129=>204|n=>n,λ|53=>33|3=>3|4=>4|46=>267|5=>5|9=>9|n=>n,λ|n=>n⟩
def Tryz.lays129:Go.Proofs.Lays.n129 Tryz.prog Tryz.afp:={mixed:=by kernel_rfl,f129:=Tryz.func204.trans (congrArg some (by kernel_rfl)),t3:=Tryz.underlying3,a3:=Tryz.isAgg3,z3:=Tryz.sizeOf3,v3:=Tryz.zeroValue3,t4:=Tryz.underlying4,a4:=Tryz.isAgg4,z4:=Tryz.sizeOf4,v4:=Tryz.zeroValue4,t5:=Tryz.underlying5,a5:=Tryz.isAgg5,z5:=Tryz.sizeOf5,v5:=Tryz.zeroValue5,t9:=Tryz.underlying9,a9:=Tryz.isAgg9,z9:=Tryz.sizeOf9,v9:=Tryz.zeroValue9,t46:=Tryz.underlying267,a46:=Tryz.isAgg267,z46:=Tryz.sizeOf267,v46:=Tryz.zeroValue267,t53:=Tryz.underlying33,a53:=Tryz.isAgg33,z53:=Tryz.sizeOf33,v53:=Tryz.zeroValue33}
def Tryz.bits_Len64(x:Int)(w:World)(h0:0<=x)(h1:x<=18446744073709551615):
  Calls Tryz.prog 204 #[.int .u64 x] w λe w'=>e=.returned (.int .i64 (Lib.bitLen x.toNat))/\w'=w:=Any.bits_Len64 Tryz.lays129 x w h0 h1
end Go.Proofs
namespace Go.Proofs.YtnfpfbehebcdpaaGreat
open Go.RowKit
def info5:(Tryz.prog.info? 5).map (λi=>(i.zero,i.size,i.bytes))=some (some (ub 0),1,1):=by kernel_rfl
def Gm(pb:Nat)(l:Bi)(w:World):Prop:=
 ∃v,w.heap[pb]?=some (.cells #[v] 163 (0,0))/\w.ownsRow (pb+1) 5 1 v l.length (cl l)
structure Gy(pb:Nat)(w w':World):Prop where
 below:Below pb w w'
 other:∀k o,w.heap[k]?=some o->k≠pb->(∀cs fz,o≠ .cells cs 5 fz)->w'.heap[k]?=some o
def Gy.refl(pb:Nat)(w:World):Gy pb w w:=⟨aj _ _,λ_ _ h _ _=>h⟩
def Gy.trans{pb:Nat}{a b c:World}(h:Gy pb a b)(k:Gy pb b c):Gy pb a c:=
 ⟨h.below.trans k.below,λi o ho hne h5=>k.other i o (h.other i o ho hne h5) hne h5⟩
def atz{w:World}{base:Nat}{v:Value}{n:Nat}{xs:List Value}(h:w.ownsRow base 5 1 v n xs){k:Nat}{o:Obj}(ho:w.heap[k]?=some o)(h5:∀cs fz,o≠ .cells cs 5 fz):some k≠v.ownBlock:=by
 rcases h.2 with⟨rfl,_⟩|⟨g,cap,cur,rfl,_,hg,_⟩
 .simp[Value.ownBlock]
 .simp only[Value.ownBlock];intro e;injection e with e;subst e;rw[hg]at ho;injection ho with ho;exact h5 _ _ ho.symm
def ao3{w:World}{pb:Nat}{v:Value}{n:Nat}{xs:List Value}(h:w.ownsRow (pb+1) 5 1 v n xs){k:Nat}(hk:k<=pb):some k≠v.ownBlock:=by intro e;have:=h.lt k e.symm;omega
def Eu{w:World}{base:Nat}{v:Value}{n:Nat}{xs:List Value}(h:w.ownsRow base 5 1 v n xs):∃ao cp,v=.slice ao n cp:=by
 rcases h.2 with⟨rfl,rfl⟩|⟨g,cap,cur,rfl,_⟩
 .exact⟨_,_,rfl⟩
 .exact⟨_,_,rfl⟩
def Il{pb:Nat}{l:Bi}{w wa w1:World}{v:Value}(hv:w.heap[pb]?=some (.cells #[v] 163 (0,0)))(hown:w.ownsRow (pb+1) 5 1 v l.length (cl l))
  (ha:Bw w wa) (hg:wa.grownBy w1 v.ownBlock):w1.heap[pb]?=some (.cells #[v] 163 (0,0)):=by
 have hlt:=gp hv;have:=ha.size;rw[hg.block pb (by omega) (ao3 hown (ai _)),ha.block pb hlt,hv]
def am9{pb:Nat}{l r:Bi}{w wa w1:World}{v v':Value}(hv:w.heap[pb]?=some (.cells #[v] 163 (0,0)))(hown:w.ownsRow (pb+1) 5 1 v l.length (cl l))
  (ha:Bw w wa) (hg:wa.grownBy w1 v.ownBlock) (hown':w1.ownsRow (pb+1) 5 1 v' (l.length+r.length) (cl l++cl r)):
  Gm pb (l++r) (w1.setCell ⟨pb,0,none⟩ v')/\Gy pb w (w1.setCell ⟨pb,0,none⟩ v'):=by
 have hlt:=gp hv;have hs:=ha.size;have h1:=Il hv hown ha hg;refine⟨⟨v',one_setCell h1,?_⟩,⟨?_,?_⟩⟩
 .rw[af,Xq];exact ownsRow_setCell_below hown' (kw _) _
 .exact(((show Below pb w wa from ha.mono (by omega)).grown hg (by omega) (λk hk=>by have:=hown.lt k hk;omega)).setCell (ai _) _)
 .intro k o ho hne h5;have hkl:=gp ho;rw[jl _ _ _ _ hne,hg.block k (by omega) (atz hown ho h5),ha.block k hkl,ho]
def Yh{P:Program}{ops:Array Oper}{o:Oper}{a:Act}{w:World}{K:Act->World->Prop}{Q:Exit->Act->World->Prop}{E:Prop}
  (hg:o.guard=none) (s x:Operand) (t:TypeId) (hop:o.op=.call {callee:=.builtin .append,args:=#[s,x],argTypes:=#[t,t]})
  (base:Nat) (e:TypeId) (i:TypeInfo) (z:Value) (size bytes:Nat) (ht:P.underlying t=some (.slice e)) (hi:P.info? e=some i) (hz:i.zero=some z)
  (hsize:i.size=size) (hby:i.bytes=bytes) (hzs:z.cells.size=size) (hsz:0<size)
  (v:Value) (n:Nat) (xs:List Value) (hs:a.eval s=v) (hown:w.ownsRow base e size v n xs)
  (ad:Addr) (m c:Nat) (news:List Value) (hx:a.eval x=.slice (some ad) m c) (hl:news.length=m*size) (hnews:∀j u,news[j]?=some u->w.cell? (ad.add j)=some u) (h1:∀u∈news,u.oneCell'=true)
  (h63:n+m<=maxLen) (hbytes:(n+m)*bytes<=140737488355328) (hbase:base<=w.heap.size)
  (h:∀v' w',w'.ownsRow base e size v' (n+m) (xs++news)->w.grownBy w' v.ownBlock->K (a.put o.dst v') w'):
  if Region.wanted o (yielded ops a.tmps)=true then Oper.wp P o a w K Q else E:=by
 have hw:Region.wanted o (yielded ops a.tmps)=true:=by simp[Region.wanted,hg]
 rw[ah hw];exact wp_append_own w s x t hop base e i z size bytes ht hi hz hsize hby hzs hsz v n xs hs hown ad m c news hx hl hnews h1 h63 hbytes hbase λv' w' h2 h3 _=>h v' w' h2 h3
def Po(w:World)(u:Value)(e:TypeId):∀j x,[u][j]?=some x->(w.alloc (.cells #[u] e)).cell? ((⟨w.heap.size,0,none⟩:Addr).add j)=some x:=by
 intro j x hj;match j,hj with
 |0,hj=>simp at hj;subst hj;simp[Addr.add]
def Vf(k:IntKind)(n:Int):∀u∈[Value.int k n],u.oneCell'=true:=by intro u hu;simp at hu;subst hu;rfl
def Ur{pb:Nat}{l:Bi}{w wa w1:World}{v v':Value}{X:Int}(hv:w.heap[pb]?=some (.cells #[v] 163 (0,0)))(hown:w.ownsRow (pb+1) 5 1 v l.length (cl l))
  (ha:Bw w wa) (hg:wa.grownBy w1 v.ownBlock) (hown':w1.ownsRow (pb+1) 5 1 v' (l.length+1) (cl l++[Value.int .u8 X])) (k:Nat) (hk:k<256) (hX:X=(k:Int)):
  Gm pb (l++[UInt8.ofNat k]) (w1.setCell ⟨pb,0,none⟩ v')/\Gy pb w (w1.setCell ⟨pb,0,none⟩ v'):=by
 subst hX;exact am9 hv hown ha hg (by rw[arl k hk];exact hown')
def Gm.alloc{pb:Nat}{l:Bi}{w:World}(h:Gm pb l w)(o:Obj):Gm pb l (w.alloc o):=by obtain⟨v,hv,hown⟩:=h;exact⟨v,by rw[uj w o pb (gp hv),hv],hown.alloc o⟩
def Gm.lt{pb:Nat}{l:Bi}{w:World}(h:Gm pb l w):pb<w.heap.size:=by obtain⟨v,hv,_⟩:=h;exact gp hv
def Gy.alloc{pb:Nat}{w0 w:World}(h:Gy pb w0 w)(hp:pb<=w.heap.size)(o:Obj):Gy pb w0 (w.alloc o):=
 ⟨h.below.alloc hp o,λk o' ho hne h5=>by have:=h.other k o' ho hne h5;rw[uj w o k (gp this),this]⟩
def Fg{w:World}{b:Nat}{x y:Value}{t:TypeId}(h:w.heap[b]?=some (.cells #[x,y] t (0,0))):w.cell? ⟨b,0,none⟩=some x/\w.cell? ⟨b,1,none⟩=some y/\w.frozen? ⟨b,0,none⟩=false/\w.frozen? ⟨b,1,none⟩=false:=by refine⟨?_,?_,?_,?_⟩<;>simp[World.cell?,World.frozen?,h]
def Zd(l:Bi):strOfNums (l.map λc=>(c.toNat:Int))=bs l:=by unfold strOfNums bs;congr 1;simp[List.map_map,Function.comp_def]
def Qw{w:World}{base:Nat}{v:Value}{l:Bi}(h:w.ownsRow base 5 1 v l.length (cl l)):(convert 73 9 v).run Tryz.prog w=.ok (sd l) w:=by
 exact axt
def agu(n:Nat)(w:World)(hn:n<18446744073709551616):
  cpr 154 #[uw n] w λe w'=>e=.returned (iw (sz n))/\w=w':=by
 by_cases h:n<=247
 .have h':(n:Int)<=247:=by omega
  go_enter Tryz.func154,Tryz.ntmps154;go_wp2;go_ret;exact⟨by simp[sz,h],rfl⟩
 .have h':¬(n:Int)<=247:=by omega
  have hb:=aud n hn;have hl:=Lib.bitLen_le n 64 (by omega) (by omega);go_enter Tryz.func154,Tryz.ntmps154;go_wp2_with (go_at_call 204;refine(Tryz.bits_Len64 n _ (by omega) (by omega)).mono ?_;rintro e w1 ⟨rfl,h1⟩;have h1:=h1.symm;subst h1);go_ret;refine⟨?_,rfl⟩;have:sz n=1+nb n:=by simp[sz,h]
  rw[this];refine iq Ending.returned (iq (Value.int IntKind.i64) ?_);omega
def shr8(n k q:Nat)(hk:k<8)(hq:q=n/256^k):Op.shift .shr .u64 (n:Int) .i64 (IntKind.i64.wrap (8*(k:Int)))=pure (uw q):=by
 have e:IntKind.i64.wrap (8*(k:Int))=((8*k:Nat):Int):=by simp[IntKind.wrap,IntKind.bits,IntKind.signed];omega
 rw[e,shift_shr_any _ _ _ _ (by omega),hq];have h2:min ((8*k:Nat):Int).toNat IntKind.u64.bits=8*k:=by simp[IntKind.bits];omega
 rw[h2];have h3:(2:Int)^(8*k)=((256^k:Nat):Int):=by rw[Int.pow_mul,Int.natCast_pow];rfl
 rw[h3,<-Int.natCast_ediv]
def abx(pb:Nat)(l:Bi)(n:Nat)(w:World)(hn:n<18446744073709551616)(hw:Gm pb l w)(hl:l.length+9<=140737488355328):
  cpr 74 #[pz pb,uw n] w λe w'=>e=.returned (.tuple #[])/\Gm pb (l++Am n) w'/\Gy pb w w':=by
 obtain⟨i0,hi,hz0,hz1,hz2⟩:=qc info5;obtain⟨v,hv,hown⟩:=hw;have hlt:=gp hv;have hc:=qp hv;have hf:=free_of_one hv;have HV:Hid (w.heap[pb]?=some (.cells #[v] 163 (0,0))/\w.ownsRow (pb+1) 5 1 v l.length (cl l)):=⟨hv,hown⟩;have hca:∀o,(w.alloc o).cell? ⟨pb,0,none⟩=some v:=λo=>by rw[World.cell?_alloc_lt (h:=hlt)];exact hc
 clear hv hown;by_cases h:n<=247
 .have hs:sz n=1:=by simp[sz,h]
  go_enter Tryz.func74,Tryz.ntmps74;go_wp2_with (first
   |(go_at_call 154;refine(agu n _ hn).mono ?_;rw[hs];rintro e w1 ⟨rfl,rfl⟩)
   |(at_builtin;(refine yw _ rfl (.tmp 16) (.tmp 19) 73 rfl (pb+1) 5 i0 (ub 0) 1 1 Tryz.underlying73 hi hz0 hz1 hz2 rfl (by decide) v l.length (cl l) rfl (HV.out.2.alloc _) ⟨w.heap.size,0,none⟩ 1 1 [ub _] rfl rfl (Po _ _ _) (Vf _ _) (by unfold maxLen;omega) (by omega) (by simp;omega) ?_;intro v' w1 hown' hgrow _;obtain⟨ao,cp,hv'⟩:=Eu hown';subst hv';have HG:Hid _:=jq hgrow hown';have c1:=qp (Il HV.out.1 HV.out.2 (al _) hgrow);have f1:=free_of_one (Il HV.out.1 HV.out.2 (al _) hgrow);clear hown' hgrow)))
  (try simp only[Exit.inBlock,Exit.then]);refine az (results_none rfl _ _ _) rfl ?_
  have hnf:Am n=[UInt8.ofNat n]:=by simp[Am,h]
  rw[hnf];refine⟨rfl,?_⟩;exact Ur HV.out.1 HV.out.2 (al _) HG.out.1 HG.out.2 n (by omega) (by omega)
 .have hs:sz n=1+nb n:=by simp[sz,h]
  have hk:nb n<=8:=ahq hn;have hk1:1<=nb n:=by rw[Py (by omega)];omega
  have ht:(1+(nb n:Int)-1==0)=false:=by simp;omega
  go_enter Tryz.func74,Tryz.ntmps74;go_wp2_with (first
   |(go_at_call 154;refine(agu n _ hn).mono ?_;rw[hs];rintro e w1 ⟨rfl,rfl⟩)
   |(at_builtin;(refine yw _ rfl (.tmp 27) (.tmp 31) 73 rfl (pb+1) 5 i0 (ub 0) 1 1 Tryz.underlying73 hi hz0 hz1 hz2 rfl (by decide) v l.length (cl l) rfl (HV.out.2.alloc _) ⟨w.heap.size,0,none⟩ 1 1 [ub _] rfl rfl (Po _ _ _) (Vf _ _) (by unfold maxLen;omega) (by omega) (by simp;omega) ?_;intro v' w1 hown' hgrow _;obtain⟨ao,cp,hv'⟩:=Eu hown';subst hv';have HG:Hid _:=jq hgrow hown';have c1:=qp (Il HV.out.1 HV.out.2 (al _) hgrow);have f1:=free_of_one (Il HV.out.1 HV.out.2 (al _) hgrow);clear hown' hgrow)))
  have R:=Ur HV.out.1 HV.out.2 (al _) HG.out.1 HG.out.2 (247+nb n) (by omega) (by omega);clear HG HV c1 f1 hc hf hca;generalize World.setCell _ _ _=W at R|-;go_loopw [4] (λf wr=>∃k:Nat,k<=nb n/\f=iw k/\Gm pb (l++[UInt8.ofNat (247+nb n)]++dg (n/256^k)) wr/\Gy pb w wr) (λf _=>(intOf f).toNat)
  case atStart=>exact⟨nb n,ai _,by go_num,by rw[azf,jo];exact R.1,R.2⟩
  case round=>
   obtain⟨k,hkn,rfl,hwr,hkept⟩:=hrel;obtain⟨L,hL⟩:∃L,L=l++[UInt8.ofNat (247+nb n)]++dg (n/256^k):=⟨_,rfl⟩;rw[<-hL]at hwr;have HL:Hid (L=l++[UInt8.ofNat (247+nb n)]++dg (n/256^k)):=hL;clear hL;obtain⟨v,hv,hown⟩:=hwr;have HV:Hid (wr.heap[pb]?=some (.cells #[v] 163 (0,0))/\wr.ownsRow (pb+1) 5 1 v L.length (cl L)/\Gy pb w wr):=⟨hv,hown,hkept⟩;have hltr:=gp hv;have hc:=qp hv;have hf:=free_of_one hv;have hca:∀o,(wr.alloc o).cell? ⟨pb,0,none⟩=some v:=λo=>by rw[World.cell?_alloc_lt (h:=hltr)];exact hc
   clear hv hown hkept;cases k with
   |zero=>
    go_wp2;go_end0
    refine⟨rfl,?_⟩;have hnf:Am n=[UInt8.ofNat (247+nb n)]++dg n:=by simp[Am,h]
    have hL:=HL.out;simp only[Nat.pow_zero,Nat.div_one]at hL;rw[hnf,<-gq,<-hL];exact⟨⟨v,HV.out.1,HV.out.2.1⟩,HV.out.2.2⟩
   |succ k=>
    have hlen:L.length<=l.length+8:=by have h1:=iq List.length (akh n k (by omega));have h2:=auc (Nat.div_le_self n (256^k));rw[af,Tf]at h1;rw[HL.out];simp only[af,bg,o9]at h1|-;omega
    obtain⟨q,hq⟩:∃q:Nat,q=n/256^k:=⟨_,rfl⟩;have hsh:Op.shift .shr .u64 (n:Int) .i64 (IntKind.i64.wrap (8*(k:Int)))=pure (uw q):=shr8 n k q (by omega) hq;have HQ:Hid (q=n/256^k):=hq;clear hq;go_wp2_with fail
    go_region_law (refine Yh rfl (.tmp 43) (.tmp 49) 73 rfl (pb+1) 5 i0 (ub 0) 1 1 Tryz.underlying73 hi hz0 hz1 hz2 rfl (by decide) v L.length (cl L) (by simp[Act.eval]) (HV.out.2.1.drew.alloc _) ⟨wr.heap.size,0,none⟩ 1 1 [ub _] (by simp[Act.eval]) rfl (Po _ _ _) (Vf _ _) (by unfold maxLen;omega) (by omega) (by simp;omega) ?_;intro v' w1 hown' hgrow;obtain⟨ao',cp',hv'⟩:=Eu hown';subst hv';have HG:Hid _:=jq hgrow hown';have c1:=qp (Il HV.out.1 HV.out.2.1 (((aj _ _).drew).alloc (ai _) _) hgrow);have f1:=free_of_one (Il HV.out.1 HV.out.2.1 (((aj _ _).drew).alloc (ai _) _) hgrow);clear hown' hgrow)
    all_goals (have R:=Ur HV.out.1 HV.out.2.1 (((aj _ _).drew).alloc (ai _) _) HG.out.1 HG.out.2 (q%256) (by omega) (by simp[IntKind.wrap,IntKind.bits,IntKind.signed]))
    all_goals clear HG c1 f1
    all_goals go_wp2
    all_goals (go_roundw;(case rel=>exact⟨k,by omega,by go_num,by rw[akh n k (by omega),<-HQ.out,<-gq,<-HL.out];exact R.1,HV.out.2.2.trans R.2⟩);(case measure=>simp[intOf]))
def ant(pb:Nat)(l:Bi)(s:ByteArray)(w:World)(hw:Gm pb l w)(hl:l.length+9+s.size<=140737488355328):
  cpr 156 #[pz pb,.string s] w λe w'=>e=.returned (.tuple #[])/\Gm pb (l++(Am s.size++s.data.toList)) w'/\Gy pb w w':=by
 obtain⟨i0,hi,hz0,hz1,hz2⟩:=qc info5;have hnl:=Eg s.size;have hsl:=aew (n:=s.size) (by omega);have HW:Hid (Gm pb l w):=hw;clear hw;go_enter Tryz.func156,Tryz.ntmps156;go_wp2_with (first
  |(go_at_call 74;refine(abx pb l s.size _ (by omega) HW.out (by omega)).mono ?_;rintro e w1 ⟨rfl,hw1,hk1⟩;have HK:Hid (Gy pb w w1):=hk1;clear hk1;obtain⟨v,hv,hown⟩:=hw1;have HV:Hid (w1.heap[pb]?=some (.cells #[v] 163 (0,0))/\w1.ownsRow (pb+1) 5 1 v (l++Am s.size).length (cl (l++Am s.size))):=⟨hv,hown⟩;have hc:=qp hv;have hlt:=gp hv;clear hv hown)
  |(at_builtin;refine Lib.wpList_append_own_string _ rfl (.tmp 15) (.tmp 16) 73 9 rfl (pb+1) 5 i0 Tryz.underlying73 Tryz.underlying9 hi hz0 hz1 hz2 v (l++Am s.size).length (cl (l++Am s.size)) rfl HV.out.2 s rfl (by rw[af];unfold maxLen;omega) (by rw[af];omega) (by omega) ?_;intro v' w2 hown' hgrow _;obtain⟨ao,cp,hv'⟩:=Eu hown';subst hv';have HG:Hid _:=jq hgrow hown';have c1:=qp (Il HV.out.1 HV.out.2 (aj _ _) hgrow);have f1:=free_of_one (Il HV.out.1 HV.out.2 (aj _ _) hgrow);clear hown' hgrow))
 go_end0
 have R:=am9 (r:=s.data.toList) HV.out.1 HV.out.2 (aj _ _) HG.out.1 HG.out.2;rw[gq]at R;simp only[af,hnl]at R;exact⟨rfl,R.1,HK.out.trans R.2⟩
def D7(b:Bool):Bi:=[if b then 1 else 0]
def aqs(pb:Nat)(l:Bi)(b:Bool)(w:World)(hw:Gm pb l w)(hl:l.length+1<=140737488355328):
  cpr 157 #[pz pb,.bool b] w λe w'=>e=.returned (.tuple #[])/\Gm pb (l++D7 b) w'/\Gy pb w w':=by
 obtain⟨i0,hi,hz0,hz1,hz2⟩:=qc info5;obtain⟨v,hv,hown⟩:=hw;have hlt:=gp hv;have hc:=qp hv;have HV:Hid (w.heap[pb]?=some (.cells #[v] 163 (0,0))/\w.ownsRow (pb+1) 5 1 v l.length (cl l)):=⟨hv,hown⟩;have hca:∀o,(w.alloc o).cell? ⟨pb,0,none⟩=some v:=λo=>by rw[World.cell?_alloc_lt (h:=hlt)];exact hc
 clear hv hown;cases b
 .go_enter Tryz.func157,Tryz.ntmps157;go_wp2_with (at_builtin;refine yw _ rfl _ _ 73 rfl (pb+1) 5 i0 (ub 0) 1 1 Tryz.underlying73 hi hz0 hz1 hz2 rfl (by decide) v l.length (cl l) rfl (HV.out.2.alloc _) ⟨w.heap.size,0,none⟩ 1 1 [ub _] rfl rfl (Po _ _ _) (Vf _ _) (by unfold maxLen;omega) (by omega) (by simp;omega) ?_;intro v' w1 hown' hgrow _;obtain⟨ao,cp,hv'⟩:=Eu hown';subst hv';have HG:Hid _:=jq hgrow hown';have c1:=qp (Il HV.out.1 HV.out.2 (al _) hgrow);have f1:=free_of_one (Il HV.out.1 HV.out.2 (al _) hgrow);clear hown' hgrow);go_end0
  exact⟨rfl,Ur HV.out.1 HV.out.2 (al _) HG.out.1 HG.out.2 0 (by omega) (by omega)⟩
 .go_enter Tryz.func157,Tryz.ntmps157;go_wp2_with (at_builtin;refine yw _ rfl _ _ 73 rfl (pb+1) 5 i0 (ub 0) 1 1 Tryz.underlying73 hi hz0 hz1 hz2 rfl (by decide) v l.length (cl l) rfl (HV.out.2.alloc _) ⟨w.heap.size,0,none⟩ 1 1 [ub _] rfl rfl (Po _ _ _) (Vf _ _) (by unfold maxLen;omega) (by omega) (by simp;omega) ?_;intro v' w1 hown' hgrow _;obtain⟨ao,cp,hv'⟩:=Eu hown';subst hv';have HG:Hid _:=jq hgrow hown';have c1:=qp (Il HV.out.1 HV.out.2 (al _) hgrow);have f1:=free_of_one (Il HV.out.1 HV.out.2 (al _) hgrow);clear hown' hgrow);go_end0
  exact⟨rfl,Ur HV.out.1 HV.out.2 (al _) HG.out.1 HG.out.2 1 (by omega) (by omega)⟩
def aeh(pb:Nat)(l:Bi)(w:World)(hw:Gm pb l w):
  cpr 77 #[pz pb] w λe w'=>e=.returned (sd l)/\w=w':=by
 obtain⟨v,hv,hown⟩:=hw;have hc:=qp hv;have hcv:=Qw hown;obtain⟨ao,cp,rfl⟩:=Eu hown;clear hv hown;go_enter Tryz.func77,Tryz.ntmps77;go_wp2;go_ret;exact⟨rfl,rfl⟩
def A7(p q:Nat):Bi:=Am p++Am q
def asq(pb:Nat)(l:Bi)(p q:Nat)(w:World)(hp:p<18446744073709551616)(hq:q<4294967296)(hw:Gm pb l w)(hl:l.length+18<=140737488355328):
  cpr 155 #[pz pb,.agg #[uw p,ui q]] w λe w'=>e=.returned (.tuple #[])/\Gm pb (l++A7 p q) w'/\Gy pb w w':=by
 have hnl:=Eg p;have hsl:=aew hp;have HW:Hid (Gm pb l w):=hw;have hlt:=hw.lt;clear hw;go_enter Tryz.func155,Tryz.ntmps155;go_wp2_with fail;refine(abx pb l p _ hp (HW.out.alloc _) (by omega)).mono ?_;rintro e w1 ⟨rfl,hw1,hk1⟩;have hb1:=hk1.other w.heap.size _ (ae w _) (by omega) (by intro cs fz;simp);obtain⟨_,b1,_,_⟩:=Fg hb1;have HK:Hid (Gm pb (l++Am p) w1/\Gy pb w w1):=⟨hw1,((Gy.refl pb w).alloc (by omega) _).trans hk1⟩;clear hw1 hk1 hb1;go_wp2_with fail;refine(abx pb (l++Am p) q _ (by omega) HK.out.1 (by rw[af];omega)).mono ?_;rintro e w2 ⟨rfl,hw2,hk2⟩;have HK2:Hid (Gm pb (l++Am p++Am q) w2/\Gy pb w w2):=⟨hw2,HK.out.2.trans hk2⟩;clear hw2 hk2;go_wp2;go_end0
 rw[A7,<-gq];exact⟨rfl,HK2.out.1,HK2.out.2⟩
def Ci:Bi->Nat×Nat×Nat
 |[]=>(0,0,4)
 |b::r=>if b.toNat<=247 then(b.toNat,1,0)else
   if r.length<b.toNat-247 then(0,0,4)else
   if 1+(b.toNat-247)=sz (vl (r.take (b.toNat-247)))then(vl (r.take (b.toNat-247)),1+(b.toNat-247),0)else(0,0,2)
def Ef(J:Nat->Act->World->Prop)(Q:Exit->Act->World->Prop):Exit->Act->World->Prop
 |.goto l,a,w=>J l a w
 |e,a,w=>Q e a w
def Io{P:Program}{a:Act}{w:World}{Q:Exit->Act->World->Prop}{c:Code}(J:Nat->Act->World->Prop)(μ:Nat->Act->World->Nat)
  (pass:∀l a w,J l a w->∃rest,findLabel c l=some (Code.skip.seq rest)/\rest.wp P (Ef (λl' a' w'=>J l' a' w'/\μ l' a' w'<μ l a w) Q) a w)
  (first:(∀l a w rest,findLabel c l=some (Code.skip.seq rest)->J l a w->rest.wp P (Ef J Q) a w)->c.wp P (Ef J Q) a w):(Code.scope c).wp P Q a w:=by
 exact zn
def ajl(N c:Nat)(hN:N<72057594037927936)(hc:c<256):bits BinOp.or IntKind.u64 ((N:Int)*256) (c:Int)=((N*256+c:Nat):Int):=by
 have h:=u64_or_nat (N*256) c (by omega) (by omega);have e:N*256 ||| c=N*256+c:=by have:=Nat.shiftLeft_add_eq_or_of_lt (i:=8) (b:=c) (by omega) N;rw[Nat.shiftLeft_eq]at this;exact this.symm
 rw[e]at h;rw[<-h];rfl
def akr(c:Nat)(hc:c<256):IntKind.u64.wrap (c:Int)=c:=by simp[IntKind.wrap,IntKind.bits,IntKind.signed];omega
def afy(s:ByteArray)(t:Nat)(h:t<s.size):s.data.toList[t]?=some (s[t]'h):=by rw[gu];exact⟨by simpa using h,by simp[ByteArray.getElem_eq_getElem_data]⟩
def ads{s:ByteArray}(h:0<s.size):∃r,s.data.toList=(s[0]'h)::r/\r.length=s.size-1:=by
 have h1:=afy s 0 h;have h2:s.data.toList.length=s.size:=by simp
 cases e:s.data.toList with
 |nil=>rw[e]at h1;simp at h1
 |cons b r=>
  rw[e]at h1 h2;simp at h1;exact⟨r,by rw[h1],by simp at h2;omega⟩
def Gqf(s:ByteArray):s.toList=s.data.toList:=Lib.toList_data s
def aje(s:ByteArray)(h0:0<s.size)(h:247<(s.data.toList.headD 0).toNat):Ci s.data.toList=
  if s.size-1<(s.data.toList.headD 0).toNat-247 then(0,0,4)else
  if 1+((s.data.toList.headD 0).toNat-247)=sz (vl ((s.data.toList.drop 1).take ((s.data.toList.headD 0).toNat-247)))then
   (vl ((s.data.toList.drop 1).take ((s.data.toList.headD 0).toNat-247)),1+((s.data.toList.headD 0).toNat-247),0)else(0,0,2):=by
 obtain⟨r,hr,hl⟩:=ads h0;rw[hr]at h|-;rw[List.headD_cons]at h;rw[Ci,ag (show¬(s[0]'h0).toNat<=247 by omega),hl];rfl
def ad3(s:ByteArray)(h:0<s.size):s.data.toList.headD 0=s[0]'h:=by obtain⟨r,hr,_⟩:=ads h;rw[hr];rfl
def aip(s:ByteArray)(t:Nat)(h1:1<=t)(h:t<s.size):vl ((s.data.toList.drop 1).take t)=vl ((s.data.toList.drop 1).take (t-1))*256+(s[t]'h).toNat:=by
 obtain⟨k,rfl⟩:∃k,t=k+1:=⟨t-1,by omega⟩;have hg:(s.data.toList.drop 1)[k]?=some (s[k+1]'h):=by rw[List.getElem?_drop,Nat.add_comm 1 k];exact afy s _ h
 rw[xq,hg,Nat.add_sub_cancel];exact Ut _ _
def ane(s:ByteArray)(t:Nat)(ht:t<=8):vl ((s.data.toList.drop 1).take (t-1))<72057594037927936:=by
 have h:=anf ((s.data.toList.drop 1).take (t-1));have hl:((s.data.toList.drop 1).take (t-1)).length<=7:=by rw[ig];omega
 have:256^((s.data.toList.drop 1).take (t-1)).length<=256^7:=Nat.pow_le_pow_right (by decide) hl;omega
def ar1(s:ByteArray)(t:Nat)(a:Act):Prop:=
 ∃u6 u7 u8 u9 u10 u11 u12 u13 u14 u15 u16 u17 u18 u19 u20 u21 u22 u23 u24 u25 u26 u27 u28 u29 u30 u31 u32 u33 u34 u35 u36 u37 u38 u39 u40 u41 u42:Value,a={tmps:=#[.string s,undef,uw (vl ((s.data.toList.drop 1).take (t-1))),iw t,iw 0,iw (((s.data.toList.headD 0).toNat:Int)-246),u6,u7,u8,u9,u10,u11,u12,u13,u14,u15,u16,u17,u18,u19,u20,u21,u22,u23,u24,u25,u26,u27,u28,u29,u30,u31,u32,u33,u34,u35,u36,u37,u38,u39,u40,u41,u42],defers:=[]}
def aw2(s:ByteArray)(a:Act):Prop:=
 ∃u2 u3 u4 u5 u6 u7 u8 u9 u10 u11 u12 u13 u14 u15 u16 u17 u18 u19 u20 u21 u22 u23 u24 u25 u26 u27 u28 u29 u30 u31 u32 u33 u34 u35 u36 u37 u38 u39 u40 u41 u42:Value,a={tmps:=#[.string s,undef,u2,u3,u4,u5,u6,u7,u8,u9,u10,u11,u12,u13,u14,u15,u16,u17,u18,u19,u20,u21,u22,u23,u24,u25,u26,u27,u28,u29,u30,u31,u32,u33,u34,u35,u36,u37,u38,u39,u40,u41,u42],defers:=[]}
def ars{s:ByteArray}{t:Nat}{x2 x3 x5 u6 u7 u8 u9 u10 u11 u12 u13 u14 u15 u16 u17 u18 u19 u20 u21 u22 u23 u24 u25 u26 u27 u28 u29 u30 u31 u32 u33 u34 u35 u36 u37 u38 u39 u40 u41 u42:Value}(h2:x2=uw (vl ((s.data.toList.drop 1).take (t-1))))(h3:x3=iw t)(h5:x5=iw (((s.data.toList.headD 0).toNat:Int)-246)):
  ar1 s t {tmps:=#[.string s,undef,x2,x3,iw 0,x5,u6,u7,u8,u9,u10,u11,u12,u13,u14,u15,u16,u17,u18,u19,u20,u21,u22,u23,u24,u25,u26,u27,u28,u29,u30,u31,u32,u33,u34,u35,u36,u37,u38,u39,u40,u41,u42],defers:=[]}:=by
 subst h2;subst h3;subst h5;exact⟨u6,u7,u8,u9,u10,u11,u12,u13,u14,u15,u16,u17,u18,u19,u20,u21,u22,u23,u24,u25,u26,u27,u28,u29,u30,u31,u32,u33,u34,u35,u36,u37,u38,u39,u40,u41,u42,rfl⟩
def aw1{s:ByteArray}{u2 u3 u4 u5 u6 u7 u8 u9 u10 u11 u12 u13 u14 u15 u16 u17 u18 u19 u20 u21 u22 u23 u24 u25 u26 u27 u28 u29 u30 u31 u32 u33 u34 u35 u36 u37 u38 u39 u40 u41 u42:Value}:aw2 s {tmps:=#[.string s,undef,u2,u3,u4,u5,u6,u7,u8,u9,u10,u11,u12,u13,u14,u15,u16,u17,u18,u19,u20,u21,u22,u23,u24,u25,u26,u27,u28,u29,u30,u31,u32,u33,u34,u35,u36,u37,u38,u39,u40,u41,u42],defers:=[]}:=⟨u2,u3,u4,u5,u6,u7,u8,u9,u10,u11,u12,u13,u14,u15,u16,u17,u18,u19,u20,u21,u22,u23,u24,u25,u26,u27,u28,u29,u30,u31,u32,u33,u34,u35,u36,u37,u38,u39,u40,u41,u42,rfl⟩
def au9(s:ByteArray)(w:World)(hs:s.size<9223372036854775808):
  cpr 96 #[.string s] w λe w'=>e=.returned (.tuple #[uw (Ci s.data.toList).1,iw (Ci s.data.toList).2.1,iw (Ci s.data.toList).2.2])/\w=w':=by
 go_enter Tryz.func96,Tryz.ntmps96;go_wp2;refine Io (λl a' w'=>w=w'/\(l=0/\Ci s.data.toList=(0,0,4)/\aw2 s a'\/l=1/\0<s.size/\247<(s.data.toList.headD 0).toNat/\∃t,1<=t/\t<(s.data.toList.headD 0).toNat-246/\t<=s.size/\ar1 s t a')) (λl a' _=>if l=0 then 0 else 1000-(intOf (a'.tmps.getD 3 undef)).toNat) ?_ ?_
 .rintro l a' w' ⟨rfl,⟨rfl,hc,hat⟩|⟨rfl,h0,hb,t,ht1,htw,hts,hat⟩⟩
  .obtain⟨u2,u3,u4,u5,u6,u7,u8,u9,u10,u11,u12,u13,u14,u15,u16,u17,u18,u19,u20,u21,u22,u23,u24,u25,u26,u27,u28,u29,u30,u31,u32,u33,u34,u35,u36,u37,u38,u39,u40,u41,u42,rfl⟩:=hat;refine⟨_,rfl,?_⟩;go_wp2;simp only[Ef]
   go_ret3
   rw[hc];exact⟨rfl,rfl⟩
  .obtain⟨u6,u7,u8,u9,u10,u11,u12,u13,u14,u15,u16,u17,u18,u19,u20,u21,u22,u23,u24,u25,u26,u27,u28,u29,u30,u31,u32,u33,u34,u35,u36,u37,u38,u39,u40,u41,u42,rfl⟩:=hat;refine⟨_,rfl,?_⟩;obtain⟨N,hN⟩:∃N:Nat,N=vl ((s.data.toList.drop 1).take (t-1)):=⟨_,rfl⟩;obtain⟨B,hB⟩:∃B:Nat,B=(s.data.toList.headD 0).toNat:=⟨_,rfl⟩;rw[<-hN,<-hB];rw[<-hB]at hb htw;have hB256:B<256:=by rw[hB];exact Tj _
   have hN56:N<72057594037927936:=by rw[hN];exact ane s t (by omega)
   have HN:Hid (N=vl ((s.data.toList.drop 1).take (t-1))/\B=(s.data.toList.headD 0).toNat):=⟨hN,hB⟩;clear hN hB;by_cases hte:t=s.size
   .have hte':((t:Int)==s.size)=true:=by simp;omega
    have hcut:Ci s.data.toList=(0,0,4):=by rw[aje s h0 (by rw[<-HN.out.2];exact hb),<-HN.out.2,ah (by omega)]
    have HC:Hid (Ci s.data.toList=(0,0,4)):=hcut;clear hcut;go_wp2
    go_step3
    exact⟨⟨rfl,.inl ⟨rfl,HC.out,aw1⟩⟩,by simp[intOf];omega⟩
   .have hte':((t:Int)==s.size)=false:=by simp;omega
    have hlt:t<s.size:=by omega
    have hc:=Tj (s[t]'hlt);obtain⟨M,hM⟩:∃M:Nat,M=N*256+(s[t]'hlt).toNat:=⟨_,rfl⟩;have hor:bits BinOp.or IntKind.u64 ((N:Int)*256) (IntKind.u64.wrap ((s[t]'hlt).toNat:Int))=(M:Int):=by rw[akr _ hc,hM];exact ajl N _ hN56 hc
    have hor2:bits BinOp.or IntKind.u64 ((N:Int)*256) ((s[t]'hlt).toNat:Int)=(M:Int):=by rw[hM];exact ajl N _ hN56 hc
    have HM:Hid (M=N*256+(s[t]'hlt).toNat):=hM;clear hM hc;by_cases hl:t+1<B-246
    .have hl':(t:Int)+1<(B:Int)-246:=by omega
     go_wp2_with fail
     go_step3
     refine⟨⟨rfl,.inr ⟨rfl,h0,hb,t+1,by omega,hl,by omega,ars ?_ (by go_num) (by rw[<-HN.out.2])⟩⟩,?_⟩
     .rw[Nat.add_sub_cancel,aip s t ht1 hlt,<-HN.out.1,<-HM.out]
     .simp[intOf];omega
    .have hl':¬(t:Int)+1<(B:Int)-246:=by omega
     have hML:M=vl ((s.data.toList.drop 1).take (B-247)):=by rw[HM.out,HN.out.1,<-aip s t ht1 hlt];congr 2;omega
     have hrd:Ci s.data.toList=if 1+(B-247)=sz M then(M,1+(B-247),0)else(0,0,2):=by rw[aje s h0 (by rw[<-HN.out.2];exact hb),<-HN.out.2,ag (by omega),<-hML]
     have hM64:M<18446744073709551616:=by rw[HM.out];have:=Tj (s[t]'hlt);omega
     have HR:Hid (Ci s.data.toList=if 1+(B-247)=sz M then(M,1+(B-247),0)else(0,0,2)):=hrd;clear hrd hML;go_wp2_with fail;refine(agu M _ hM64).mono ?_;rintro e w1 ⟨rfl,rfl⟩;by_cases hz:1+(B-247)=sz M
     .have hz':((B:Int)-246 != (sz M:Int))=false:=by simp;omega
      go_wp2;simp only[Ef]
      go_ret3
      rw[HR.out,ah hz];refine⟨?_,rfl⟩;have e1:(t:Int)+1=((1+(B-247):Nat):Int):=by omega
      show Ending.returned (.tuple #[uw M,iw ((t:Int)+1),iw 0])=_;rw[e1];rfl
     .have hz':((B:Int)-246 != (sz M:Int))=true:=by simp;omega
      go_wp2;simp only[Ef]
      go_ret3
      rw[HR.out,ag hz];exact⟨rfl,rfl⟩
 .intro hp;by_cases h0:s.size=0
  .have hd:s.data.toList=[]:=qo.1 (by simpa using h0);have hE:s.toList.isEmpty=true:=by rw[Gqf,hd];rfl
   have HC:Hid (Ci s.data.toList=(0,0,4)):=by rw[hd];rfl
   clear hp hd;go_wp2
   go_step3
   exact⟨rfl,.inl ⟨rfl,HC.out,aw1⟩⟩
  .have h0':0<s.size:=by omega
   obtain⟨r,hr,hrl⟩:=ads h0';have hE:s.toList.isEmpty=false:=by rw[Gqf,hr];rfl
   have hb:((s[0]'h0').toNat:Int)<256:=by have:=Tj (s[0]'h0');omega
   have HP:Hid _:=hp;have HRL:Hid (s.data.toList=(s[0]'h0')::r):=hr;clear hp hr;by_cases h247:((s[0]'h0').toNat:Int)<=247
   .go_wp2;simp only[Ef]
    go_ret3
    rw[HRL.out,Ci,ah (by omega)];exact⟨rfl,rfl⟩
   .have h248:(247:Int)<((s[0]'h0').toNat:Int):=by omega
    go_wp2
    go_step3
    rename_i K hK;refine hK _ _ ?_;refine HP.out 1 _ _ _ rfl ⟨rfl,.inr ⟨rfl,h0',?_,1,ai _,?_,by omega,ars rfl (by go_num) ?_⟩⟩
    .rw[ad3 s h0'];omega
    .rw[ad3 s h0'];omega
    .rw[ad3 s h0'];congr 1;omega
structure St where
 l:Bi
 e:Nat
def RdAt(T:Nat)(rb:Nat)(st:St)(w:World):Prop:=w.heap[rb]?=some (.cells #[sd st.l,iw st.e] T (0,0))
structure Ff(rb:Nat)(w w':World):Prop where
 os:w'.os=w.os
 tape:w'.tape=w.tape
 output:w'.output=w.output
 size:w.heap.size<=w'.heap.size
 block:∀k,k<w.heap.size->k≠rb->w'.heap[k]?=w.heap[k]?
def Ff.refl(rb:Nat)(w:World):Ff rb w w:=⟨rfl,rfl,rfl,ai _,λ_ _ _=>rfl⟩
def Ff.trans{rb:Nat}{a b c:World}(h:Ff rb a b)(k:Ff rb b c):Ff rb a c:=
 ⟨k.os.trans h.os,k.tape.trans h.tape,k.output.trans h.output,ak h.size k.size,λi hi hne=>(k.block i (iy hi h.size) hne).trans (h.block i hi hne)⟩
def Ff.setCell{rb:Nat}{a w:World}(h:Ff rb a w)(i:Nat)(v:Value):Ff rb a (w.setCell ⟨rb,i,none⟩ v):=
 ⟨h.os,h.tape,h.output,by rw[show(w.setCell ⟨rb,i,none⟩ v).heap.size=w.heap.size by simp[World.setCell]];exact h.size,λk hk hne=>(jl _ _ _ _ hne).trans (h.block k hk hne)⟩
def Ff.alloc{rb:Nat}{a w:World}(h:Ff rb a w)(o:Obj):Ff rb a (w.alloc o):=
 ⟨h.os,h.tape,h.output,by have:=h.size;simp;omega,λk hk hne=>(uj w o k (iy hk h.size)).trans (h.block k hk hne)⟩
def Ff.below{rb B:Nat}{a w:World}(h:Ff rb a w)(hB:B<=rb)(hs:B<=a.heap.size):Below B a w:=
 ⟨h.os,h.tape,h.output,h.size,λk hk=>h.block k (by omega) (by omega)⟩
def Ko{w:World}{b:Nat}{x y u:Value}{t:TypeId}(h:w.heap[b]?=some (.cells #[x,y] t (0,0))):(w.setCell ⟨b,0,none⟩ u).heap[b]?=some (.cells #[u,y] t (0,0)):=by have:=heap_setCell_same w b 0 _ t u h;simpa using this
def Za{w:World}{b:Nat}{x y u:Value}{t:TypeId}(h:w.heap[b]?=some (.cells #[x,y] t (0,0))):(w.setCell ⟨b,1,none⟩ u).heap[b]?=some (.cells #[x,u] t (0,0)):=by have:=heap_setCell_same w b 1 _ t u h;simpa using this
def rdNum(most:Nat)(st:St):Nat×St:=
 if st.e≠0 then(0,st)else
 if(Ci st.l).2.2≠0 then(0,⟨[],(Ci st.l).2.2⟩)else
 if most<(Ci st.l).1 then(0,⟨[],3⟩)else((Ci st.l).1,⟨st.l.drop (Ci st.l).2.1,0⟩)
def aha(l:Bi):(Ci l).2.1<=l.length:=by
 cases l with
 |nil=>exact eu _
 |cons b r=>
  rw[Ci];have hlc:(b::r).length=r.length+1:=rfl;rw[hlc];by_cases h:b.toNat<=247
  .rw[ah h];simp
  .rw[ag h];by_cases h2:r.length<b.toNat-247
   .rw[ah h2];simp
   .rw[ag h2];split
    .simp;omega
    .simp
def ag9(l:Bi):(Ci l).1<18446744073709551616/\(Ci l).2.2<=4:=by
 cases l with
 |nil=>exact⟨by decide,by decide⟩
 |cons b r=>
  rw[Ci];have hb:=Tj b;by_cases h:b.toNat<=247
  .rw[ah h];exact⟨by show b.toNat<_;omega,by show 0<=4;omega⟩
  .rw[ag h];by_cases h2:r.length<b.toNat-247
   .rw[ah h2];exact⟨by decide,by decide⟩
   .rw[ag h2];split
    .refine⟨?_,by show 0<=4;omega⟩;have h3:=anf (r.take (b.toNat-247));have h4:(r.take (b.toNat-247)).length<=8:=by rw[ig];omega
     have h5:256^(r.take (b.toNat-247)).length<=256^8:=Nat.pow_le_pow_right (by decide) h4;dsimp only;omega
    .exact⟨by show 0<18446744073709551616;omega,by show 2<=4;omega⟩
def akm{s:ByteArray}{l:Bi}(h:s.data.toList=l):s=bs l:=by rw[<-h,bs_of]
def J8(l:Bi)(t:Nat):(bs l).extract t (bs l).size=bs (l.drop t):=by apply akm;rw[Lib.extract_data,D6,Bq,ay (by simp)]
def akl(l:Bi)(t:Nat):(bs l).extract 0 t=bs (l.take t):=by apply akm;rw[Lib.extract_data,D6];rfl
def aat(l:Bi)(w:World)(hl:l.length<9223372036854775808)(n t x:Nat)(hf:Ci l=(n,t,x)):
  cpr 96 #[sd l] w λe w'=>e=.returned (.tuple #[uw n,iw t,iw x])/\w=w':=by
 have h:=au9 (bs l) w (by rw[Bq];exact hl);rw[D6,hf]at h;exact h
def Kz(rb:Nat)(st:St)(w:World)(h:RdAt 191 rb st w):cpr 95 #[pz rb] w λe w'=>e=.returned (iw st.e)/\w=w':=by have zc0:=Fg h;go_enter Tryz.func95,Tryz.ntmps95;go_wp2;go_ret;exact⟨rfl,rfl⟩
def Qg(rb:Nat)(st:St)(x:Nat)(w:World)(h:RdAt 191 rb st w):cpr 97 #[pz rb,iw x] w λe w'=>e=.returned (.tuple #[])/\RdAt 191 rb ⟨[],x⟩ w'/\Ff rb w w':=by
 have zc0:=Fg h;have h1:=Ko (u:=su) h;have zd0:=Fg h1;have H:Hid (RdAt 191 rb st w):=h;clear h h1;go_enter Tryz.func97,Tryz.ntmps97;go_wp2;go_end0
 exact⟨rfl,Za (Ko H.out),((Ff.refl rb w).setCell _ _).setCell _ _⟩
def aaf(rb:Nat)(st:St)(most:Nat)(w:World)(h:RdAt 191 rb st w)(hl:st.l.length<9223372036854775808):
  cpr 42 #[pz rb,uw most] w λe w'=>e=.returned (uw (rdNum most st).1)/\RdAt 191 rb (rdNum most st).2 w'/\Ff rb w w':=by
 have zc0:=Fg h;have H:Hid (RdAt 191 rb st w):=h;clear h;by_cases he:st.e=0
 .have he':((st.e:Int) != 0)=false:=by simp[he]
  have hle:=aha st.l;obtain⟨⟨n,t,x⟩,hf⟩:∃f,f=Ci st.l:=⟨_,rfl⟩;have HF:Hid (Ci st.l=(n,t,x)):=hf.symm;rw[<-hf]at hle
  replace hle:t<=st.l.length:=hle
  clear hf;by_cases hx:x=0
  .subst hx;by_cases hm:most<n
   .have hm':(most:Int)<n:=by omega
    go_enter Tryz.func42,Tryz.ntmps42;go_wp2_with (first
     |(go_at_call 95;refine(Kz rb st _ H.out).mono ?_;rintro e w1 ⟨rfl,rfl⟩)
     |(go_at_call 96;refine(aat st.l _ hl _ _ _ HF.out).mono ?_;rintro e w1 ⟨rfl,rfl⟩)
     |(go_at_call 97;refine(Qg rb st 3 _ H.out).mono ?_;rintro e w1 ⟨rfl,hr,hs⟩;have HR:Hid (RdAt 191 rb ⟨[],3⟩ w1/\Ff rb w w1):=⟨hr,hs⟩;clear hr hs))
    go_ret;have hr:rdNum most st=(0,⟨[],3⟩):=by simp[rdNum,he,HF.out,hm]
    rw[hr];exact⟨rfl,HR.out⟩
   .have hm':¬(most:Int)<n:=by omega
    have ht:t<=(bs st.l).size:=by rw[Bq];exact hle
    go_enter Tryz.func42,Tryz.ntmps42;go_wp2_with (first
     |(go_at_call 95;refine(Kz rb st _ H.out).mono ?_;rintro e w1 ⟨rfl,rfl⟩)
     |(go_at_call 96;refine(aat st.l _ hl _ _ _ HF.out).mono ?_;rintro e w1 ⟨rfl,rfl⟩))
    go_ret;have hr:rdNum most st=(n,⟨st.l.drop t,0⟩):=by simp[rdNum,he,HF.out,hm]
    rw[hr];have h2:=Ko (u:=.string ((bs st.l).extract t (bs st.l).size)) H.out;rw[he,J8]at h2;rw[J8];exact⟨rfl,h2,(Ff.refl rb w).setCell _ _⟩
  .have hx':((x:Int)==0)=false:=by simp;omega
   have hx2:((x:Int) != 0)=true:=by simp;omega
   go_enter Tryz.func42,Tryz.ntmps42;go_wp2_with (first
    |(go_at_call 95;refine(Kz rb st _ H.out).mono ?_;rintro e w1 ⟨rfl,rfl⟩)
    |(go_at_call 96;refine(aat st.l _ hl _ _ _ HF.out).mono ?_;rintro e w1 ⟨rfl,rfl⟩)
    |(go_at_call 97;refine(Qg rb st x _ H.out).mono ?_;rintro e w1 ⟨rfl,hr,hs⟩;have HR:Hid (RdAt 191 rb ⟨[],x⟩ w1/\Ff rb w w1):=⟨hr,hs⟩;clear hr hs))
   go_ret;have hr:rdNum most st=(0,⟨[],x⟩):=by simp[rdNum,he,HF.out,hx]
   rw[hr];exact⟨rfl,HR.out⟩
 .have he':((st.e:Int) != 0)=true:=by simp;omega
  go_enter Tryz.func42,Tryz.ntmps42;go_wp2_with (go_at_call 95;refine(Kz rb st _ H.out).mono ?_;rintro e w1 ⟨rfl,rfl⟩);go_ret;have hr:rdNum most st=(0,st):=by simp[rdNum,he]
  rw[hr];exact⟨rfl,H.out,Ff.refl _ _⟩
def Cf(least most:Int)(st:St):Bi×St:=
 if(rdNum 18446744073709551615 st).2.e≠0 then([],(rdNum 18446744073709551615 st).2)else
 if most<0\/most<(rdNum 18446744073709551615 st).1\/0<least/\((rdNum 18446744073709551615 st).1:Int)<least then([],⟨[],3⟩)else
 if(rdNum 18446744073709551615 st).2.l.length<(rdNum 18446744073709551615 st).1 then([],⟨[],4⟩)else
 ((rdNum 18446744073709551615 st).2.l.take (rdNum 18446744073709551615 st).1,⟨(rdNum 18446744073709551615 st).2.l.drop (rdNum 18446744073709551615 st).1,0⟩)
def Ig(st:St):Bool×St:=
 if st.e≠0 then(false,st)else
 match st.l with
 |[]=>(false,⟨[],4⟩)
 |b::r=>if 1<b.toNat then(false,⟨[],2⟩)else(b.toNat==1,⟨r,0⟩)
def Gi(st:St):(Nat×Nat)×St:=
 if(rdNum 4095 (rdNum 281474976710656 st).2).2.e≠0 then((0,0),(rdNum 4095 (rdNum 281474976710656 st).2).2)else
 (((rdNum 281474976710656 st).1,(rdNum 4095 (rdNum 281474976710656 st).2).1),(rdNum 4095 (rdNum 281474976710656 st).2).2)
def Tu(st:St):Nat:=if st.e≠0 then st.e else if st.l=[]then 0 else 2
def Gs(most:Nat)(st:St):(rdNum most st).1<=most/\(rdNum most st).2.l.length<=st.l.length/\(rdNum most st).1<18446744073709551616:=by
 have hf:=(ag9 st.l).1;unfold rdNum;split
 .exact⟨eu _,ai _,by dsimp only;omega⟩
 .split
  .exact⟨eu _,eu _,by dsimp only;omega⟩
  .split
   .exact⟨eu _,eu _,by dsimp only;omega⟩
   .refine⟨by dsimp only;omega,?_,hf⟩;dsimp only;rw[jr];omega
def RdAt.alloc{T rb:Nat}{st:St}{w:World}(h:RdAt T rb st w)(o:Obj):RdAt T rb st (w.alloc o):=by unfold RdAt;rw[uj w o rb (gp h)];exact h
def RdAt.setOther{T rb:Nat}{st:St}{w:World}(h:RdAt T rb st w){b:Nat}(hb:b≠rb)(i:Nat)(v:Value):RdAt T rb st (w.setCell ⟨b,i,none⟩ v):=by unfold RdAt;rw[jl _ _ _ _ (by exactλe=>hb e.symm)];exact h
def Ff.ac5{rb:Nat}{a w:World}(h:Ff rb a w){b:Nat}(hb:a.heap.size<=b)(i:Nat)(v:Value):Ff rb a (w.setCell ⟨b,i,none⟩ v):=
 ⟨h.os,h.tape,h.output,by rw[show(w.setCell ⟨b,i,none⟩ v).heap.size=w.heap.size by simp[World.setCell]];exact h.size,λk hk hne=>(jl _ _ _ _ (by show k≠b;omega)).trans (h.block k hk hne)⟩
def apm(l:Bi)(w:World):cpr 41 #[sd l] w λe w'=>e=.returned (pz w.heap.size)/\RdAt 191 w.heap.size ⟨l,0⟩ w'/\Bw w w':=by go_enter Tryz.func41,Tryz.ntmps41;go_wp2;go_ret;exact⟨rfl,ae w _,al _⟩
def Jo(l:Bi):(bs l).toList.isEmpty=l.isEmpty:=by rw[Gqf,D6]
def Vw(l:Bi)(t:Nat):(bs l).extract t l.length=bs (l.drop t):=by rw[<-J8,Bq]
def Iq:(bs []).toList.isEmpty=true:=by rw[Jo];rfl
def end25(rb:Nat)(st:St)(w:World)(h:RdAt 191 rb st w):cpr 46 #[pz rb] w λe w'=>e=.returned (iw (Tu st))/\w=w':=by
 exact avp
def avk(rb:Nat)(st:St)(most:Int)(w:World)(h:RdAt 191 rb st w)(hl:st.l.length<9223372036854775808)(h0: -9223372036854775808<=most)(h1:most<=9223372036854775807):
  cpr 102 #[pz rb,iw most] w λe w'=>e=.returned (iw (rdNum most.toNat st).1)/\RdAt 191 rb (rdNum most.toNat st).2 w'/\Ff rb w w':=by
 have H:Hid (RdAt 191 rb st w):=h;clear h;have hle:=(Gs most.toNat st).1;go_enter Tryz.func102,Tryz.ntmps102;go_wp2_with fail;rw[show max most 0=((most.toNat:Nat):Int)by omega];refine(aaf rb st most.toNat _ H.out hl).mono ?_;rintro e w1 ⟨rfl,hr,hs⟩;have HR:Hid (RdAt 191 rb (rdNum most.toNat st).2 w1/\Ff rb w w1):=⟨hr,hs⟩;clear hr hs;obtain⟨n,hn⟩:∃n,n=(rdNum most.toNat st).1:=⟨_,rfl⟩;rw[<-hn]at hle|-;have HNn:Hid (n=(rdNum most.toNat st).1):=hn;clear hn;have hn':(n:Int)<=9223372036854775807:=by omega
 go_wp2;go_ret;rw[<-HNn.out];exact⟨rfl,HR.out⟩
def aqr(rb:Nat)(st:St)(w:World)(h:RdAt 191 rb st w):
  cpr 101 #[pz rb] w λe w'=>e=.returned (.bool (Ig st).1)/\RdAt 191 rb (Ig st).2 w'/\Ff rb w w':=by
 obtain⟨l,e⟩:=st;obtain⟨c0,c1,f0,f1⟩:=Fg h;have H:Hid (RdAt 191 rb ⟨l,e⟩ w):=h;clear h;dsimp only at c0 c1;by_cases he:e=0
 .subst he;cases l with
  |nil=>
   have hb:=Iq;go_enter Tryz.func101,Tryz.ntmps101;go_wp2_with (first
    |(go_at_call 95;refine(Kz rb _ _ H.out).mono ?_;rintro e w1 ⟨rfl,rfl⟩)
    |(go_at_call 97;refine(Qg rb _ 4 _ H.out).mono ?_;rintro e w1 ⟨rfl,hr,hs⟩;have HR:Hid (RdAt 191 rb ⟨[],4⟩ w1/\Ff rb w w1):=⟨hr,hs⟩;clear hr hs))
   go_ret;exact⟨rfl,HR.out⟩
  |cons b r=>
   have hb:(bs (b::r)).toList.isEmpty=false:=by rw[Jo];rfl
   have hsz:0<(bs (b::r)).size:=by rw[Bq];simp
   have hget:(bs (b::r))[0]'hsz=b:=rfl;have hdr:=J8 (b::r) 1;have hb256:=Tj b;by_cases hb1:1<b.toNat
   .have hb1':(1:Int)<b.toNat:=by omega
    go_enter Tryz.func101,Tryz.ntmps101;go_wp2_with (first
     |(go_at_call 95;refine(Kz rb _ _ H.out).mono ?_;rintro e w1 ⟨rfl,rfl⟩)
     |(go_at_call 97;refine(Qg rb _ 2 _ H.out).mono ?_;rintro e w1 ⟨rfl,hr,hs⟩;have HR:Hid (RdAt 191 rb ⟨[],2⟩ w1/\Ff rb w w1):=⟨hr,hs⟩;clear hr hs))
    go_ret;have hr:Ig ⟨b::r,0⟩=(false,⟨[],2⟩):=by simp[Ig,hb1]
    rw[hr];exact⟨rfl,HR.out⟩
   .have hb1':¬(1:Int)<b.toNat:=by omega
    go_enter Tryz.func101,Tryz.ntmps101;go_wp2_with (go_at_call 95;refine(Kz rb _ _ H.out).mono ?_;rintro e w1 ⟨rfl,rfl⟩);go_ret;have hr:Ig ⟨b::r,0⟩=(b.toNat==1,⟨r,0⟩):=by simp[Ig,hb1]
    rw[hr];refine⟨?_,?_,(Ff.refl rb w).setCell _ _⟩
    .have e1:((b.toNat:Int)==1)=(b.toNat==1):=by rw[yh];simp;omega
     show Ending.returned (.bool ((b.toNat:Int)==1))=_;rw[e1]
    .exact Ko H.out
 .have he':((e:Int) != 0)=true:=by simp;omega
  go_enter Tryz.func101,Tryz.ntmps101;go_wp2_with (go_at_call 95;refine(Kz rb _ _ H.out).mono ?_;rintro e w1 ⟨rfl,rfl⟩);go_ret;have hr:Ig ⟨l,e⟩=(false,⟨l,e⟩):=by simp[Ig,he]
  rw[hr];exact⟨rfl,H.out,Ff.refl _ _⟩
def acy(rb:Nat)(st:St)(least most:Int)(w:World)(h:RdAt 191 rb st w)(hl:st.l.length<9223372036854775808)
  (a0: -9223372036854775808<=least) (a1:least<=9223372036854775807) (b0: -9223372036854775808<=most) (b1:most<=9223372036854775807):
  cpr 100 #[pz rb,iw least,iw most] w λe w'=>e=.returned (.string (bs (Cf least most st).1))/\RdAt 191 rb (Cf least most st).2 w'/\Ff rb w w':=by
 have H:Hid (RdAt 191 rb st w):=h;clear h;have hle:=Gs 18446744073709551615 st;have hdef:Cf least most st=if(rdNum 18446744073709551615 st).2.e≠0 then([],(rdNum 18446744073709551615 st).2)else
   if most<0\/most<(rdNum 18446744073709551615 st).1\/0<least/\((rdNum 18446744073709551615 st).1:Int)<least then([],⟨[],3⟩)else
   if(rdNum 18446744073709551615 st).2.l.length<(rdNum 18446744073709551615 st).1 then([],⟨[],4⟩)else
   ((rdNum 18446744073709551615 st).2.l.take (rdNum 18446744073709551615 st).1,⟨(rdNum 18446744073709551615 st).2.l.drop (rdNum 18446744073709551615 st).1,0⟩):=rfl
 have hnum:=λw h=>aaf rb st 18446744073709551615 w h hl;obtain⟨⟨n,l1,x1⟩,hf⟩:∃f,f=rdNum 18446744073709551615 st:=⟨_,rfl⟩;rw[<-hf]at hdef hle hnum;clear hf;dsimp only at hdef hle hnum;have HN:Hid (∀w,RdAt 191 rb st w->cpr 42 #[pz rb,uw (18446744073709551615:Nat)] w λe w'=>e=.returned (uw n)/\RdAt 191 rb ⟨l1,x1⟩ w'/\Ff rb w w'):=hnum;obtain⟨R,hR⟩:∃R,R=Cf least most st:=⟨_,rfl⟩;rw[<-hR]at hdef|-;have HD:Hid _:=hdef;obtain⟨hn1,hl1,hn2⟩:=hle;clear hnum hdef hR;go_enter Tryz.func100,Tryz.ntmps100;go_wp2_with fail;refine(HN.out _ H.out).mono ?_;rintro e w1 ⟨rfl,hr,hs⟩;obtain⟨c0,c1,f0,f1⟩:=Fg hr;dsimp only at c0 c1;have HR:Hid (RdAt 191 rb ⟨l1,x1⟩ w1/\Ff rb w w1):=⟨hr,hs⟩;clear hr hs;go_wp2_with fail;refine(Kz rb _ _ HR.out.1).mono ?_;rintro e w2 ⟨rfl,rfl⟩;dsimp only;by_cases hx:x1=0
 .subst hx;have hbl:=Bq l1;by_cases hA:most<0
  .skip;go_wp2_with (go_at_call 97;refine(Qg rb _ 3 _ HR.out.1).mono ?_;rintro e w3 ⟨rfl,hr,hs⟩;have HR3:Hid (RdAt 191 rb ⟨[],3⟩ w3/\Ff rb w w3):=⟨hr,HR.out.2.trans hs⟩;clear hr hs);go_ret;rw[HD.out,ag (by simp),ah (.inl hA)];exact⟨rfl,HR3.out⟩
  .by_cases hB:most<n
   .skip;go_wp2_with (go_at_call 97;refine(Qg rb _ 3 _ HR.out.1).mono ?_;rintro e w3 ⟨rfl,hr,hs⟩;have HR3:Hid (RdAt 191 rb ⟨[],3⟩ w3/\Ff rb w w3):=⟨hr,HR.out.2.trans hs⟩;clear hr hs);go_ret;rw[HD.out,ag (by simp),ah (.inr (.inl hB))];exact⟨rfl,HR3.out⟩
   .by_cases hC:0<least
    .by_cases hD:(n:Int)<least
     .skip;go_wp2_with (go_at_call 97;refine(Qg rb _ 3 _ HR.out.1).mono ?_;rintro e w3 ⟨rfl,hr,hs⟩;have HR3:Hid (RdAt 191 rb ⟨[],3⟩ w3/\Ff rb w w3):=⟨hr,HR.out.2.trans hs⟩;clear hr hs);go_ret;rw[HD.out,ag (by simp),ah (.inr (.inr ⟨hC,hD⟩))];exact⟨rfl,HR3.out⟩
     .skip;exact avq
    .skip;exact avq
 .have hx':((x1:Int) != 0)=true:=by simp;omega
  go_wp2;go_ret;rw[HD.out,ah hx];exact⟨rfl,HR.out⟩
def aso(rb:Nat)(st:St)(w:World)(h:RdAt 191 rb st w)(hl:st.l.length<9223372036854775808):
  cpr 99 #[pz rb] w λe w'=>e=.returned (.agg #[uw (Gi st).1.1,ui (Gi st).1.2])/\RdAt 191 rb (Gi st).2 w'/\Ff rb w w':=by
 have hlt:=gp h;have H:Hid (RdAt 191 rb st w):=h;clear h;have hle:=Gs 281474976710656 st;have hle2:=Gs 4095 (rdNum 281474976710656 st).2;have hdef:Gi st=if(rdNum 4095 (rdNum 281474976710656 st).2).2.e≠0 then((0,0),(rdNum 4095 (rdNum 281474976710656 st).2).2)else
   (((rdNum 281474976710656 st).1,(rdNum 4095 (rdNum 281474976710656 st).2).1),(rdNum 4095 (rdNum 281474976710656 st).2).2):=rfl
 obtain⟨⟨n,s1⟩,hf⟩:∃f,f=rdNum 281474976710656 st:=⟨_,rfl⟩;rw[<-hf]at hdef hle hle2;dsimp only at hdef hle hle2;obtain⟨⟨m,s2⟩,hg⟩:∃f,f=rdNum 4095 s1:=⟨_,rfl⟩;rw[<-hg]at hdef hle2;dsimp only at hdef hle2;have HF:Hid ((n,s1)=rdNum 281474976710656 st/\(m,s2)=rdNum 4095 s1):=⟨hf,hg⟩;clear hf hg;obtain⟨R,hR⟩:∃R,R=Gi st:=⟨_,rfl⟩;rw[<-hR]at hdef|-;have HD:Hid _:=hdef;obtain⟨hn1,hl1,hn2⟩:=hle;obtain⟨hm1,hl2,hm2⟩:=hle2;clear hdef hR;have hm':(m:Int)<=4095:=by omega
 go_enter Tryz.func99,Tryz.ntmps99;go_wp2_with fail;have hA:=aaf rb st 281474976710656 (w.alloc (Obj.cells #[Value.int IntKind.u64 0,Value.int IntKind.u32 0] 38)) (H.out.alloc _) hl;rw[<-HF.out.1]at hA;refine hA.mono ?_;rintro e w1 ⟨rfl,hr,hs⟩;clear hA;have HR:Hid (RdAt 191 rb s1 w1/\Ff rb (w.alloc (Obj.cells #[Value.int IntKind.u64 0,Value.int IntKind.u32 0] 38)) w1):=⟨hr,hs⟩;clear hr hs;go_wp2_with fail;have hB:=aaf rb s1 4095 w1 HR.out.1 (by omega);rw[<-HF.out.2]at hB;refine hB.mono ?_;rintro e w2 ⟨rfl,hr,hs⟩;clear hB;have hbl:w2.heap[w.heap.size]?=some (Obj.cells #[Value.int IntKind.u64 0,Value.int IntKind.u32 0] 38):=by have h3:=HR.out.2.trans hs;rw[h3.block w.heap.size (by simp) (by omega)];exact ae w _
 have zr0:=Fg hbl;have hbl2:=Ko (u:=Value.int IntKind.u64 n) hbl;have zr2:=Fg hbl2;have hbl3:=Za (u:=Value.int IntKind.u32 m) hbl2;obtain⟨r4,r5,q4,q5⟩:=Fg hbl3;have HR2:Hid (RdAt 191 rb s2 w2/\Ff rb w w2):=⟨hr,((Ff.refl rb w).alloc _).trans (HR.out.2.trans hs)⟩;have HBL:Hid (w2.heap[w.heap.size]?=some (Obj.cells #[Value.int IntKind.u64 0,Value.int IntKind.u32 0] 38)):=hbl;clear hr hs hbl hbl2 hbl3;go_wp2_with fail;refine(Kz rb _ _ HR2.out.1).mono ?_;rintro e w3 ⟨rfl,rfl⟩;by_cases hx:s2.e=0
 .have hx':((s2.e:Int) != 0)=false:=by simp[hx]
  go_wp2;refine az (v:=.agg #[uw n,ui m]) (by simp[results,Tryz.results99,go_sem,r4,r5]) rfl ?_;rw[HD.out,ag (by simpa using hx)];exact bbw
 .have hx':((s2.e:Int) != 0)=true:=by simp;omega
  have hz3:=Za (u:=Value.int IntKind.u32 0) (Ko (u:=Value.int IntKind.u64 0) HBL.out);obtain⟨z4,z5,_,_⟩:=Fg hz3;clear hz3;go_wp2;refine az (v:=.agg #[uw 0,ui 0]) (by simp[results,Tryz.results99,go_sem,z4,z5]) rfl ?_;rw[HD.out,ah hx];exact bbw
def RdAt.lt{T rb:Nat}{st:St}{w:World}(h:RdAt T rb st w):rb<w.heap.size:=gp h
def RdAt.on{T rb:Nat}{st:St}{w w':World}(h:RdAt T rb st w)(hb:Bw w w'):RdAt T rb st w':=by unfold RdAt;rw[hb.block rb h.lt];exact h
def ayj{n:Nat}(h:247<n):1<=nb n:=by rw[Py (by omega)];omega
def ah4(n c:Nat)(R:Bi)(hn:n<18446744073709551616):Ci ((Am n++R).take c)=if c<sz n then(0,0,4)else(n,sz n,0):=by
 have hk:=ahq hn;cases c with
 |zero=>
  rw[ah (by have:=anv n;omega)];rfl
 |succ c=>
  by_cases h:n<=247
  .have hs:sz n=1:=by simp[sz,h]
   have hf:Am n=[UInt8.ofNat n]:=by simp[Am,h]
   rw[hs,hf,ag (by omega)];have h2:(UInt8.ofNat n).toNat=n:=abg n (by omega);show Ci (UInt8.ofNat n::_)=_;rw[Ci,ah (by rw[h2];exact h),h2]
  .have hs:sz n=1+nb n:=by simp[sz,h]
   have hf:Am n=UInt8.ofNat (247+nb n)::dg n:=by simp[Am,h]
   have h1:=ayj (n:=n) (by omega);have hb:(UInt8.ofNat (247+nb n)).toNat=247+nb n:=abg _ (by omega);have hd:=Tf n;rw[hs,hf,lu,ou,Ci,hb,ag (by omega),show 247+nb n-247=nb n by omega];by_cases hc:c<nb n
   .rw[ah (by rw[ig];omega),ah (by omega)]
   .have ht:((dg n++R).take c).take (nb n)=dg n:=by rw[List.take_take,yj (by omega),List.take_append_of_le_length (by omega),<-hd,um]
    rw[ag (by rw[ig,af];omega),ht,awn,hs,ah rfl,ag (by omega)]
def afh(n c most:Nat)(R:Bi)(hn:n<18446744073709551616)(hm:n<=most):
  rdNum most ⟨(Am n++R).take c,0⟩=if c<sz n then(0,⟨[],4⟩)else(n,⟨R.take (c-sz n),0⟩):=by
 have hf:=ah4 n c R hn;have hl:=Eg n;unfold rdNum;dsimp only;rw[ag (by simp),hf];by_cases hc:c<sz n
 .rw[ah hc,ah hc,ah (by decide)]
 .rw[ag hc,ag hc,ag (by simp),ag (by dsimp only;omega)];dsimp only;congr 2;rw[List.drop_take,List.drop_append_of_le_length (by omega),<-hl,List.drop_length,mf]
def Ih(n most:Nat)(R:Bi)(hn:n<18446744073709551616)(hm:n<=most):rdNum most ⟨Am n++R,0⟩=(n,⟨R,0⟩):=by have h:=afh n (sz n+R.length) most R hn hm;have hl:=Eg n;rw[ag (by omega),ay (by rw[af];omega),ay (by omega)]at h;exact h
def Au(s:Bi):Bi:=Am s.length++s
def abh(s R:Bi)(c:Nat)(least most:Int)(hs:s.length<9223372036854775808)(h1:least<=s.length)(h2:(s.length:Int)<=most):
  Cf least most ⟨(Au s++R).take c,0⟩=if c<sz s.length+s.length then([],⟨[],4⟩)else(s,⟨R.take (c-(sz s.length+s.length)),0⟩):=by
 have h:=afh s.length c 18446744073709551615 (s++R) (by omega) (by omega);rw[<-gq]at h;change rdNum _ ⟨(Au s++R).take c,0⟩=_ at h;unfold Cf;rw[h];by_cases hc:c<sz s.length
 .rw[ah hc];dsimp only;rw[ah (by decide),ah (by omega)]
 .rw[ag hc];dsimp only;rw[ag (by simp),ag (by omega)];by_cases hc2:c<sz s.length+s.length
  .rw[ah hc2,ah (by rw[ig];omega)]
  .have e1:((s++R).take (c-sz s.length)).take s.length=s:=by rw[List.take_take,yj (by omega),List.take_append_of_le_length (ai _),um]
   have e2:((s++R).take (c-sz s.length)).drop s.length=R.take (c-(sz s.length+s.length)):=by rw[List.drop_take,List.drop_append_of_le_length (ai _),List.drop_length,mf,Nat.sub_sub]
   rw[ag hc2,ag (by rw[ig,af];omega),e1,e2]
def Me(s R:Bi)(least most:Int)(hs:s.length<9223372036854775808)(h1:least<=s.length)(h2:(s.length:Int)<=most):Cf least most ⟨Au s++R,0⟩=(s,⟨R,0⟩):=by have h:=abh s R (sz s.length+s.length+R.length) least most hs h1 h2;have hl:=Eg s.length;rw[ag (by omega),ay (by rw[Au,af,af];omega),ay (by omega)]at h;exact h
def Td(b:Bool)(R:Bi):Ig ⟨D7 b++R,0⟩=(b,⟨R,0⟩):=by cases b<;>simp[Ig,D7]
def Ua(p q:Nat)(R:Bi)(hp:p<=281474976710656)(hq:q<=4095):Gi ⟨A7 p q++R,0⟩=((p,q),⟨R,0⟩):=by unfold Gi;rw[A7,gq,Ih p _ _ (by omega) hp];dsimp only;rw[Ih q _ _ (by omega) hq];simp
def aqt{l:Bi}{n t:Nat}(h:Ci l=(n,t,0)):t=sz n/\l=Am n++l.drop t:=by
 cases l with
 |nil=>simp[Ci]at h
 |cons b r=>
  have hb:=Tj b;rw[Ci]at h;by_cases h1:b.toNat<=247
  .rw[ah h1]at h;simp only[ny]at h;obtain⟨rfl,rfl,_⟩:=h;refine⟨by simp[sz,h1],?_⟩;simp[Am,h1]
  .rw[ag h1]at h;by_cases h2:r.length<b.toNat-247
   .rw[ah h2]at h;simp at h
   .rw[ag h2]at h;by_cases h3:1+(b.toNat-247)=sz (vl (r.take (b.toNat-247)))
    .rw[ah h3]at h;simp only[ny]at h;obtain⟨hn,ht,_⟩:=h;rw[hn]at h3;refine⟨by omega,?_⟩;have h4:¬n<=247:=by intro h4;simp[sz,h4]at h3;omega
     have h5:nb n=b.toNat-247:=by simp[sz,h4]at h3;omega
     have h6:=dg_vl (r.take (b.toNat-247)) (by rw[hn,h5,ig];omega);rw[hn]at h6;have h7:UInt8.ofNat (247+nb n)=b:=by rw[h5,show 247+(b.toNat-247)=b.toNat by omega];simp
     have hf:Am n=b::r.take (b.toNat-247):=by simp only[Am,ag h4,h6,h7]
     rw[hf,<-ht,Nat.add_comm 1,oh,lu,jg]
    .rw[ag h3]at h;simp at h
def ayh{most:Nat}{st:St}(h:(rdNum most st).2.e=0):st.e=0/\st.l=Am (rdNum most st).1++(rdNum most st).2.l:=by
 unfold rdNum at h|-;by_cases h0:st.e≠0
 .rw[ah h0]at h;exact absurd h h0
 .rw[ag h0]at h|-;by_cases h1:(Ci st.l).2.2≠0
  .rw[ah h1]at h;exact absurd h h1
  .rw[ag h1]at h|-;by_cases h2:most<(Ci st.l).1
   .rw[ah h2]at h;simp at h
   .rw[ag h2];obtain⟨⟨n,t,x⟩,hf⟩:∃f,f=Ci st.l:=⟨_,rfl⟩;rw[<-hf]at h1|-;simp at h1;subst h1;exact⟨by simpa using h0,(aqt hf.symm).2⟩
def aiw{least most:Int}{st:St}(h:(Cf least most st).2.e=0):st.e=0/\st.l=Au (Cf least most st).1++(Cf least most st).2.l:=by
 unfold Cf at h|-;by_cases h0:(rdNum 18446744073709551615 st).2.e≠0
 .rw[ah h0]at h;exact absurd h h0
 .rw[ag h0]at h|-;split at h
  .simp at h
  .split at h
   .simp at h
   .rename_i h1 h2;rw[ag h1,ag h2];obtain⟨h3,h4⟩:=ayh (by simpa using h0);refine⟨h3,?_⟩;dsimp only;rw[Au,ig,yj (by omega),gq,jg];exact h4
