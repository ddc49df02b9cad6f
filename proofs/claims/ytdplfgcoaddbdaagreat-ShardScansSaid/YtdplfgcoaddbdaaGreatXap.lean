import Derived.Test.YtdplfgcoaddbdaaGreatProg
import Derived.Shelf.Strconv.Itoa0
import Derived.Deep.RegionLaw
import Derived.Laws.BytesArg
import Derived.Lib.IndexBytes
import Derived.ScopeJumps
import Derived.WalkMore
import Derived.Test.YtdplfgcoaddbdaaGreatXaa
set_option maxHeartbeats 4000000
set_option maxRecDepth 100000
set_option linter.unusedVariables false
set_option linter.unusedSimpArgs false
namespace Go.Proofs
open Go.Shelf
def Tryz.lays129_ren:Go.Shelf.Ren:=⟨fun|129=>217|n=>n,fun|53=>23|3=>3|4=>4|46=>277|5=>5|9=>9|n=>n,fun|n=>n⟩
theorem Tryz.lays129:Go.Proofs.Lays.n129 Tryz.prog Tryz.lays129_ren:={mixed:=by kernel_rfl,f129:=Tryz.func217.trans (congrArg some (by kernel_rfl)),t3:=Tryz.underlying3,a3:=Tryz.isAgg3,z3:=Tryz.sizeOf3,v3:=Tryz.zeroValue3,t4:=Tryz.underlying4,a4:=Tryz.isAgg4,z4:=Tryz.sizeOf4,v4:=Tryz.zeroValue4,t5:=Tryz.underlying5,a5:=Tryz.isAgg5,z5:=Tryz.sizeOf5,v5:=Tryz.zeroValue5,t9:=Tryz.underlying9,a9:=Tryz.isAgg9,z9:=Tryz.sizeOf9,v9:=Tryz.zeroValue9,t46:=Tryz.underlying277,a46:=Tryz.isAgg277,z46:=Tryz.sizeOf277,v46:=Tryz.zeroValue277,t53:=Tryz.underlying23,a53:=Tryz.isAgg23,z53:=Tryz.sizeOf23,v53:=Tryz.zeroValue23}
theorem Tryz.bits_Len64(x:Int)(w:World)(h0:0<=x)(h1:x<=18446744073709551615):
  Calls Tryz.prog 217 #[.int .u64 x] w fun e w'=>e=.returned (.int .i64 (Lib.bitLen x.toNat))/\w'=w:=Any.bits_Len64 Tryz.lays129 x w h0 h1
end Go.Proofs
namespace Go.Proofs.YtdplfgcoaddbdaaGreat
open Go.RowKit
theorem info5:(Tryz.prog.info? 5).map (fun i=>(i.zero,i.size,i.bytes))=some (some (ub 0),1,1):=by kernel_rfl
def WrAt(pb:Nat)(l:List UInt8)(w:World):Prop:=
 ∃v,w.heap[pb]?=some (.cells #[v] 284 (0,0))/\w.ownsRow (pb+1) 5 1 v l.length (cl l)
structure KeptW(pb:Nat)(w w':World):Prop where
 below:Below pb w w'
 other:∀k o,w.heap[k]?=some o->k≠pb->(∀cs fz,o≠ .cells cs 5 fz)->w'.heap[k]?=some o
theorem KeptW.refl(pb:Nat)(w:World):KeptW pb w w:=⟨Below.refl _ _,fun _ _ h _ _=>h⟩
theorem KeptW.trans{pb:Nat}{a b c:World}(h:KeptW pb a b)(k:KeptW pb b c):KeptW pb a c:=
 ⟨h.below.trans k.below,fun i o ho hne h5=>k.other i o (h.other i o ho hne h5) hne h5⟩
theorem own_not{w:World}{base:Nat}{v:Value}{n:Nat}{xs:List Value}(h:w.ownsRow base 5 1 v n xs){k:Nat}{o:Obj}(ho:w.heap[k]?=some o)(h5:∀cs fz,o≠ .cells cs 5 fz):some k≠v.ownBlock:=by
 rcases h.2 with⟨rfl,_⟩|⟨g,cap,cur,rfl,_,hg,_⟩
 ·simp[Value.ownBlock]
 ·simp only[Value.ownBlock];intro e;injection e with e;subst e;rw[hg]at ho;injection ho with ho;exact h5 _ _ ho.symm
theorem own_past{w:World}{pb:Nat}{v:Value}{n:Nat}{xs:List Value}(h:w.ownsRow (pb+1) 5 1 v n xs){k:Nat}(hk:k<=pb):some k≠v.ownBlock:=by intro e;have:=h.lt k e.symm;omega
theorem own_shape{w:World}{base:Nat}{v:Value}{n:Nat}{xs:List Value}(h:w.ownsRow base 5 1 v n xs):∃ao cp,v=.slice ao n cp:=by
 rcases h.2 with⟨rfl,rfl⟩|⟨g,cap,cur,rfl,_⟩
 ·exact⟨_,_,rfl⟩
 ·exact⟨_,_,rfl⟩
theorem wr_cell{pb:Nat}{l:List UInt8}{w wa w1:World}{v:Value}(hv:w.heap[pb]?=some (.cells #[v] 284 (0,0)))(hown:w.ownsRow (pb+1) 5 1 v l.length (cl l))
  (ha:Below w.heap.size w wa) (hg:wa.grownBy w1 v.ownBlock):w1.heap[pb]?=some (.cells #[v] 284 (0,0)):=by
 have hlt:=lt_of_block hv;have:=ha.size;rw[hg.block pb (by omega) (own_past hown (Nat.le_refl _)),ha.block pb hlt,hv]
theorem wr_put{pb:Nat}{l r:List UInt8}{w wa w1:World}{v v':Value}(hv:w.heap[pb]?=some (.cells #[v] 284 (0,0)))(hown:w.ownsRow (pb+1) 5 1 v l.length (cl l))
  (ha:Below w.heap.size w wa) (hg:wa.grownBy w1 v.ownBlock) (hown':w1.ownsRow (pb+1) 5 1 v' (l.length+r.length) (cl l++cl r)):
  WrAt pb (l++r) (w1.setCell ⟨pb,0,none⟩ v')/\KeptW pb w (w1.setCell ⟨pb,0,none⟩ v'):=by
 have hlt:=lt_of_block hv;have hs:=ha.size;have h1:=wr_cell hv hown ha hg;refine⟨⟨v',one_setCell h1,?_⟩,⟨?_,?_⟩⟩
 ·rw[List.length_append,cl_append];exact ownsRow_setCell_below hown' (Nat.lt_succ_self _) _
 ·exact(((show Below pb w wa from ha.mono (by omega)).grown hg (by omega) (fun k hk=>by have:=hown.lt k hk;omega)).setCell (Nat.le_refl _) _)
 ·intro k o ho hne h5;have hkl:=lt_of_block ho;rw[Below.heap_setCell _ _ _ _ hne,hg.block k (by omega) (own_not hown ho h5),ha.block k hkl,ho]
theorem step_append_own{P:Program}{ops:Array Oper}{o:Oper}{a:Act}{w:World}{K:Act->World->Prop}{Q:Exit->Act->World->Prop}{E:Prop}
  (hg:o.guard=none) (s x:Operand) (t:TypeId) (hop:o.op=.call {callee:=.builtin .append,args:=#[s,x],argTypes:=#[t,t]})
  (base:Nat) (e:TypeId) (i:TypeInfo) (z:Value) (size bytes:Nat) (ht:P.underlying t=some (.slice e)) (hi:P.info? e=some i) (hz:i.zero=some z)
  (hsize:i.size=size) (hby:i.bytes=bytes) (hzs:z.cells.size=size) (hsz:0<size)
  (v:Value) (n:Nat) (xs:List Value) (hs:a.eval s=v) (hown:w.ownsRow base e size v n xs)
  (ad:Addr) (m c:Nat) (news:List Value) (hx:a.eval x=.slice (some ad) m c) (hl:news.length=m*size) (hnews:∀j u,news[j]?=some u->w.cell? (ad.add j)=some u) (h1:∀u∈news,u.oneCell'=true)
  (h63:n+m<=maxLen) (hbytes:(n+m)*bytes<=140737488355328) (hbase:base<=w.heap.size)
  (h:∀v' w',w'.ownsRow base e size v' (n+m) (xs++news)->w.grownBy w' v.ownBlock->K (a.put o.dst v') w'):
  if Region.wanted o (yielded ops a.tmps)=true then Oper.wp P o a w K Q else E:=by
 have hw:Region.wanted o (yielded ops a.tmps)=true:=by simp[Region.wanted,hg]
 rw[if_pos hw];exact wp_append_own w s x t hop base e i z size bytes ht hi hz hsize hby hzs hsz v n xs hs hown ad m c news hx hl hnews h1 h63 hbytes hbase fun v' w' h2 h3 _=>h v' w' h2 h3
theorem one_new(w:World)(u:Value)(e:TypeId):∀j x,[u][j]?=some x->(w.alloc (.cells #[u] e)).cell? ((⟨w.heap.size,0,none⟩:Addr).add j)=some x:=by
 intro j x hj;match j,hj with
 |0,hj=>simp at hj;subst hj;simp[Addr.add]
theorem int_one(k:IntKind)(n:Int):∀u∈[Value.int k n],u.oneCell'=true:=by intro u hu;simp at hu;subst hu;rfl
theorem wr_put1{pb:Nat}{l:List UInt8}{w wa w1:World}{v v':Value}{X:Int}(hv:w.heap[pb]?=some (.cells #[v] 284 (0,0)))(hown:w.ownsRow (pb+1) 5 1 v l.length (cl l))
  (ha:Below w.heap.size w wa) (hg:wa.grownBy w1 v.ownBlock) (hown':w1.ownsRow (pb+1) 5 1 v' (l.length+1) (cl l++[Value.int .u8 X])) (k:Nat) (hk:k<256) (hX:X=(k:Int)):
  WrAt pb (l++[UInt8.ofNat k]) (w1.setCell ⟨pb,0,none⟩ v')/\KeptW pb w (w1.setCell ⟨pb,0,none⟩ v'):=by
 subst hX;exact wr_put hv hown ha hg (by rw[cl_one k hk];exact hown')
theorem WrAt.alloc{pb:Nat}{l:List UInt8}{w:World}(h:WrAt pb l w)(o:Obj):WrAt pb l (w.alloc o):=by obtain⟨v,hv,hown⟩:=h;exact⟨v,by rw[Below.heap_alloc w o pb (lt_of_block hv),hv],hown.alloc o⟩
theorem WrAt.lt{pb:Nat}{l:List UInt8}{w:World}(h:WrAt pb l w):pb<w.heap.size:=by obtain⟨v,hv,_⟩:=h;exact lt_of_block hv
theorem KeptW.alloc{pb:Nat}{w0 w:World}(h:KeptW pb w0 w)(hp:pb<=w.heap.size)(o:Obj):KeptW pb w0 (w.alloc o):=
 ⟨h.below.alloc hp o,fun k o' ho hne h5=>by have:=h.other k o' ho hne h5;rw[Below.heap_alloc w o k (lt_of_block this),this]⟩
theorem two_cells{w:World}{b:Nat}{x y:Value}{t:TypeId}(h:w.heap[b]?=some (.cells #[x,y] t (0,0))):w.cell? ⟨b,0,none⟩=some x/\w.cell? ⟨b,1,none⟩=some y/\w.frozen? ⟨b,0,none⟩=false/\w.frozen? ⟨b,1,none⟩=false:=by refine⟨?_,?_,?_,?_⟩<;>simp[World.cell?,World.frozen?,h]
theorem strOf_bs(l:List UInt8):strOfNums (l.map fun c=>(c.toNat:Int))=bs l:=by unfold strOfNums bs;congr 1;simp[List.map_map,Function.comp_def]
theorem row_text{w:World}{base:Nat}{v:Value}{l:List UInt8}(h:w.ownsRow base 5 1 v l.length (cl l)):(convert 95 9 v).run Tryz.prog w=.ok (sd l) w:=by
 rcases h.2 with⟨rfl,h0⟩|⟨g,cap,cur,rfl,hb,hg,_⟩
 ·rw[run_convert_bytes_nil w 95 5 Tryz.underlying95 Tryz.underlying5 0 0 9 Tryz.underlying9,List.length_eq_zero_iff.1 h0];rfl
 ·rw[run_convert_bytes_arg w 95 5 Tryz.underlying95 Tryz.underlying5 g 0 l.length cap (l.map fun c=>(c.toNat:Int)) (by simp) ?_ 9 Tryz.underlying9,strOf_bs];intro i hi;have:=h.cells (g:=g) rfl i (ub (l[i]).toNat) (by simp[cl,hi]);simp only[Nat.zero_add];have e:(⟨g,0,none⟩:Addr).add i=⟨g,i,none⟩:=by simp[Addr.add_lit]
  rw[e]at this;rw[this];simp[hi]
theorem size34(n:Nat)(w:World)(hn:n<18446744073709551616):
  Calls Tryz.prog 190 #[uw n] w fun e w'=>e=.returned (iw (sz n))/\w=w':=by
 by_cases h:n<=247
 ·have h':(n:Int)<=247:=by omega
  go_enter Tryz.func190,Tryz.ntmps190;go_wp2;go_ret;exact⟨by simp[sz,h],rfl⟩
 ·have h':¬(n:Int)<=247:=by omega
  have hb:=nb_bits n hn;have hl:=Lib.bitLen_le n 64 (by omega) (by omega);go_enter Tryz.func190,Tryz.ntmps190;go_wp2_with (go_at_call 217;refine(Tryz.bits_Len64 n _ (by omega) (by omega)).mono ?_;rintro e w1 ⟨rfl,h1⟩;have h1:=h1.symm;subst h1);go_ret;refine⟨?_,rfl⟩;have:sz n=1+nb n:=by simp[sz,h]
  rw[this];refine congrArg Ending.returned (congrArg (Value.int IntKind.i64) ?_);omega
theorem shr8(n k q:Nat)(hk:k<8)(hq:q=n/256^k):Op.shift .shr .u64 (n:Int) .i64 (IntKind.i64.wrap (8*(k:Int)))=pure (uw q):=by
 have e:IntKind.i64.wrap (8*(k:Int))=((8*k:Nat):Int):=by simp[IntKind.wrap,IntKind.bits,IntKind.signed];omega
 rw[e,shift_shr_any _ _ _ _ (by omega),hq];have h2:min ((8*k:Nat):Int).toNat IntKind.u64.bits=8*k:=by simp[IntKind.bits];omega
 rw[h2];have h3:(2:Int)^(8*k)=((256^k:Nat):Int):=by rw[Int.pow_mul,Int.natCast_pow];rfl
 rw[h3,<-Int.natCast_ediv]
theorem num10(pb:Nat)(l:List UInt8)(n:Nat)(w:World)(hn:n<18446744073709551616)(hw:WrAt pb l w)(hl:l.length+9<=140737488355328):
  Calls Tryz.prog 185 #[pz pb,uw n] w fun e w'=>e=.returned (.tuple #[])/\WrAt pb (l++numForm n) w'/\KeptW pb w w':=by
 obtain⟨i0,hi,hz0,hz1,hz2⟩:=info_parts info5;obtain⟨v,hv,hown⟩:=hw;have hlt:=lt_of_block hv;have hc:=cell_of_one hv;have hf:=free_of_one hv;have HV:Hid (w.heap[pb]?=some (.cells #[v] 284 (0,0))/\w.ownsRow (pb+1) 5 1 v l.length (cl l)):=⟨hv,hown⟩;have hca:∀o,(w.alloc o).cell? ⟨pb,0,none⟩=some v:=fun o=>by rw[World.cell?_alloc_lt (h:=hlt)];exact hc
 clear hv hown;by_cases h:n<=247
 ·have hs:sz n=1:=by simp[sz,h]
  go_enter Tryz.func185,Tryz.ntmps185;go_wp2_with (first
   |(go_at_call 190;refine(size34 n _ hn).mono ?_;rw[hs];rintro e w1 ⟨rfl,rfl⟩)
   |(at_builtin;(refine wpList_append_own _ rfl (.tmp 16) (.tmp 19) 95 rfl (pb+1) 5 i0 (ub 0) 1 1 Tryz.underlying95 hi hz0 hz1 hz2 rfl (by decide) v l.length (cl l) rfl (HV.out.2.alloc _) ⟨w.heap.size,0,none⟩ 1 1 [ub _] rfl rfl (one_new _ _ _) (int_one _ _) (by unfold maxLen;omega) (by omega) (by simp;omega) ?_;intro v' w1 hown' hgrow _;obtain⟨ao,cp,hv'⟩:=own_shape hown';subst hv';have HG:Hid _:=And.intro hgrow hown';have c1:=cell_of_one (wr_cell HV.out.1 HV.out.2 ((Below.refl _ _).alloc (Nat.le_refl _) _) hgrow);have f1:=free_of_one (wr_cell HV.out.1 HV.out.2 ((Below.refl _ _).alloc (Nat.le_refl _) _) hgrow);clear hown' hgrow)))
  (try simp only[Exit.inBlock,Exit.then]);refine bodyPost_ret (results_none rfl _ _ _) rfl ?_
  have hnf:numForm n=[UInt8.ofNat n]:=by simp[numForm,h]
  rw[hnf];refine⟨rfl,?_⟩;exact wr_put1 HV.out.1 HV.out.2 ((Below.refl _ _).alloc (Nat.le_refl _) _) HG.out.1 HG.out.2 n (by omega) (by omega)
 ·have hs:sz n=1+nb n:=by simp[sz,h]
  have hk:nb n<=8:=nb_le8 hn;have hk1:1<=nb n:=by rw[nb_pos (by omega)];omega
  have ht:(1+(nb n:Int)-1==0)=false:=by simp;omega
  go_enter Tryz.func185,Tryz.ntmps185;go_wp2_with (first
   |(go_at_call 190;refine(size34 n _ hn).mono ?_;rw[hs];rintro e w1 ⟨rfl,rfl⟩)
   |(at_builtin;(refine wpList_append_own _ rfl (.tmp 27) (.tmp 31) 95 rfl (pb+1) 5 i0 (ub 0) 1 1 Tryz.underlying95 hi hz0 hz1 hz2 rfl (by decide) v l.length (cl l) rfl (HV.out.2.alloc _) ⟨w.heap.size,0,none⟩ 1 1 [ub _] rfl rfl (one_new _ _ _) (int_one _ _) (by unfold maxLen;omega) (by omega) (by simp;omega) ?_;intro v' w1 hown' hgrow _;obtain⟨ao,cp,hv'⟩:=own_shape hown';subst hv';have HG:Hid _:=And.intro hgrow hown';have c1:=cell_of_one (wr_cell HV.out.1 HV.out.2 ((Below.refl _ _).alloc (Nat.le_refl _) _) hgrow);have f1:=free_of_one (wr_cell HV.out.1 HV.out.2 ((Below.refl _ _).alloc (Nat.le_refl _) _) hgrow);clear hown' hgrow)))
  have R:=wr_put1 HV.out.1 HV.out.2 ((Below.refl _ _).alloc (Nat.le_refl _) _) HG.out.1 HG.out.2 (247+nb n) (by omega) (by omega);clear HG HV c1 f1 hc hf hca;generalize World.setCell _ _ _=W at R|-;go_loopw [4] (fun f wr=>∃k:Nat,k<=nb n/\f=iw k/\WrAt pb (l++[UInt8.ofNat (247+nb n)]++dg (n/256^k)) wr/\KeptW pb w wr) (fun f _=>(intOf f).toNat)
  case atStart=>exact⟨nb n,Nat.le_refl _,by go_num,by rw[dg_all,List.append_nil];exact R.1,R.2⟩
  case round=>
   obtain⟨k,hkn,rfl,hwr,hkept⟩:=hrel;obtain⟨L,hL⟩:∃L,L=l++[UInt8.ofNat (247+nb n)]++dg (n/256^k):=⟨_,rfl⟩;rw[<-hL]at hwr;have HL:Hid (L=l++[UInt8.ofNat (247+nb n)]++dg (n/256^k)):=hL;clear hL;obtain⟨v,hv,hown⟩:=hwr;have HV:Hid (wr.heap[pb]?=some (.cells #[v] 284 (0,0))/\wr.ownsRow (pb+1) 5 1 v L.length (cl L)/\KeptW pb w wr):=⟨hv,hown,hkept⟩;have hltr:=lt_of_block hv;have hc:=cell_of_one hv;have hf:=free_of_one hv;have hca:∀o,(wr.alloc o).cell? ⟨pb,0,none⟩=some v:=fun o=>by rw[World.cell?_alloc_lt (h:=hltr)];exact hc
   clear hv hown hkept;cases k with
   |zero=>
    go_wp2;go_end0
    refine⟨rfl,?_⟩;have hnf:numForm n=[UInt8.ofNat (247+nb n)]++dg n:=by simp[numForm,h]
    have hL:=HL.out;simp only[Nat.pow_zero,Nat.div_one]at hL;rw[hnf,<-List.append_assoc,<-hL];exact⟨⟨v,HV.out.1,HV.out.2.1⟩,HV.out.2.2⟩
   |succ k=>
    have hlen:L.length<=l.length+8:=by have h1:=congrArg List.length (dg_step n k (by omega));have h2:=nb_mono (Nat.div_le_self n (256^k));rw[List.length_append,dg_length]at h1;rw[HL.out];simp only[List.length_append,List.length_cons,List.length_nil]at h1|-;omega
    obtain⟨q,hq⟩:∃q:Nat,q=n/256^k:=⟨_,rfl⟩;have hsh:Op.shift .shr .u64 (n:Int) .i64 (IntKind.i64.wrap (8*(k:Int)))=pure (uw q):=shr8 n k q (by omega) hq;have HQ:Hid (q=n/256^k):=hq;clear hq;go_wp2_with fail
    go_region_law (refine step_append_own rfl (.tmp 43) (.tmp 49) 95 rfl (pb+1) 5 i0 (ub 0) 1 1 Tryz.underlying95 hi hz0 hz1 hz2 rfl (by decide) v L.length (cl L) (by simp[Act.eval]) (HV.out.2.1.drew.alloc _) ⟨wr.heap.size,0,none⟩ 1 1 [ub _] (by simp[Act.eval]) rfl (one_new _ _ _) (int_one _ _) (by unfold maxLen;omega) (by omega) (by simp;omega) ?_;intro v' w1 hown' hgrow;obtain⟨ao',cp',hv'⟩:=own_shape hown';subst hv';have HG:Hid _:=And.intro hgrow hown';have c1:=cell_of_one (wr_cell HV.out.1 HV.out.2.1 (((Below.refl _ _).drew).alloc (Nat.le_refl _) _) hgrow);have f1:=free_of_one (wr_cell HV.out.1 HV.out.2.1 (((Below.refl _ _).drew).alloc (Nat.le_refl _) _) hgrow);clear hown' hgrow)
    all_goals (have R:=wr_put1 HV.out.1 HV.out.2.1 (((Below.refl _ _).drew).alloc (Nat.le_refl _) _) HG.out.1 HG.out.2 (q%256) (by omega) (by simp[IntKind.wrap,IntKind.bits,IntKind.signed]))
    all_goals clear HG c1 f1
    all_goals go_wp2
    all_goals (go_roundw;(case rel=>exact⟨k,by omega,by go_num,by rw[dg_step n k (by omega),<-HQ.out,<-List.append_assoc,<-HL.out];exact R.1,HV.out.2.2.trans R.2⟩);(case measure=>simp[intOf]))
theorem text12(pb:Nat)(l:List UInt8)(s:ByteArray)(w:World)(hw:WrAt pb l w)(hl:l.length+9+s.size<=140737488355328):
  Calls Tryz.prog 244 #[pz pb,.string s] w fun e w'=>e=.returned (.tuple #[])/\WrAt pb (l++(numForm s.size++s.data.toList)) w'/\KeptW pb w w':=by
 obtain⟨i0,hi,hz0,hz1,hz2⟩:=info_parts info5;have hnl:=numForm_length s.size;have hsl:=sz_le (n:=s.size) (by omega);have HW:Hid (WrAt pb l w):=hw;clear hw;go_enter Tryz.func244,Tryz.ntmps244;go_wp2_with (first
  |(go_at_call 185;refine(num10 pb l s.size _ (by omega) HW.out (by omega)).mono ?_;rintro e w1 ⟨rfl,hw1,hk1⟩;have HK:Hid (KeptW pb w w1):=hk1;clear hk1;obtain⟨v,hv,hown⟩:=hw1;have HV:Hid (w1.heap[pb]?=some (.cells #[v] 284 (0,0))/\w1.ownsRow (pb+1) 5 1 v (l++numForm s.size).length (cl (l++numForm s.size))):=⟨hv,hown⟩;have hc:=cell_of_one hv;have hlt:=lt_of_block hv;clear hv hown)
  |(at_builtin;refine Lib.wpList_append_own_string _ rfl (.tmp 15) (.tmp 16) 95 9 rfl (pb+1) 5 i0 Tryz.underlying95 Tryz.underlying9 hi hz0 hz1 hz2 v (l++numForm s.size).length (cl (l++numForm s.size)) rfl HV.out.2 s rfl (by rw[List.length_append];unfold maxLen;omega) (by rw[List.length_append];omega) (by omega) ?_;intro v' w2 hown' hgrow _;obtain⟨ao,cp,hv'⟩:=own_shape hown';subst hv';have HG:Hid _:=And.intro hgrow hown';have c1:=cell_of_one (wr_cell HV.out.1 HV.out.2 (Below.refl _ _) hgrow);have f1:=free_of_one (wr_cell HV.out.1 HV.out.2 (Below.refl _ _) hgrow);clear hown' hgrow))
 go_end0
 have R:=wr_put (r:=s.data.toList) HV.out.1 HV.out.2 (Below.refl _ _) HG.out.1 HG.out.2;rw[List.append_assoc]at R;simp only[List.length_append,hnl]at R;exact⟨rfl,R.1,HK.out.trans R.2⟩
def flagForm(b:Bool):List UInt8:=[if b then 1 else 0]
theorem flag14(pb:Nat)(l:List UInt8)(b:Bool)(w:World)(hw:WrAt pb l w)(hl:l.length+1<=140737488355328):
  Calls Tryz.prog 245 #[pz pb,.bool b] w fun e w'=>e=.returned (.tuple #[])/\WrAt pb (l++flagForm b) w'/\KeptW pb w w':=by
 obtain⟨i0,hi,hz0,hz1,hz2⟩:=info_parts info5;obtain⟨v,hv,hown⟩:=hw;have hlt:=lt_of_block hv;have hc:=cell_of_one hv;have HV:Hid (w.heap[pb]?=some (.cells #[v] 284 (0,0))/\w.ownsRow (pb+1) 5 1 v l.length (cl l)):=⟨hv,hown⟩;have hca:∀o,(w.alloc o).cell? ⟨pb,0,none⟩=some v:=fun o=>by rw[World.cell?_alloc_lt (h:=hlt)];exact hc
 clear hv hown;cases b
 ·go_enter Tryz.func245,Tryz.ntmps245;go_wp2_with (at_builtin;refine wpList_append_own _ rfl _ _ 95 rfl (pb+1) 5 i0 (ub 0) 1 1 Tryz.underlying95 hi hz0 hz1 hz2 rfl (by decide) v l.length (cl l) rfl (HV.out.2.alloc _) ⟨w.heap.size,0,none⟩ 1 1 [ub _] rfl rfl (one_new _ _ _) (int_one _ _) (by unfold maxLen;omega) (by omega) (by simp;omega) ?_;intro v' w1 hown' hgrow _;obtain⟨ao,cp,hv'⟩:=own_shape hown';subst hv';have HG:Hid _:=And.intro hgrow hown';have c1:=cell_of_one (wr_cell HV.out.1 HV.out.2 ((Below.refl _ _).alloc (Nat.le_refl _) _) hgrow);have f1:=free_of_one (wr_cell HV.out.1 HV.out.2 ((Below.refl _ _).alloc (Nat.le_refl _) _) hgrow);clear hown' hgrow);go_end0
  exact⟨rfl,wr_put1 HV.out.1 HV.out.2 ((Below.refl _ _).alloc (Nat.le_refl _) _) HG.out.1 HG.out.2 0 (by omega) (by omega)⟩
 ·go_enter Tryz.func245,Tryz.ntmps245;go_wp2_with (at_builtin;refine wpList_append_own _ rfl _ _ 95 rfl (pb+1) 5 i0 (ub 0) 1 1 Tryz.underlying95 hi hz0 hz1 hz2 rfl (by decide) v l.length (cl l) rfl (HV.out.2.alloc _) ⟨w.heap.size,0,none⟩ 1 1 [ub _] rfl rfl (one_new _ _ _) (int_one _ _) (by unfold maxLen;omega) (by omega) (by simp;omega) ?_;intro v' w1 hown' hgrow _;obtain⟨ao,cp,hv'⟩:=own_shape hown';subst hv';have HG:Hid _:=And.intro hgrow hown';have c1:=cell_of_one (wr_cell HV.out.1 HV.out.2 ((Below.refl _ _).alloc (Nat.le_refl _) _) hgrow);have f1:=free_of_one (wr_cell HV.out.1 HV.out.2 ((Below.refl _ _).alloc (Nat.le_refl _) _) hgrow);clear hown' hgrow);go_end0
  exact⟨rfl,wr_put1 HV.out.1 HV.out.2 ((Below.refl _ _).alloc (Nat.le_refl _) _) HG.out.1 HG.out.2 1 (by omega) (by omega)⟩
theorem bytes18(pb:Nat)(l:List UInt8)(w:World)(hw:WrAt pb l w):
  Calls Tryz.prog 188 #[pz pb] w fun e w'=>e=.returned (sd l)/\w=w':=by
 obtain⟨v,hv,hown⟩:=hw;have hc:=cell_of_one hv;have hcv:=row_text hown;obtain⟨ao,cp,rfl⟩:=own_shape hown;clear hv hown;go_enter Tryz.func188,Tryz.ntmps188;go_wp2;go_ret;exact⟨rfl,rfl⟩
def stampForm(p q:Nat):List UInt8:=numForm p++numForm q
theorem stamp16(pb:Nat)(l:List UInt8)(p q:Nat)(w:World)(hp:p<18446744073709551616)(hq:q<4294967296)(hw:WrAt pb l w)(hl:l.length+18<=140737488355328):
  Calls Tryz.prog 243 #[pz pb,.agg #[uw p,ui q]] w fun e w'=>e=.returned (.tuple #[])/\WrAt pb (l++stampForm p q) w'/\KeptW pb w w':=by
 have hnl:=numForm_length p;have hsl:=sz_le hp;have HW:Hid (WrAt pb l w):=hw;have hlt:=hw.lt;clear hw;go_enter Tryz.func243,Tryz.ntmps243;go_wp2_with fail;refine(num10 pb l p _ hp (HW.out.alloc _) (by omega)).mono ?_;rintro e w1 ⟨rfl,hw1,hk1⟩;have hb1:=hk1.other w.heap.size _ (heap_alloc_new w _) (by omega) (by intro cs fz;simp);obtain⟨_,b1,_,_⟩:=two_cells hb1;have HK:Hid (WrAt pb (l++numForm p) w1/\KeptW pb w w1):=⟨hw1,((KeptW.refl pb w).alloc (by omega) _).trans hk1⟩;clear hw1 hk1 hb1;go_wp2_with fail;refine(num10 pb (l++numForm p) q _ (by omega) HK.out.1 (by rw[List.length_append];omega)).mono ?_;rintro e w2 ⟨rfl,hw2,hk2⟩;have HK2:Hid (WrAt pb (l++numForm p++numForm q) w2/\KeptW pb w w2):=⟨hw2,HK.out.2.trans hk2⟩;clear hw2 hk2;go_wp2;go_end0
 rw[stampForm,<-List.append_assoc];exact⟨rfl,HK2.out.1,HK2.out.2⟩
theorem bs_eq{s:ByteArray}{l:List UInt8}(h:s.data.toList=l):s=bs l:=by rw[<-h,bs_of]
def textForm(s:List UInt8):List UInt8:=numForm s.length++s
end Go.Proofs.YtdplfgcoaddbdaaGreat
