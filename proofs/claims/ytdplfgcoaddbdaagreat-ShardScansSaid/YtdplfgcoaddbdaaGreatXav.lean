import Derived.Shelf.Strings.Builder1
import Derived.Laws.AppendOwnNone
import Derived.Laws.ResultCell
import Derived.Test.YtdplfgcoaddbdaaGreatXar
set_option maxHeartbeats 4000000
set_option maxRecDepth 100000
set_option linter.unusedVariables false
set_option linter.unusedSimpArgs false
namespace Go.Proofs.YtdplfgcoaddbdaaGreat.Lgs
open Go.RowKit
theorem bldSize:(Tryz.prog.info? 288).map (·.size)=some 2:=by kernel_rfl
theorem bldLies:liesAt Tryz.prog Tryz.prog.depth 288 (2/Tryz.prog.cellsOf 288) 0 288 1=true:=by kernel_rfl
theorem check91_used(b:Nat)(w:World)(h0:w.cell? ⟨b,0,none⟩=some (pz b)):
  Calls Tryz.prog 224 #[pz b] w fun e w'=>e=.returned (.tuple #[])/\w'=w:=by
 obtain⟨j,hj,_⟩:=Option.map_eq_some_iff.1 bldSize;go_enter Tryz.func224,Tryz.ntmps224;go_wp2;rw[Lib.run_neq_ptr_same w _ Tryz.underlying286 hj];go_wp2;go_end0
 exact⟨rfl,rfl⟩
theorem check91_fresh(b:Nat)(w:World)(h0:w.cell? ⟨b,0,none⟩=some (.pointer none))(hsh:w.shape? b=some (288,2))(hfz:w.frozen? ⟨b,0,none⟩=false):
  Calls Tryz.prog 224 #[pz b] w fun e w'=>e=.returned (.tuple #[])/\w'=w.setCell ⟨b,0,none⟩ (pz b):=by
 obtain⟨j,hj,hjs⟩:=Option.map_eq_some_iff.1 bldSize;go_enter Tryz.func224,Tryz.ntmps224;go_wp2;rw[Lib.run_to_unsafe w ⟨b,0,none⟩ Tryz.underlying286 Tryz.underlying346 hj (by rw[hjs];decide) hsh (Nat.zero_lt_succ 1)];simp only[Result.andThen];rw[Oper.upon_value];go_wp2;rw[run_callFunc_extern Tryz.func253 (by kernel_rfl) (by kernel_rfl) (by kernel_rfl) (e:=Extern.AbiNoEscape.same) (by kernel_rfl)];rw[Lib.run_noEscape];simp only[Result.andThen];rw[Oper.upon_value];go_wp2;rw[Lib.run_from_unsafe w ⟨b,0,none⟩ Tryz.underlying346 Tryz.underlying286 hj hsh bldLies];simp only[Result.andThen];rw[Oper.upon_value];go_wp2;go_end0
 exact⟨rfl,rfl⟩
theorem check91(B b:Nat)(bs:List Value)(w:World)(h:Lib.IsBuilder 288 5 B b bs w):
  Calls Tryz.prog 224 #[pz b] w fun e w'=>e=.returned (.tuple #[])/\(Lib.BuilderAt 288 5 B b (pz b) bs w'/\Below B w w'):=by
 rcases h with h|h
 ·refine(check91_fresh b w h.cell0 h.shape h.frozen0).mono ?_;rintro e w' ⟨rfl,rfl⟩;exact⟨rfl,h.used _,(Below.refl B w).setCell (p:=⟨b,0,none⟩) h.1 _⟩
 ·refine(check91_used b w h.cell0).mono ?_;rintro e w' ⟨rfl,rfl⟩;exact⟨rfl,h,Below.refl B _⟩
theorem write73(B b:Nat)(bs:List Value)(s:ByteArray)(w:World)(h:Lib.IsBuilder 288 5 B b bs w)(hlen:bs.length+s.size<=140737488355328)(hBw:B<=w.heap.size):
  Calls Tryz.prog 186 #[pz b,.string s] w fun e w'=>e=.returned (.tuple #[iw s.size,.nilIface])/\(Lib.BuilderAt 288 5 B b (pz b) (bs++Lib.strCells s) w'/\Below B w w'):=by
 obtain⟨i0,hi,hz0,hz1,hz2⟩:=info_parts info5;go_enter Tryz.func186,Tryz.ntmps186;go_wp2_with (go_at_call 224;refine(check91 B b bs _ h).mono ?_);rintro e w1 ⟨rfl,h1,hb1⟩;obtain⟨hB,v,hbk,hown,hne⟩:=h1;have c0:w1.cell? ⟨b,0,none⟩=some (pz b):=by rw[Lib.cell_of_heap hbk];rfl
 have c1:w1.cell? ⟨b,1,none⟩=some v:=by rw[Lib.cell_of_heap hbk];rfl
 go_wp2_with (at_builtin;refine Lib.wpList_append_own_string _ rfl _ _ 95 9 rfl B 5 i0 Tryz.underlying95 Tryz.underlying9 hi hz0 hz1 hz2 _ _ _ rfl hown s rfl ?c3 ?c4 ?c5 ?_);case c3=>unfold maxLen;omega
 case c4=>omega
 case c5=>have:=hb1.size;omega
 intro v' w2 hown' hgrow _;have hlt:b<w1.heap.size:=lt_of_block hbk;have hb2:w2.heap[b]?=some (.cells #[pz b,v] 288 (0,0)):=by rw[hgrow.block b hlt (fun e=>hne e.symm)];exact hbk
 have d0:w2.cell? ⟨b,0,none⟩=some (pz b):=by rw[Lib.cell_of_heap hb2];rfl
 have d1:w2.cell? ⟨b,1,none⟩=some v:=by rw[Lib.cell_of_heap hb2];rfl
 have f1:w2.frozen? ⟨b,1,none⟩=false:=Lib.frozen_of_heap hb2 1;obtain⟨ao,n',cap,rfl⟩:∃ao n' cap,v'=.slice ao n' cap:=by
  rcases hown'.2 with⟨hv,_⟩|⟨g,cap,cur,hv,_⟩
  ·exact⟨_,_,_,hv⟩
  ·exact⟨_,_,_,hv⟩
 go_wp2
 go_ret2
 refine⟨rfl,?_,?_⟩
 ·exact Lib.BuilderAt.put (T:=288) (e:=5) hB hb2 (bs':=bs++Lib.strCells s) (by simpa[Lib.strCells_length]using hown') (by decide)
 ·exact(hb1.grown hgrow (by have:=hb1.size;omega) (fun k hk=>(hown.lt k hk).1)).setCell (p:=⟨b,1,none⟩) hB _
theorem wr_new(w:World):WrAt w.heap.size [] (w.alloc (.cells #[sy] 284)):=⟨_,heap_alloc_new w _,World.ownsRow_nil _ _ _ _⟩
theorem bs_append(a b:List UInt8):bs a++bs b=bs (a++b):=by apply bs_eq;simp[bs]
theorem own_one(w:World)(X:Int)(k base:Nat)(hk:k<256)(hX:X=(k:Int))(hb:base<=w.heap.size):
  (w.alloc (.cells #[ub X] 5)).ownsRow base 5 1 (.slice (some ⟨w.heap.size,0,none⟩) 1 1) [UInt8.ofNat k].length (cl [UInt8.ofNat k]):=by
 refine⟨by simp[cl],.inr ⟨w.heap.size,1,#[ub X],rfl,hb,heap_alloc_new w _,Nat.le_refl _,by unfold maxLen;omega,rfl,?_⟩⟩;rw[cl_one k hk,hX];rfl
open Go.RowKit Go.Sort
theorem bs_mark(l:List UInt8):(⟨#[215]⟩:ByteArray)++bs l=bs (215::l):=bs_append [215] l
theorem wrap17(p:List UInt8)(w:World)(hp:p.length<=16384):
  Calls Tryz.prog 225 #[sd p] w fun e w'=>e=.returned (.tuple #[.string (bs (frameOf p)),iw 0])/\Below w.heap.size w w':=by
 have hs:=bs_size p;have h':¬(16384:Int)<p.length:=by omega
 have hbl:(bs (textForm p)).size=sz p.length+p.length:=by rw[bs_size,textForm_len]
 have hz:=sz_small hp;go_enter Tryz.func225,Tryz.ntmps225;go_wp2_with fail;obtain⟨pb,hpb⟩:∃pb,pb=w.heap.size:=⟨_,rfl⟩;have hA:=text12 pb [] (bs p) (w.alloc (.cells #[sy] 284)) (by rw[hpb];exact wr_new w) (by simp;omega);rw[<-hpb];refine hA.mono ?_;clear hA;rintro e w2 ⟨rfl,h1,k1⟩;rw[List.nil_append,hs,bs_data]at h1;have H1:Hid (WrAt pb (textForm p) w2/\Below w.heap.size w w2):=⟨h1,((Below.refl _ _).alloc (Nat.le_refl _) _).trans (k1.below.mono (by omega))⟩;clear h1 k1 hpb;have hm:=bs_mark (textForm p);have hm2:bs (215::textForm p)++bs (four (crc (textForm p)))=bs (frameOf p):=bs_append _ _;have hml:(bs (215::textForm p)).size=sz p.length+p.length+1:=by rw[bs_size,List.length_cons,textForm_len]
 have hfl:(bs (four (crc (textForm p)))).size=4:=bs_size _;have hsl:∀w,Calls Tryz.prog 252 #[.string (bs (textForm p))] w fun e w'=>e=.returned (.string (bs (four (crc (textForm p)))))/\Below w.heap.size w w':=fun w=>by have:=seal23 (bs (textForm p)) w (by omega);rw[bs_data]at this;exact this
 have HS:Hid (∀w,1=1->Calls Tryz.prog 252 #[.string (bs (textForm p))] w fun e w'=>e=.returned (.string (bs (four (crc (textForm p)))))/\Below w.heap.size w w'):=fun w _=>hsl w;clear hsl;obtain⟨G,hG⟩:∃G,G=frameOf p:=⟨_,rfl⟩;rw[<-hG]at hm2;have HG:Hid (G=frameOf p):=hG;clear hG;generalize four (crc (textForm p))=F at*;generalize textForm p=B at*;go_wp2_with (first
  |(go_at_call 188;refine(bytes18 pb _ _ H1.out.1).mono ?_;rintro e w3 ⟨rfl,rfl⟩)
  |(go_at_call 252;refine(HS.out _ (by trivial)).mono ?_;rintro e w3 ⟨rfl,hb⟩;have HB:Hid (Below w.heap.size w w3):=H1.out.2.trans (hb.mono H1.out.2.size);clear hb))
 go_ret2
 rw[<-HG.out];exact⟨rfl,HB.out⟩
theorem below_drewN{B:Nat}{a w:World}(h:Below B a w)(n:Nat):Below B a (w.drewN n):=⟨h.os,h.tape,h.output,h.size,h.block⟩
theorem wrap40(k:Nat)(r:List UInt8)(w:World)(hk:k<256)(hr:r.length<16384):
  Calls Tryz.prog 187 #[ub k,sd r] w fun e w'=>e=.returned (.string (bs (frameOf (UInt8.ofNat k::r))))/\Below w.heap.size w w':=by
 have hcv:(convert 95 9 (.slice (some ⟨w.heap.size,0,none⟩) 1 1)).run Tryz.prog (w.alloc (.cells #[ub k] 5))=.ok (.string (bs [UInt8.ofNat k])) (w.alloc (.cells #[ub k] 5)):=row_text (own_one w k k w.heap.size hk rfl (Nat.le_refl _));have hcat:bs [UInt8.ofNat k]++bs r=bs (UInt8.ofNat k::r):=bs_append _ _;have h1:(bs [UInt8.ofNat k]).size=1:=bs_size _;have h2:(bs r).size=r.length:=bs_size _;have HW:Hid (∀w,1=1->Calls Tryz.prog 225 #[.string (bs (UInt8.ofNat k::r))] w fun e w'=>e=.returned (.tuple #[.string (bs (frameOf (UInt8.ofNat k::r))),iw 0])/\Below w.heap.size w w'):=fun w _=>wrap17 _ w (by rw[List.length_cons];omega);generalize bs (frameOf (UInt8.ofNat k::r))=F at*;generalize bs (UInt8.ofNat k::r)=X at*;generalize bs [UInt8.ofNat k]=K at*;go_enter Tryz.func187,Tryz.ntmps187;go_wp2_with (go_at_call 225;refine(HW.out _ (by trivial)).mono ?_;rintro e w2 ⟨rfl,hb⟩);go_ret;exact⟨rfl,((Below.refl _ _).alloc (Nat.le_refl _) _).trans (hb.mono (by simp))⟩
open Drm (Dr Pt DrumAt DrumIn)
theorem putF_ok{D:Dr}(h:D.Ok)(a:Int)(s:List UInt8):(putF D a s).2.Ok:=by
 unfold putF;split
 ·exact h.write a s
 ·exact(h.write a s).sync a
theorem put39(pb:Nat)(D:Dr)(a:Int)(s:List UInt8)(w:World)(hD:DrumAt pb D w)(hOk:D.Ok):Calls Tryz.prog 116 #[pz pb,iw a,sd s] w fun e w'=>e=.returned (iw (putF D a s).1)/\DrumAt pb (putF D a s).2 w'/\Drm.Kept pb w w':=by
 obtain⟨x,D1,hx⟩:∃x D1,D.write a s=(x,D1):=⟨_,_,rfl⟩;have hok1:D1.Ok:=by have:=hOk.write a s;rw[hx]at this;exact this
 have HW:Hid (1=1->Calls Tryz.prog 183 #[pz pb,iw a,sd s] w fun e w'=>e=.returned (iw x)/\DrumAt pb D1 w'/\Drm.Kept pb w w'):=fun _=>by have:=Drm.write12 pb D a s w hD hOk;rw[hx]at this;exact this
 by_cases h0:x=0
 ·subst h0;have hp:putF D a s=D1.sync a:=by unfold putF;rw[hx];simp
  rw[hp];obtain⟨y,D2,hy⟩:∃y D2,D1.sync a=(y,D2):=⟨_,_,rfl⟩;have HS:Hid (∀w1,DrumAt pb D1 w1->Calls Tryz.prog 184 #[pz pb,iw a] w1 fun e w'=>e=.returned (iw y)/\DrumAt pb D2 w'/\Drm.Kept pb w1 w'):=fun w1 h1=>by have:=Drm.sync28 pb D1 a w1 h1 hok1;rw[hy]at this;exact this
  rw[hy];dsimp only;clear hp hx hy hok1 hD hOk;go_enter Tryz.func116,Tryz.ntmps116;go_wp2_with fail;refine(HW.out (by trivial)).mono ?_;rintro e w1 ⟨rfl,h1,k1⟩;have HS1:Hid (1=1->Calls Tryz.prog 184 #[pz pb,iw a] w1 fun e w'=>e=.returned (iw y)/\DrumAt pb D2 w'/\Drm.Kept pb w1 w'):=fun _=>HS.out w1 h1;clear h1;go_wp2_with (go_at_call 184;refine(HS1.out (by trivial)).mono ?_;rintro e w2 ⟨rfl,h2,k2⟩);go_ret;exact⟨rfl,h2,k1.trans k2⟩
 ·have hp:putF D a s=(x,D1):=by unfold putF;rw[hx];simp[h0]
  rw[hp];dsimp only;have hx':(x != 0)=true:=by simp[h0]
  clear hp hx hok1 hD hOk h0;go_enter Tryz.func116,Tryz.ntmps116;go_wp2_with (go_at_call 183;refine(HW.out (by trivial)).mono ?_;rintro e w1 ⟨rfl,h1,k1⟩);go_ret;exact⟨rfl,h1,k1⟩
end Go.Proofs.YtdplfgcoaddbdaaGreat.Lgs
namespace Go.Proofs
open Go.Shelf
def Tryz.lays169_ren:Go.Shelf.Ren:=⟨fun|169=>189|n=>n,fun|70=>286|9=>9|0=>0|72=>288|37=>95|127=>324|3=>3|5=>5|n=>n,fun|n=>n⟩
theorem Tryz.lays169:Go.Proofs.Lays.n169 Tryz.prog Tryz.lays169_ren:={mixed:=by kernel_rfl,f169:=Tryz.func189.trans (congrArg some (by kernel_rfl)),t0:=Tryz.underlying0,a0:=Tryz.isAgg0,z0:=Tryz.sizeOf0,v0:=Tryz.zeroValue0,t3:=Tryz.underlying3,a3:=Tryz.isAgg3,z3:=Tryz.sizeOf3,v3:=Tryz.zeroValue3,t9:=Tryz.underlying9,a9:=Tryz.isAgg9,z9:=Tryz.sizeOf9,v9:=Tryz.zeroValue9,t37:=Tryz.underlying95,a37:=Tryz.isAgg95,z37:=Tryz.sizeOf95,v37:=Tryz.zeroValue95,t70:=Tryz.underlying286,a70:=Tryz.isAgg286,z70:=Tryz.sizeOf286,v70:=Tryz.zeroValue286,t72:=Tryz.underlying288,a72:=Tryz.isAgg288,z72:=Tryz.sizeOf288,v72:=Tryz.zeroValue288,t127:=Tryz.underlying324,a127:=Tryz.isAgg324,z127:=Tryz.sizeOf324,v127:=Tryz.zeroValue324}
theorem Tryz.Builder_Extra_169:Builder.Extra Tryz.prog Tryz.lays169_ren:={sizeBuilder:=by kernel_rfl,liesBuilder:=by kernel_rfl,t5:=Tryz.underlying5,a5:=Tryz.isAgg5,z5:=Tryz.sizeOf5,v5:=Tryz.zeroValue5,infoByte:=by kernel_rfl,cellsByte:=by kernel_rfl,sizeByte:=by kernel_rfl,neB5:=by decide}
open Go.RowKit in
theorem Tryz.Builder_String_any(B b:Nat)(l:List UInt8)(w:World)(h:Lib.IsBuilder 288 5 B b (Lib.byteCells l) w)(hBw:B<=w.heap.size):
  Calls Tryz.prog 189 #[.pointer (some ⟨b,0,none⟩)] w fun e w'=>e=.returned (.string ⟨l.toArray⟩)/\Below B w w':=Any.Builder_String_any Tryz.lays169 Tryz.Builder_Extra_169 B b l w h hBw
end Go.Proofs
namespace Go.Proofs.YtdplfgcoaddbdaaGreat.Lgs
open Go.RowKit Go.Sort
open Drm (Dr Pt DrumAt DrumIn)
def StrsAt(pb:Nat)(v:Value)(R:List (List UInt8))(w:World):Prop:=
 ∃ao cap,v=.slice ao R.length cap/\(0<R.length->∃b o,ao=some ⟨b,o,none⟩/\b≠pb/\(∀i,i<R.length->w.cell? ⟨b,o+i,none⟩=some (.string (bs (R.getD i []))))/\(b<pb\/∃cs fz,w.heap[b]?=some (.cells cs 9 fz)))
theorem _root_.Go.Proofs.YtdplfgcoaddbdaaGreat.Drm.Kept.of_below{pb:Nat}{w w':World}(hp:pb<w.heap.size)(h:Below w.heap.size w w'):Drm.Kept pb w w':=
 ⟨h.mono (Nat.le_of_lt hp),fun k o hk _ _=>by rw[h.block k (lt_of_block hk)];exact hk⟩
theorem StrsAt.nil(pb:Nat)(w:World):StrsAt pb sy [] w:=⟨none,0,rfl,fun h=>absurd h (by simp)⟩
theorem StrsAt.kept{pb:Nat}{v:Value}{R:List (List UInt8)}{w w':World}(h:StrsAt pb v R w)(hk:Drm.Kept pb w w'):StrsAt pb v R w':=by
 obtain⟨ao,cap,rfl,h⟩:=h;refine⟨ao,cap,rfl,fun h0=>?_⟩;obtain⟨b,o,rfl,hne,hc,hor⟩:=h h0;have hblk:w'.heap[b]?=w.heap[b]?:=by
  rcases hor with h1|⟨cs,fz,h1⟩
  ·exact hk.below.block b h1
  ·rw[h1];exact hk.other b _ h1 hne (by intro cs' fz' e;injection e with _ e _;exact absurd e (by decide))
 refine⟨b,o,rfl,hne,fun i hi=>?_,?_⟩
 ·have:=hc i hi;unfold World.cell? at this|-;dsimp only at this|-;rw[hblk];exact this
 ·rcases hor with h1|⟨cs,fz,h1⟩
  ·exact .inl h1
  ·exact .inr ⟨cs,fz,by rw[hblk];exact h1⟩
theorem copies_take(R:List (List UInt8))(k:Nat)(h:k<R.length):copies (R.take (k+1))=copies (R.take k)++frameOf (67::R.getD k []):=by
 have e:R.take (k+1)=R.take k++[R.getD k []]:=by rw[List.take_add_one];simp[List.getElem?_eq_getElem h,List.getD]
 rw[e,copies_snoc]
theorem copies_len(R:List (List UInt8))(k:Nat)(h:Fit R)(hk:k<=R.length):(copies (R.take k)).length<=16020*k:=by
 induction k with
 |zero=>simp[copies]
 |succ k ih=>
  rw[copies_take R k (by omega),List.length_append,frameOf_len,List.length_cons];have h1:=ih (by omega);have h2:=h (R.getD k []) (by simp[List.getD,List.getElem?_eq_getElem (by omega:k<R.length)]);have h3:=sz_small (n:=(R.getD k []).length+1) (by omega);omega
def BdAt(bb:Nat)(l:List UInt8)(w:World):Prop:=Lib.IsBuilder 288 5 bb bb (cl l) w
theorem bd_on{bb:Nat}{p:Value}{l:List Value}{w w':World}(h:Lib.BuilderAt 288 5 bb bb p l w)(hb:Below w.heap.size w w'):Lib.BuilderAt 288 5 bb bb p l w':=by have hlt:=h.lt;obtain⟨h1,v,h2,h3,h4⟩:=h;exact⟨h1,v,by rw[hb.block bb hlt,h2],h3.kept (row:=none) ⟨hb.os,hb.tape,hb.output,hb.size,fun k hk _=>hb.block k hk⟩ (by cases v.ownBlock<;>simp),h4⟩
theorem BdAt.on{bb:Nat}{l:List UInt8}{w w':World}(h:BdAt bb l w)(hb:Below w.heap.size w w'):BdAt bb l w':=by
 rcases h with h|h
 ·exact .inl (bd_on h hb)
 ·exact .inr (bd_on h hb)
theorem BdAt.lt{bb:Nat}{l:List UInt8}{w:World}(h:BdAt bb l w):bb<w.heap.size:=by
 rcases h with h|h
 ·exact h.lt
 ·exact h.lt
theorem bd_new(w:World):BdAt w.heap.size [] (w.alloc (.cells #[.pointer none,sy] 288)):=
 .inl ⟨Nat.le_refl _,_,heap_alloc_new w _,World.ownsRow_nil _ _ _ _,by simp[Value.ownBlock]⟩
theorem bdWrite(bb:Nat)(l s:List UInt8)(w:World)(h:BdAt bb l w)(hl:l.length+s.length<=140737488355328):
  Calls Tryz.prog 186 #[pz bb,sd s] w fun e w'=>e=.returned (.tuple #[iw s.length,.nilIface])/\BdAt bb (l++s) w'/\Below bb w w':=by
 have:=write73 bb bb (cl l) (bs s) w h (by rw[cl_length,bs_size];exact hl) (Nat.le_of_lt h.lt);refine this.mono ?_;rintro e w' ⟨rfl,h1,h2⟩;refine⟨by rw[bs_size],.inr ?_,h2⟩;rw[cl_append];rw[strCells_bs,bs_data]at h1;exact h1
theorem wrap40i(K:Int)(k:Nat)(c:UInt8)(r:List UInt8)(w:World)(hK:(k:Int)=K)(hc:UInt8.ofNat k=c)(hk:k<256)(hr:r.length<16384):
  Calls Tryz.prog 187 #[ub K,sd r] w fun e w'=>e=.returned (.string (bs (frameOf (c::r))))/\Below w.heap.size w w':=by
 subst hK hc;exact wrap40 k r w hk hr
theorem head48(pb g:Nat)(R:List (List UInt8))(v:Value)(w:World)(hg:g<18446744073709551616)(hR:Fit R)(hn:R.length<=1000)(hv:StrsAt pb v R w):
  Calls Tryz.prog 117 #[uw g,v] w fun e w'=>e=.returned (.string (bs (headOf g R)))/\Below w.heap.size w w':=by
 obtain⟨ao,cap,rfl,hvx⟩:=hv;have hnf:(numForm g).length<=9:=by rw[numForm_length];exact sz_le hg
 have hfg:(frameOf (71::numForm g)).length<=20:=by rw[frameOf_len,List.length_cons];have:=sz_small (n:=(numForm g).length+1) (by omega);omega
 go_enter Tryz.func117,Tryz.ntmps117;go_wp2_with fail;obtain⟨nb,hnb⟩:∃nb,nb=w.heap.size:=⟨_,rfl⟩;have h72:=num10 nb [] g (w.alloc (.cells #[sy] 284)) hg (by rw[hnb];exact wr_new w) (by simp);rw[<-hnb];refine h72.mono ?_;clear h72;rintro e w1 ⟨rfl,h1,k1⟩;rw[List.nil_append]at h1;have H1:Hid (WrAt nb (numForm g) w1/\Below nb w w1/\nb=w.heap.size):=⟨h1,by rw[hnb];exact((Below.refl _ _).alloc (Nat.le_refl _) _).trans (k1.below.mono (by omega)),hnb⟩;clear h1 k1 hnb;have hnf2:=hnf;generalize hNF:numForm g=nf at*;go_wp2_with fail;obtain⟨bb,hbb⟩:∃bb,bb=w1.heap.size:=⟨_,rfl⟩;have hw2:BdAt bb [] (w1.alloc (.cells #[.pointer none,sy] 288)):=by rw[hbb];exact bd_new w1
 have hb2:Below nb w (w1.alloc (.cells #[.pointer none,sy] 288)):=H1.out.2.1.alloc (by rw[H1.out.2.2];exact H1.out.2.1.size) _;have hwr2:WrAt nb nf (w1.alloc (.cells #[.pointer none,sy] 288)):=H1.out.1.alloc _;have hnb2:nb<=bb:=by rw[hbb,H1.out.2.2];exact H1.out.2.1.size
 rw[<-hbb];generalize w1.alloc (.cells #[.pointer none,sy] 288)=w2 at*;refine(bytes18 nb nf w2 hwr2).mono ?_;rintro e w2' ⟨rfl,rfl⟩;have H2:Hid (BdAt bb [] w2/\Below nb w w2/\nb=w.heap.size):=⟨hw2,hb2,H1.out.2.2⟩;clear hw2 hb2 hwr2 hbb H1;go_wp2_with fail;obtain⟨FG,hFG⟩:∃FG,FG=frameOf (71::nf):=⟨_,rfl⟩;have hWG:=wrap40i 71 71 71 nf w2 rfl rfl (by decide) (by omega);rw[<-hFG]at hfg hWG;have HFG:Hid (FG=frameOf (71::nf)/\numForm g=nf):=⟨hFG,hNF⟩;refine hWG.mono ?_;clear hWG hFG hNF;rintro e w3 ⟨rfl,hb3⟩;have H3:Hid (BdAt bb [] w3/\Below nb w w3/\nb=w.heap.size):=⟨H2.out.1.on hb3,H2.out.2.1.trans (hb3.mono (by have:=H2.out.1.lt;omega)),H2.out.2.2⟩;clear H2 hb3;go_wp2_with fail;refine(bdWrite bb [] FG w3 H3.out.1 (by simp;omega)).mono ?_;rintro e w4 ⟨rfl,h4,hb4⟩;rw[List.nil_append]at h4;have H4:Hid (BdAt bb FG w4/\Below nb w w4/\nb=w.heap.size/\FG=frameOf (71::nf)/\numForm g=nf):=⟨h4,H3.out.2.1.trans (hb4.mono hnb2),H3.out.2.2,HFG.out⟩;clear H3 hb4 h4;go_wp2_with fail;go_loopw [16] (fun i wr=>∃k:Nat,k<=R.length/\i=iw k/\BdAt bb (FG++copies (R.take k)) wr/\Below nb w wr) (fun i _=>R.length-(intOf i).toNat)
 case atStart=>exact⟨0,by omega,rfl,by rw[List.take_zero,show copies []=[]from rfl,List.append_nil];exact H4.out.1,H4.out.2.1⟩
 case round=>
  obtain⟨k,hk,rfl,hwr,hbel⟩:=hrel;have HR:Hid (BdAt bb (FG++copies (R.take k)) wr/\Below nb w wr/\bb<wr.heap.size):=⟨hwr,hbel,hwr.lt⟩;have hcl:=copies_len R k hR hk;clear hwr hbel;by_cases hlt:k<R.length
  ·obtain⟨b,o,rfl,hne,hc,hor⟩:=hvx (by omega);have hck:wr.cell? ⟨b,o+k,none⟩=some (.string (bs (R.getD k []))):=by have h1:=hc k hlt;have h2:b<w.heap.size:=World.block_lt_of_cell? _ _ h1;unfold World.cell? at h1|-;dsimp only at h1|-;rw[HR.out.2.1.block b (by rw[H4.out.2.2.1];exact h2)];exact h1
   have hrk:(R.getD k []).length<=16000:=hR _ (by simp[List.getD,List.getElem?_eq_getElem hlt]);have HT:Hid (copies (R.take (k+1))=copies (R.take k)++frameOf (67::R.getD k [])):=copies_take R k hlt;have hfl:(frameOf (67::R.getD k [])).length<=16020:=by rw[frameOf_len,List.length_cons];have:=sz_small (n:=(R.getD k []).length+1) (by omega);omega
   clear hc hor hvx;generalize copies (R.take k)=CP at*;generalize R.getD k []=rk at*;have HW:Hid (∀w,1=1->Calls Tryz.prog 187 #[ub 67,sd rk] w fun e w'=>e=.returned (.string (bs (frameOf (67::rk))))/\Below w.heap.size w w'):=fun w _=>wrap40i 67 67 67 rk w rfl rfl (by decide) (by omega);generalize frameOf (67::rk)=FK at*;go_wp2_with fail;refine(HW.out _ (by trivial)).mono ?_;rintro e w5 ⟨rfl,hb5⟩;have H5:Hid (BdAt bb (FG++CP) w5/\Below nb w w5):=⟨HR.out.1.on hb5,HR.out.2.1.trans (hb5.mono (by have:=HR.out.2.2;omega))⟩;clear hb5;go_wp2_with fail;refine(bdWrite bb (FG++CP) FK w5 H5.out.1 (by rw[List.length_append];omega)).mono ?_;rintro e w6 ⟨rfl,h6,hb6⟩;have H6:Hid (BdAt bb (FG++copies (R.take (k+1))) w6/\Below nb w w6):=⟨by rw[HT.out,<-List.append_assoc];exact h6,H5.out.2.trans (hb6.mono hnb2)⟩;clear h6 hb6;go_wp2_with fail;go_roundw
   case rel=>exact⟨k+1,by omega,by go_num,H6.out.1,H6.out.2⟩
   case measure=>simp[intOf];omega
  ·have hkR:R.take k=R:=List.take_of_length_le (by omega);rw[hkR]at HR hcl;have HW:Hid (∀w,1=1->Calls Tryz.prog 187 #[ub 69,su] w fun e w'=>e=.returned (.string (bs (frameOf [69])))/\Below w.heap.size w w'):=fun w _=>wrap40i 69 69 69 [] w rfl rfl (by decide) (by decide);have hE:(frameOf [69]).length=7:=by rw[frameOf_len];rfl
   have HH:Hid (headOf g R=FG++(copies R++frameOf [69])):=by show _=_;unfold headOf;rw[H4.out.2.2.2.1,<-H4.out.2.2.2.2]
   clear hkR hvx;generalize copies R=CP at*;generalize frameOf [69]=FE at*;go_wp2_with fail;refine(HW.out _ (by trivial)).mono ?_;rintro e w5 ⟨rfl,hb5⟩;have H5:Hid (BdAt bb (FG++CP) w5/\Below nb w w5):=⟨HR.out.1.on hb5,HR.out.2.1.trans (hb5.mono (by have:=HR.out.2.2;omega))⟩;clear hb5;go_wp2_with fail;refine(bdWrite bb (FG++CP) FE w5 H5.out.1 (by rw[List.length_append];omega)).mono ?_;rintro e w6 ⟨rfl,h6,hb6⟩;have H6:Hid (BdAt bb (FG++CP++FE) w6/\Below nb w w6):=⟨h6,H5.out.2.trans (hb6.mono hnb2)⟩;clear h6 hb6;go_wp2_with fail;refine(Tryz.Builder_String_any bb bb (FG++CP++FE) w6 H6.out.1 (Nat.le_of_lt H6.out.1.lt)).mono ?_;rintro e w7 ⟨rfl,hb7⟩;have H7:Hid (Below nb w w7):=H6.out.2.trans (hb7.mono hnb2);clear hb7;go_wp2_with fail;go_ret;rw[HH.out,<-H4.out.2.2.1];exact⟨rfl,H7.out⟩
theorem lay28(pb:Nat)(D:Dr)(a:Int)(g:Nat)(R:List (List UInt8))(v:Value)(w:World)(hD:DrumAt pb D w)(hOk:D.Ok)(hg:g<18446744073709551616)(hR:Fit R)(hn:R.length<=1000)(hv:StrsAt pb v R w):
  Calls Tryz.prog 59 #[pz pb,iw a,uw g,v] w fun e w'=>e=.returned (iw (layF D a g R).1)/\DrumAt pb (layF D a g R).2 w'/\Drm.Kept pb w w':=by
 obtain⟨x,D1,hx⟩:∃x D1,D.lay a=(x,D1):=⟨_,_,rfl⟩;have hok1:D1.Ok:=by have:=hOk.lay a;rw[hx]at this;exact this
 have HL:Hid (1=1->Calls Tryz.prog 115 #[pz pb,iw a] w fun e w'=>e=.returned (iw x)/\DrumAt pb D1 w'/\Drm.Kept pb w w'):=fun _=>by have:=Drm.lay11 pb D a w hD hOk;rw[hx]at this;exact this
 by_cases h0:x=0
 ·subst h0;have hp:layF D a g R=putF D1 a (headOf g R):=by unfold layF;rw[hx];simp
  rw[hp];have HH:Hid (∀w1,StrsAt pb v R w1->Calls Tryz.prog 117 #[uw g,v] w1 fun e w'=>e=.returned (.string (bs (headOf g R)))/\Below w1.heap.size w1 w'):=fun w1 h1=>head48 pb g R v w1 hg hR hn h1;have HP:Hid (∀w1,DrumAt pb D1 w1->Calls Tryz.prog 116 #[pz pb,iw a,.string (bs (headOf g R))] w1 fun e w'=>e=.returned (iw (putF D1 a (headOf g R)).1)/\DrumAt pb (putF D1 a (headOf g R)).2 w'/\Drm.Kept pb w1 w'):=fun w1 h1=>put39 pb D1 a _ w1 h1 hok1;have HV:Hid (StrsAt pb v R w):=hv;clear hp hx hok1 hD hOk hv hR;generalize (putF D1 a (headOf g R)).1=y at*;generalize (putF D1 a (headOf g R)).2=D2 at*;generalize bs (headOf g R)=HB at*;go_enter Tryz.func59,Tryz.ntmps59;go_wp2_with fail;refine(HL.out (by trivial)).mono ?_;rintro e w1 ⟨rfl,h1,k1⟩;have H1:Hid (DrumAt pb D1 w1/\Drm.Kept pb w w1/\StrsAt pb v R w1):=⟨h1,k1,HV.out.kept k1⟩;clear h1 k1;go_wp2_with fail;refine(HH.out _ H1.out.2.2).mono ?_;rintro e w2 ⟨rfl,hb2⟩;have H2:Hid (DrumAt pb D1 w2/\Drm.Kept pb w w2):=⟨H1.out.1.on hb2,H1.out.2.1.trans (Drm.Kept.of_below H1.out.1.lt hb2)⟩;clear hb2;go_wp2_with fail;refine(HP.out _ H2.out.1).mono ?_;rintro e w3 ⟨rfl,h3,k3⟩;have H3:Hid (DrumAt pb D2 w3/\Drm.Kept pb w w3):=⟨h3,H2.out.2.trans k3⟩;clear h3 k3;go_wp2_with fail;go_ret;exact⟨rfl,H3.out⟩
 ·have hp:layF D a g R=(x,D1):=by unfold layF;rw[hx];simp[h0]
  rw[hp];dsimp only;have hx':(x != 0)=true:=by simp[h0]
  clear hp hx hok1 hD hOk h0 hv hR;go_enter Tryz.func59,Tryz.ntmps59;go_wp2_with (go_at_call 115;refine(HL.out (by trivial)).mono ?_;rintro e w1 ⟨rfl,h1,k1⟩);go_ret;exact⟨rfl,h1,k1⟩
def LbAt(lb pb:Nat)(a:Int)(g:Nat)(w:World):Prop:=w.heap[lb]?=some (.cells #[pz pb,iw a,uw g] 149 (0,0))
structure LgAt(lb pb:Nat)(a:Int)(g:Nat)(D:Dr)(w:World):Prop where
 blk:LbAt lb pb a g w
 drum:DrumAt pb D w
 ne:pb<lb
section
variable {lb pb g:Nat}{a:Int}{D:Dr}{w:World}
theorem LbAt.lt(h:LbAt lb pb a g w):lb<w.heap.size:=lt_of_block h
theorem LbAt.cells(h:LbAt lb pb a g w):w.cell? ⟨lb,0,none⟩=some (pz pb)/\w.cell? ⟨lb,1,none⟩=some (iw a)/\w.cell? ⟨lb,2,none⟩=some (uw g)/\∀k,w.frozen? ⟨lb,k,none⟩=false:=by unfold LbAt at h;refine⟨?_,?_,?_,fun k=>?_⟩<;>simp[World.cell?,World.frozen?,h]
theorem LbAt.on{w':World}(h:LbAt lb pb a g w)(hb:Below w.heap.size w w'):LbAt lb pb a g w':=by unfold LbAt;rw[hb.block lb h.lt];exact h
theorem LbAt.kept{w':World}(h:LbAt lb pb a g w)(hne:pb<lb)(hk:Drm.Kept pb w w'):LbAt lb pb a g w':=
 hk.other lb _ h (by omega) (by intro cs fz e;injection e with _ e _;exact absurd e (by decide))
theorem LgAt.on{w':World}(h:LgAt lb pb a g D w)(hb:Below w.heap.size w w'):LgAt lb pb a g D w':=⟨h.blk.on hb,h.drum.on hb,h.ne⟩
theorem LgAt.kept{D':Dr}{w':World}(h:LgAt lb pb a g D w)(hd:DrumAt pb D' w')(hk:Drm.Kept pb w w'):LgAt lb pb a g D' w':=⟨h.blk.kept h.ne hk,hd,h.ne⟩
end
theorem appendF_ok{D:Dr}(h:D.Ok)(a:Int)(r:List UInt8):(appendF D a r).2.Ok:=by
 unfold appendF;split
 ·exact h
 ·exact putF_ok h _ _
theorem append18(lb pb g:Nat)(a:Int)(D:Dr)(r:List UInt8)(w:World)(h:LgAt lb pb a g D w)(hOk:D.Ok):
  Calls Tryz.prog 168 #[pz lb,sd r] w fun e w'=>e=.returned (iw (appendF D a r).1)/\LgAt lb pb a g (appendF D a r).2 w'/\Drm.Kept pb w w':=by
 have hs:(bs r).size=r.length:=bs_size _;by_cases hl:16000<r.length
 ·have hp:appendF D a r=(3,D):=by unfold appendF;rw[if_pos hl]
  rw[hp];dsimp only;have hl':(16000:Int)<r.length:=by omega
  have H:Hid _:=h;clear hp h hOk;go_enter Tryz.func168,Tryz.ntmps168;go_wp2;go_ret;exact⟨rfl,H.out,Drm.Kept.refl _ _⟩
 ·have hp:appendF D a r=putF D a (frameOf (82::r)):=by unfold appendF;rw[if_neg hl]
  rw[hp];have hl':¬(16000:Int)<r.length:=by omega
  obtain⟨c0,c1,c2,cf⟩:=h.blk.cells;have HW:Hid (∀w,1=1->Calls Tryz.prog 187 #[ub 82,sd r] w fun e w'=>e=.returned (.string (bs (frameOf (82::r))))/\Below w.heap.size w w'):=fun w _=>wrap40i 82 82 82 r w rfl rfl (by decide) (by omega);have HP:Hid (∀w1,DrumAt pb D w1->Calls Tryz.prog 116 #[pz pb,iw a,.string (bs (frameOf (82::r)))] w1 fun e w'=>e=.returned (iw (putF D a (frameOf (82::r))).1)/\DrumAt pb (putF D a (frameOf (82::r))).2 w'/\Drm.Kept pb w1 w'):=fun w1 h1=>put39 pb D a _ w1 h1 hOk;have H:Hid _:=h;clear hp h hOk;generalize putF D a (frameOf (82::r))=y at*;obtain⟨x,D1⟩:=y;generalize bs (frameOf (82::r))=F at*;dsimp only at HP|-;clear cf;go_enter Tryz.func168,Tryz.ntmps168;go_wp2_with fail;go_region_held3 (fun w'=>w'.cell? ⟨lb,0,none⟩=some (pz pb)/\w'.cell? ⟨lb,1,none⟩=some (iw a)/\Hid (LbAt lb pb a g w')) (first|exact⟨c0,c1,H.out.blk⟩|exact⟨(H.out.blk.on (Below.refl _ _).drew).cells.1,(H.out.blk.on (Below.refl _ _).drew).cells.2.1,H.out.blk.on (Below.refl _ _).drew⟩|exact⟨H1.out.1.blk.cells.1,H1.out.1.blk.cells.2.1,H1.out.1.blk⟩|exact⟨H2.out.1.blk.cells.1,H2.out.1.blk.cells.2.1,H2.out.1.blk⟩) (first
   |(go_at_call 187;refine(HW.out _ (by trivial)).mono ?_;rintro e W1 ⟨rfl,hb1⟩;have H1:Hid (LgAt lb pb a g D W1/\Below w.heap.size w W1):=⟨(H.out.on (Below.refl _ _).drew).on hb1,((Below.refl _ _).drew).trans hb1⟩;clear hb1)
   |(go_at_call 116;refine(HP.out _ H1.out.1.drum).mono ?_;rintro e W2 ⟨rfl,h2,k2⟩;have H2:Hid (LgAt lb pb a g D1 W2/\Drm.Kept pb w W2):=⟨H1.out.1.kept h2 k2,(Drm.Kept.of_below H.out.drum.lt H1.out.2).trans k2⟩;clear h2 k2))
  go_wp2_with fail;go_ret;exact⟨rfl,H2.out⟩
def CtIn(cb:Nat)(x0 x1 x2 x3:Value)(w:World):Prop:=w.heap[cb]?=some (.cells #[x0,x1,x2,x3] 142 (0,0))
section
variable {cb:Nat}{x0 x1 x2 x3:Value}{w:World}
theorem CtIn.lt(h:CtIn cb x0 x1 x2 x3 w):cb<w.heap.size:=lt_of_block h
theorem CtIn.cells(h:CtIn cb x0 x1 x2 x3 w):w.cell? ⟨cb,0,none⟩=some x0/\w.cell? ⟨cb,1,none⟩=some x1/\w.cell? ⟨cb,2,none⟩=some x2/\w.cell? ⟨cb,3,none⟩=some x3/\∀k,w.frozen? ⟨cb,k,none⟩=false:=by unfold CtIn at h;refine⟨?_,?_,?_,?_,fun k=>?_⟩<;>simp[World.cell?,World.frozen?,h]
theorem CtIn.on{w':World}(h:CtIn cb x0 x1 x2 x3 w)(hb:Below w.heap.size w w'):CtIn cb x0 x1 x2 x3 w':=by unfold CtIn;rw[hb.block cb h.lt];exact h
theorem ct_set{w:World}{b k:Nat}{cs:Array Value}{t:TypeId}{u:Value}(h:w.heap[b]?=some (.cells cs t (0,0))):(w.setCell ⟨b,k,none⟩ u).heap[b]?=some (.cells (cs.setIfInBounds k u) t (0,0)):=by
 have hlt:=lt_of_block h;have h':w.heap[b]=.cells cs t (0,0):=by simpa[Array.getElem?_eq_getElem hlt]using h
 show(w.heap.modify b _)[b]?=_;rw[Array.getElem?_eq_getElem (by simpa using hlt),Array.getElem_modify_self,h'];rfl
theorem CtIn.set0(h:CtIn cb x0 x1 x2 x3 w)(u:Value):CtIn cb u x1 x2 x3 (w.setCell ⟨cb,0,none⟩ u):=ct_set h
theorem CtIn.set1(h:CtIn cb x0 x1 x2 x3 w)(u:Value):CtIn cb x0 u x2 x3 (w.setCell ⟨cb,1,none⟩ u):=ct_set h
theorem CtIn.set2(h:CtIn cb x0 x1 x2 x3 w)(u:Value):CtIn cb x0 x1 u x3 (w.setCell ⟨cb,2,none⟩ u):=ct_set h
theorem CtIn.set3(h:CtIn cb x0 x1 x2 x3 w)(u:Value):CtIn cb x0 x1 x2 u (w.setCell ⟨cb,3,none⟩ u):=ct_set h
end
theorem info71:(Tryz.prog.info? 142).map (·.size)=some 4:=by kernel_rfl
theorem load_ct{cb:Nat}{x0 x1 x2 x3:Value}{w:World}(h:CtIn cb x0 x1 x2 x3 w):(loadVar 142 ⟨cb,0,none⟩).run Tryz.prog w=.ok (.agg #[x0,x1,x2,x3]) w:=
 run_loadVar_row w cb 142 142 #[x0,x1,x2,x3] (0,0) _ h Tryz.underlying142 rfl info71
theorem results_new{cb:Nat}{x0 x1 x2 x3:Value}{w:World}(h:CtIn cb x0 x1 x2 x3 w){tmps:Array Value}(hp:tmps.getD 3 undef=.pointer (some ⟨cb,0,none⟩)):
  (results Tryz.f57 tmps).run Tryz.prog w=.ok (.tuple #[tmps.getD 2 undef,.agg #[x0,x1,x2,x3],tmps.getD 4 undef]) w:=by
 have hp':tmps[3]?.getD undef=.pointer (some ⟨cb,0,none⟩):=by simpa using hp
 simp[results,hp',asAddr,load_ct h,Result.andThen]
def set4(w:World)(fb:Nat)(a b c d:Value):World:=(((w.setCell ⟨fb,0,none⟩ a).setCell ⟨fb,1,none⟩ b).setCell ⟨fb,2,none⟩ c).setCell ⟨fb,3,none⟩ d
theorem set4_ct{fb:Nat}{x0 x1 x2 x3:Value}{w:World}(h:CtIn fb x0 x1 x2 x3 w)(a b c d:Value):CtIn fb a b c d (set4 w fb a b c d):=(((h.set0 a).set1 b).set2 c).set3 d
theorem set4_below{fb B:Nat}{w0 w:World}(h:Below B w0 w)(hb:B<=fb)(a b c d:Value):Below B w0 (set4 w fb a b c d):=
 (((h.setCell (p:=⟨fb,0,none⟩) hb a).setCell (p:=⟨fb,1,none⟩) hb b).setCell (p:=⟨fb,2,none⟩) hb c).setCell (p:=⟨fb,3,none⟩) hb d
theorem CtIn.kept{cb pb:Nat}{x0 x1 x2 x3:Value}{w w':World}(h:CtIn cb x0 x1 x2 x3 w)(hp:cb≠pb)(hk:Drm.Kept pb w w'):CtIn cb x0 x1 x2 x3 w':=
 hk.other cb _ h hp (by intro cs fz e;injection e with _ e _;exact absurd e (by decide))
end Go.Proofs.YtdplfgcoaddbdaaGreat.Lgs
